import PyProof.Rows.All
import Wide.All
import OpenK.AllK
import Wide.FinOn
import PyProof.EqAt
import PyProof.EqKinds
import PyProof.TupleCall
import HandS.ForMost
import HandS.More
import HandS.Set
import HandS.SetFor
import HandS.Strs
import HandS.ExcInit
import HandS.ExcIs
import HandS.ExcField
import HandS.IsInst
import HandS.ExcOwn
import KE.KExcInit
import HandS.OwnEq
import HandS.DeepEq
import HandS.MakeKwOnly
import PyProof.InstEq
import HandS.CallSlots
import HandS.HeadNt
import HandS.Walk
import HandS.Gcd
import HandS.Property
import HandS.Defaults
import HandS.Wide
import HandS.WideBits
import HandS.StrMore
import HandS.FStr
import HandS.DictComp
import HandS.Conv
import HandS.Flow
import HandS.Head0
import HandS.Head1
import HandS.Head2
import HandS.Head3
import HandS.HeadEnd
import HandS.HeadHook1
import HandS.HeadHook2
import HandS.EndBits
import HandS.NoneIn
import HandS.ForExc
import HandS.TryOnly
import HandS.Comp
import HandS.Dict
import HandS.DictEq
import HandS.List
import PyProof.P3Eq
import HandS.Style
import HandS.Zip
import HandS.RaiseMore
import PyProof.StrBlock2
import HandS.MakeKw
import OpenK.KMeth
import HandS.TupAny
import HandS.Iter
import KE.GoesNew
import KE.KDictWalk
import HandS.Deep
import HandS.Star
import HandS.TupMul
import PySem.Challenge.RW_keyspans_k06_whole_what_parts_two_stages
set_option Elab.async false
set_option linter.all false
set_option maxRecDepth 100000
set_option maxHeartbeats 0
/-! Sets of texts: made of a list or a tuple of texts, sorted. -/
namespace Jd
open PySem PySem.Spec PyProof.Rows L2

def txK (e : Int × Value) : Str := match e.2 with
  | .str x _ => x
  | _ => Str.empty
def TxE (P : Program) (w : World) (e : Int × Value) : Prop := ∃ x tk, e.2 = Value.str x tk ∧ e.1 = (PySem.strKind P w).hash x
/-- the table holds the texts xs, each once -/
structure TxHas (P : Program) (w : World) (xs : List Str) (es : Array (Int × Value)) : Prop where
  good : ∀ e ∈ es.toList, TxE P w e
  perm : (es.toList.map txK).Perm xs
  nd : xs.Nodup
theorem TxHas.move {P : Program} {w : World} {xs : List Str} {es es' : Array (Int × Value)} (g : TxHas P w xs es) (p : es'.toList.Perm es.toList) : TxHas P w xs es' :=
  { good := fun e he => g.good e (p.mem_iff.mp he), perm := (p.map txK).trans g.perm, nd := g.nd }
theorem TxHas.size {P : Program} {w : World} {xs : List Str} {es : Array (Int × Value)} (g : TxHas P w xs es) : es.size = xs.length := by
  have q := g.perm.length_eq
  rw [List.length_map, Array.length_toList] at q
  exact q
/-- the set of texts at a -/
def TxS (P : Program) (w : World) (h : Heap) (a : Addr) (xs : List Str) : Prop :=
  ∃ o es ep t, h.get? a = some o ∧ o.ExactSet ∧ o.data = .set es ep t ∧ TxHas P w xs es ∧
    (es.size < scanBound ∧ t.fits es.size = true) ∧ Ris t.place.toList ∧ (w.params.followText "set-order" = true ∨ t.led = true)
section
variable {P : Program} {w : World} {h h' : Heap} {a : Addr} {xs : List Str}
theorem TxS.to (R : TxS P w h a xs) (k : ∀ o, h.get? a = some o → h'.get? a = some o) : TxS P w h' a xs := by
  obtain ⟨o, es, ep, t, q0, q1⟩ := R
  exact ⟨o, es, ep, t, k o q0, q1⟩
theorem tx_elems {l : List (Int × Value)} (g : ∀ e ∈ l, TxE P w e) : ElemsOf (PySem.strKind P w) l := by
  intro e he
  obtain ⟨x, tk, q1, q2⟩ := g e he
  refine ⟨⟨x, ?_, q2⟩, ?_⟩
  · rw [q1]
    exact PySem.strKind_is P w x tk
  · rw [q1]
    rfl
theorem tx_is {e : Int × Value} (g : TxE P w e) (x : Str) : (PySem.strKind P w).is x e.2 = true ↔ txK e = x := by
  obtain ⟨y, tk, q1, _⟩ := g
  have e1 : txK e = y := by
    unfold txK
    rw [q1]
  rw [e1, q1]
  show (Value.isStrOf x (.str y tk) = true) ↔ y = x
  simp [Value.isStrOf]
theorem tx_mem {l : List (Int × Value)} (g : ∀ e ∈ l, TxE P w e) (x : Str) : x ∈ l.map txK ↔ ∃ e ∈ l, (PySem.strKind P w).is x e.2 = true := by
  rw [List.mem_map]
  exact ⟨fun ⟨e, he, q⟩ => ⟨e, he, (tx_is (g e he) x).mpr q⟩, fun ⟨e, he, q⟩ => ⟨e, he, (tx_is (g e he) x).mp q⟩⟩
end
section
variable {P : Program} {w : World} {A : Around} {E : Value → Shared → Prop} {s : Shared} {a : Addr}
theorem tx_tail {g : Bool → Sem Unit} (hg : ∀ (b : Bool) (s₁ : Shared) (Q' : Unit → Shared → Prop), Q' () s₁ → wpAny (model P w) A (g b) Q' E s₁)
    {o : Obj} {es : Array (Int × Value)} {ep : Nat} {t : SetTable} (q0 : s.heap.get? a = some o) (q1 : o.ExactSet) (q2 : o.data = .set es ep t)
    {es1 : Array (Int × Value)} {t2 : SetTable} {xs : List Str} (q3 : TxHas P w xs es1)
    (q4 : es1.size < scanBound) (q5 : t2.fits es1.size = true) (q6 : Ris t2.place.toList) (q7 : w.params.followText "set-order" = true ∨ t2.led = true) {wasDummy : Bool} {R : Option Bool → Shared → Prop}
    (fin : ∀ hz, Heap.SameBut a s.heap hz → TxS P w hz a xs → R (some true) { s with heap := hz }) :
    wpAny (model P w) A (do
        storeSet a es1 t2
        if (!wasDummy && t2.tooFull) = true then do
            g (relayAll t2 es1 (SetTable.grown es1.size)).2.2
            storeSet a (relayAll t2 es1 (SetTable.grown es1.size)).1 (relayAll t2 es1 (SetTable.grown es1.size)).2.1
            pure (some true)
          else pure (some true)) R E s := by
  refine wpAny_bind (wpAny_storeSet_of q0 q2 ?_ (fits_of_scanBound q4))
  have r0 := store_at (es' := es1) (t' := t2) q0 q2
  have r1 := Heap.SameBut.update s.heap a (Obj.putSet es1 t2)
  split
  · have z1 := relayAll_perm t2 es1 (SetTable.grown es1.size)
    have z2 := relayAll_fits t2 es1 (SetTable.grown es1.size)
    have z3 := relayAll_ris t2 es1 (SetTable.grown es1.size)
    have z4 := relayAll_led t2 es1 (SetTable.grown es1.size)
    generalize relayAll t2 es1 (SetTable.grown es1.size) = Z at z1 z2 z3 z4 ⊢
    obtain ⟨es2, t3, gv⟩ := Z
    dsimp only at z1 z2 z3 z4 ⊢
    have q8 := q3.move z1
    have q9 : es2.size < scanBound := by rw [q8.size, ← q3.size]; exact q4
    refine wpAny_bind (hg _ _ _ ?_)
    refine wpAny_bind (wpAny_storeSet_of r0 rfl ?_ (fits_of_scanBound q9))
    have r2 := store_at (es' := es2) (t' := t3) r0 rfl
    refine wpAny_pure (fin _ (r1.trans (Heap.SameBut.update _ a _)) ?_)
    exact ⟨_, es2, _, t3, r2, q1, rfl, q8, ⟨q9, z2⟩, z3, q7.imp id fun z => by rw [z4]; exact z⟩
  · exact wpAny_pure (fin _ r1 ⟨_, es1, _, t2, r0, q1, rfl, q3, ⟨q4, q5⟩, q6, q7⟩)

def txAdd (xs : List Str) (x : Str) : List Str := if x ∈ xs then xs else x :: xs
theorem txAdd_len (xs : List Str) (x : Str) : (txAdd xs x).length ≤ xs.length + 1 := by
  unfold txAdd
  split
  · omega
  · exact Nat.le_refl _
theorem tx_add {x : Str} {tk : Tok} {xs : List Str} {Q : Bool → Shared → Prop} (R : TxS P w s.heap a xs) (room : xs.length + 1 < scanBound)
    (fin : ∀ hz b, Heap.SameBut a s.heap hz → TxS P w hz a (txAdd xs x) → Q b { s with heap := hz }) :
    wpAny (model P w) A (setAddHashed a (.str x tk) ((PySem.strKind P w).hash x)) Q E s := by
  obtain ⟨o, es, ep, t, q0, q1, q2, q3, ⟨q4, q5⟩, q6, q7⟩ := R
  have i1 : (PySem.strKind P w).is x (.str x tk) = true := PySem.strKind_is P w x tk
  have i2 : (Value.str x tk).scannable = true := rfl
  have i3 : ElemsOf (PySem.strKind P w) es.toList := tx_elems q3.good
  unfold setAddHashed setAddHashedIn
  refine wpAny_holding (wpAny_bind (wpAny_setState_of q0 q2 q5 ?_))
  dsimp only
  rw [byScan_of i2 q4 i3]
  simp only [↓reduceIte]
  unfold setAddByScan
  refine wpAny_bind ?_
  refine wpAny_bind (wpAny_rule ?_)
  refine wpAny_bind (wpAny_setScan_of i1 q0 q2 q5 i3 ?_)
  cases hf : List.findIdx? (fun e => (PySem.strKind P w).is x e.2) es.toList with
  | some j =>
    dsimp only
    obtain ⟨hj, pj, _⟩ := List.findIdx?_eq_some_iff_getElem.mp hf
    have hin : x ∈ xs := q3.perm.mem_iff.mp ((tx_mem (P := P) (w := w) q3.good x).mpr ⟨es.toList[j], List.getElem_mem hj, pj⟩)
    refine wpAny_pure (wpAny_pure ?_)
    refine fin s.heap false (Heap.SameBut.refl a s.heap) ?_
    unfold txAdd
    rw [if_pos hin]
    exact ⟨o, es, ep, t, q0, q1, q2, q3, ⟨q4, q5⟩, q6, q7⟩
  | none =>
    dsimp only
    have hno : x ∉ xs := fun z => by
      obtain ⟨e, he, q⟩ := (tx_mem (P := P) (w := w) q3.good x).mp (q3.perm.mem_iff.mpr z)
      have c := List.findIdx?_eq_none_iff.mp hf e he
      rw [q] at c
      cases c
    have gw : ∀ (b : Bool) {s₁ : Shared} {Q' : Unit → Shared → Prop}, Q' () s₁ → wpAny (model P w) A (match b with | true => rule "set.scan.the-table-gave-way" | false => pure ()) Q' E s₁ := by
      intro b s₁ Q' q
      cases b <;> first | exact wpAny_pure q | exact wpAny_rule q
    have z1 := layNew_perm t es ((PySem.strKind P w).hash x) (.str x tk)
    have z2 := layNew_fits t es ((PySem.strKind P w).hash x) (.str x tk)
    have z3 := layNew_ris t es ((PySem.strKind P w).hash x) (.str x tk) q6
    have z4 := layNew_led t es ((PySem.strKind P w).hash x) (.str x tk)
    generalize layNew t es ((PySem.strKind P w).hash x) (.str x tk) = Z at z1 z2 z3 z4 ⊢
    obtain ⟨es1, t1, wasDummy, gave⟩ := Z
    dsimp only at z1 z2 z3 z4 ⊢
    rw [Array.toList_push] at z1
    have pc : es1.toList.Perm (((PySem.strKind P w).hash x, Value.str x tk) :: es.toList) := z1.trans (List.perm_append_singleton _ _)
    have g1 : TxHas P w (x :: xs) es1 :=
      { good := fun e he => by
          rcases List.mem_cons.mp (pc.mem_iff.mp he) with z | z
          · rw [z]
            exact ⟨x, tk, rfl, rfl⟩
          · exact q3.good e z
        perm := (pc.map txK).trans (List.Perm.cons x q3.perm)
        nd := List.nodup_cons.mpr ⟨hno, q3.nd⟩ }
    have hb1 : es1.size < scanBound := by rw [g1.size]; exact room
    have hled : w.params.followText "set-order" = true ∨ t1.led = true := q7.imp id fun z => by rw [z4]; exact z
    have last : ∀ hz, Heap.SameBut a s.heap hz → TxS P w hz a (x :: xs) → Q true { s with heap := hz } := fun hz sb r => by
      refine fin hz true sb ?_
      unfold txAdd
      rw [if_neg hno]
      exact r
    refine wpAny_bind (gw _ ?_)
    split
    · refine wpAny_bind ?_
      rw [hashByValue_scannable 8 i2]
      refine wpAny_pure ?_
      refine tx_tail ?_ q0 q1 q2 g1 hb1 ?_ ?_ ?_ ?_
      · intro b s₁ Q' q; cases b <;> first | exact wpAny_pure q | exact wpAny_rule q
      · first | (split <;> first | exact z2 | exact SetTable.fits_plain_off z2) | exact z2
      · first | (split <;> exact z3) | exact z3
      · first | (split <;> exact hled) | exact hled
      · intro hz sb r; dsimp only; exact wpAny_pure (last hz sb r)
    · refine wpAny_bind (wpAny_pure ?_)
      simp only [↓reduceIte]
      refine tx_tail ?_ q0 q1 q2 g1 hb1 z2 z3 hled ?_
      · intro b s₁ Q' q; cases b <;> first | exact wpAny_pure q | exact wpAny_rule q
      · intro hz sb r; dsimp only; exact wpAny_pure (last hz sb r)
end
end Jd
namespace Jd
open PySem PySem.Spec PyProof.Rows L2
abbrev ledW (w : World) : Bool := !w.params.followText "set-order"
abbrev bareS (w : World) : Obj := { cls := .type "set", dict := none, data := .set #[] 0 (.fresh 0 0 (ledW w)) }
abbrev putS (w : World) (h : Heap) : Heap := h.push (bareS w)
theorem bare_tx {P : Program} {w : World} {h : Heap} {a : Addr} (q : h.get? a = some (bareS w)) : TxS P w h a [] :=
  ⟨_, #[], 0, _, q, ⟨rfl, rfl, rfl⟩, rfl, ⟨fun e he => (by simp at he), List.Perm.nil, List.nodup_nil⟩, ⟨by decide, by rfl⟩, List.Pairwise.nil, by
    show _ ∨ ledW w = true
    unfold ledW
    cases w.params.followText "set-order"
    · exact .inr rfl
    · exact .inl rfl⟩
theorem tx_at : ∀ {us : List Value} {xs : List Str}, StrsAre us xs → ∀ (i : Nat) (v : Value), us[i]? = some v → ∃ k t, xs[i]? = some k ∧ v = .str k t
  | _, _, .nil, i, v, h => by simp at h
  | _, _, .cons n t hr, 0, v, h => ⟨n, t, rfl, (Option.some.inj h).symm⟩
  | _, _, .cons n t hr, i + 1, v, h => tx_at hr i v h
def txAll (xs : List Str) : List Str := xs.foldl txAdd []
theorem txAll_in : ∀ (xs acc : List Str) (x : Str), x ∈ xs.foldl txAdd acc ↔ x ∈ xs ∨ x ∈ acc
  | [], acc, x => by simp
  | y :: r, acc, x => by
    show x ∈ r.foldl txAdd (txAdd acc y) ↔ _
    rw [txAll_in r (txAdd acc y) x, List.mem_cons]
    have e : x ∈ txAdd acc y ↔ x = y ∨ x ∈ acc := by
      unfold txAdd
      split
      · rename_i hy
        exact ⟨.inr, fun z => z.elim (fun q => q ▸ hy) id⟩
      · exact List.mem_cons
    rw [e]
    constructor
    · rintro (z | z | z)
      · exact .inl (.inr z)
      · exact .inl (.inl z)
      · exact .inr z
    · rintro ((z | z) | z)
      · exact .inr (.inl z)
      · exact .inl z
      · exact .inr (.inr z)
theorem txAll_len : ∀ (xs acc : List Str), (xs.foldl txAdd acc).length ≤ acc.length + xs.length
  | [], acc => Nat.le_refl _
  | y :: r, acc => by
    have q := txAll_len r (txAdd acc y)
    have q2 := txAdd_len acc y
    show (r.foldl txAdd (txAdd acc y)).length ≤ acc.length + (r.length + 1)
    omega
theorem take_step {xs : List Str} {i : Nat} {z : Str} (hz : xs[i]? = some z) : txAll (xs.take (i + 1)) = txAdd (txAll (xs.take i)) z := by
  unfold txAll
  rw [List.take_add_one, hz, List.foldl_append]
  rfl
section
variable {P : Program} {w : World} {A : Around} {E : Value → Shared → Prop} {s : Shared}
theorem tx_loop {I : Addr} {fp wr : List Addr} {G : Array GenState → Array GenState → Prop} {n : Nat} {Pv : Nat → Value → Prop} {St : Nat → Shared → Prop} {R : Result → Shared → Prop}
    (W : WalksS P w A.in1 I fp wr G n Pv St) (S : Addr) (away : S ∉ fp) (xs : List Str) (hn : n = xs.length) (hb : xs.length + 1 < scanBound) (hval : ∀ i v, Pv i v → ∃ k t, xs[i]? = some k ∧ v = .str k t) :
    ∀ (k i : Nat) (s : Shared), n - i = k → i ≤ n → St i s → TxS P w s.heap S (txAll (xs.take i)) →
      (∀ s', Moved (S :: wr) G s s' → TxS P w s'.heap S (txAll xs) → R (.ok (.ret .none)) s') →
      codeAny (model P w) A (.builtin "set.update.loop" ⟨[.ref S, .ref I], []⟩) R s := by
  have nw : S ∉ wr := fun h => away (W.sub _ h)
  have more : ∀ b ∈ wr, b ∈ S :: wr := fun b hb => List.mem_cons_of_mem _ hb
  intro k
  induction k with
  | zero =>
    intro i s hk' hi hst hS hR
    obtain rfl : i = n := by omega
    refine codeAny_builtin F.entry_set_update_loop ?_
    rw [Around.under_plainId F.plain_set_update_loop _]
    show wpAny _ A.in1 (pyNext (.ref I) >>= _) _ _ s
    refine wpAny_bind (W.done s _ _ hst fun s' hm => ?_)
    show wpAny _ A.in1 (ret Value.none) _ _ s'
    rw [List.take_of_length_le (by omega : xs.length ≤ i)] at hS
    exact wpAny_pure (hR s' (hm.mono more) (hS.to fun o e => hm.heap S o nw e))
  | succ k ih =>
    intro i s hk' hi hst hS hR
    have lt : i < n := by omega
    refine codeAny_builtin F.entry_set_update_loop ?_
    rw [Around.under_plainId F.plain_set_update_loop _]
    show wpAny _ A.in1 (pyNext (.ref I) >>= _) _ _ s
    refine wpAny_bind (W.item i s _ _ lt hst fun v s' hP hst' hm => ?_)
    obtain ⟨z, t, hz, rfl⟩ := hval i v hP
    have hS' : TxS P w s'.heap S (txAll (xs.take i)) := hS.to fun o e => hm.heap S o nw e
    show wpAny _ A.in1 (holding [Value.str z t] (setAdd S (.str z t)) >>= _) _ _ s'
    refine wpAny_bind (wpAny_holding ?_)
    unfold setAdd
    refine wpAny_holding ?_
    refine wpAny_bind ((PySem.strKind P w).pyHash (k := z) (PySem.strKind_is _ _ _ _) ?_)
    have few : (txAll (xs.take i)).length + 1 < scanBound := by
      have q := txAll_len (xs.take i) []
      have q2 : (xs.take i).length ≤ xs.length := by rw [List.length_take]; omega
      have q3 : ([] : List Str).length = 0 := rfl
      unfold txAll
      omega
    refine tx_add (s := { s' with toks := s'.toks + 1 }) hS' few fun h' bb hsb hS2 => ?_
    rw [← take_step hz] at hS2
    refine wpAny_pure ⟨plainId_quiet F.plain_set_update_loop _, ih (i + 1) _ (by omega) lt (W.frame _ s' _ _ hst' (Nat.le_succ _) fun b hb o e => ?_) hS2 fun s'' hm'' hS'' => ?_⟩
    · rw [hsb.2 b (fun q : b = S => away (by rw [← q]; exact hb))]; exact e
    · refine hR s'' (Moved.trans W.gtrans ((hm.mono more).then_heap (Nat.le_succ _) fun b o hb e => ?_) hm'') hS''
      rw [hsb.2 b (fun q : b = S => hb (by rw [q]; exact List.mem_cons_self))]; exact e

set_option maxHeartbeats 8000000 in
theorem tx_of_list {l : Addr} {items : Array Value} (xs : List Str) {Q : Value → Shared → Prop} (calm : A.handled = none) (hl : s.heap.IsList l items) (hit : StrsAre items.toList xs) (hb : xs.length + 1 < scanBound)
    (fin : ∀ (hz : Heap) (tk : Nat), TxS P w hz s.heap.objs.size (txAll xs) → (∀ b o, s.heap.get? b = some o → hz.get? b = some o) → Q (.ref s.heap.objs.size) { s with heap := hz, toks := tk }) :
    wpAny (model P w) A (call (.type "set") [.ref l]) Q E s := by
  have hisz : items.size = xs.length := by
    have q := hit.length
    rw [Array.length_toList] at q
    exact q
  obtain ⟨c, tl, hmro⟩ := F.called_set.mro
  have z0 := F.called_set.made
  have z1 := F.called_set.sub
  refine wpAny_call (codeAny_of_tree ?_)
  show wpAny _ _ (callAny (.type "set") _) _ _ _
  refine wpAny_pure ⟨Code.quiet_builtin _ (by decide +kernel), codeAny_builtin F.entry_type_call ?_⟩
  rw [Around.under_plain (weight_type_call_type "set" [.ref l] []) rfl]
  have z2 := F.called_set.notType
  have z3 := F.called_set.canCreate
  have z4 := F.typeCall_set_1 (.ref l)
  repeat (any_goals (first | assumption | wp_step))
  refine codeAny_mono (code_set_led1 (.ref l) (E := E) (Q₁ := fun obj s₁ => obj = .ref s.heap.objs.size ∧ s₁ = { s with heap := putS w s.heap }) ⟨rfl, rfl⟩) fun r s₁ hr => ?_
  cases r with
  | error e => exact hr
  | ok fl =>
    cases fl with
    | ret obj =>
      obtain ⟨rfl, rfl⟩ := hr
      have hS : (putS w s.heap).get? s.heap.objs.size = some (bareS w) := Heap.get?_push_size _ rfl
      have hT : Shared.TypeIs { s with heap := putS w s.heap } (.ref s.heap.objs.size) "set" := ⟨_, hS, rfl⟩
      have z5 := F.called_set.init.lookup
      have z6 := F.called_set.init.bind (.ref s.heap.objs.size)
      repeat (any_goals (first | assumption | wp_step))
      refine codeAny_mono (codeAny_call_builtin (R := wants (fun r s₂ => r = .none ∧ ∃ hz tk, s₂ = { s with heap := hz, toks := tk } ∧ TxS P w hz s.heap.objs.size (txAll xs) ∧
          (∀ b o, s.heap.get? b = some o → hz.get? b = some o)) E) F.called_set.init.plain F.entry_set_init (check_set_init_1 hT ?_)) fun r₂ s₂ hr₂ => ?_
      · obtain ⟨ol, hol, hcl, nl, hdl⟩ := hl
        obtain ⟨oc, od, dt, osl⟩ := ol
        simp only at hcl hdl
        subst hcl
        subst hdl
        have hol' : (putS w s.heap).get? l = some { cls := .type "list", dict := od, data := .seq items nl, slots := osl } := Heap.get?_push_of_some _ hol
        have z7 := F.sub_list_set
        have z8 := F.sub_list_frozenset
        have z9 : (Value.type "list" == Value.type "dict") = false := by decide
        have hl1 : (putS w s.heap).IsList l items := ⟨_, hol', rfl, nl, rfl⟩
        unfold Builtin.«set.__init__» noKeywords Builtin.Frozenset.updateFrom
        generalize hPI : pyIter = PI
        wp_walk
        subst hPI
        refine wpAny_pyIter_list hl1 ?_
        refine wpAny_bind (wpAny_runValue ?_)
        have lt : l < s.heap.objs.size := Heap.lt_size hol
        have calm3 : A.in1.in1.in1.handled = none := by simp [calm]
        have sz1 : (putS w s.heap).objs.size = s.heap.objs.size + 1 := Heap.size_push ..
        have neI : l ≠ (putS w s.heap).objs.size := by
          rw [sz1]
          exact Nat.ne_of_lt (Nat.lt_succ_of_lt lt)
        have away : s.heap.objs.size ∉ [(putS w s.heap).objs.size, l] := by
          rw [sz1]; simp only [List.mem_cons, List.mem_singleton, List.not_mem_nil, or_false, not_or]
          exact ⟨Nat.ne_of_lt (Nat.lt_succ_self _), Nat.ne_of_gt lt⟩
        have hval : ∀ (i : Nat) (v : Value), items[i]? = some v → ∃ k t, xs[i]? = some k ∧ v = .str k t := fun i v hv => by
          have hi : i < xs.length := by rw [← hisz]; exact (Array.getElem?_eq_some_iff.mp hv).1
          exact tx_at hit i v (by rw [Array.getElem?_toList]; exact hv)
        refine tx_loop ((Walks.list calm3 _ l neI items).toS) s.heap.objs.size
          away xs hisz hb hval (items.size - 0) 0 _ (by omega) (Nat.zero_le _)
          ⟨⟨_, Heap.get?_push_size _ rfl, rfl, rfl⟩, (hl1.push _)⟩ ?hS0 ?hR
        case hS0 =>
          exact bare_tx (Heap.get?_push_of_some _ hS)
        case hR =>
          intro s' hm hS'
          obtain ⟨h', g2, d', tk', os'⟩ := s'
          have eg : g2 = s.gens := hm.gens
          have ed : d' = s.drawn := hm.drawn
          have eo : os' = s.os := hm.os
          subst eg; subst ed; subst eo
          show wpAny _ _ _ _ _ _
          refine wpAny_pure ?_
          show wpAny _ _ (ret Value.none) _ _ _
          refine wpAny_pure ⟨rfl, h', tk', rfl, hS', fun b o e => ?_⟩
          have b0 : b < s.heap.objs.size := Heap.lt_size e
          have b1 : b ≠ s.heap.objs.size := Nat.ne_of_lt b0
          have b2 : b ≠ (putS w s.heap).objs.size := by
            rw [sz1]
            exact Nat.ne_of_lt (Nat.lt_succ_of_lt b0)
          exact hm.heap b o (by simp only [List.mem_cons, List.mem_singleton, List.not_mem_nil, or_false, not_or]; exact ⟨b1, b2⟩) (Heap.get?_push_of_some _ (Heap.get?_push_of_some _ e))
      · cases r₂ with
        | error e => exact hr₂
        | ok fl₂ =>
          cases fl₂ with
          | ret r =>
            obtain ⟨rfl, h', tk, rfl, hS', hk'⟩ := hr₂
            repeat (any_goals (first | assumption | wp_step))
            exact fin _ _ hS' hk'
          | _ => exact hr₂.elim
    | _ => exact hr.elim

set_option maxHeartbeats 8000000 in
theorem tx_of_tuple {l : Addr} {items : Array Value} (xs : List Str) {Q : Value → Shared → Prop} (calm : A.handled = none) (hl : s.heap.IsTuple l items) (hit : StrsAre items.toList xs) (hb : xs.length + 1 < scanBound)
    (fin : ∀ (hz : Heap) (tk : Nat), TxS P w hz s.heap.objs.size (txAll xs) → (∀ b o, s.heap.get? b = some o → hz.get? b = some o) → Q (.ref s.heap.objs.size) { s with heap := hz, toks := tk }) :
    wpAny (model P w) A (call (.type "set") [.ref l]) Q E s := by
  have hisz : items.size = xs.length := by
    have q := hit.length
    rw [Array.length_toList] at q
    exact q
  obtain ⟨c, tl, hmro⟩ := F.called_set.mro
  have z0 := F.called_set.made
  have z1 := F.called_set.sub
  refine wpAny_call (codeAny_of_tree ?_)
  show wpAny _ _ (callAny (.type "set") _) _ _ _
  refine wpAny_pure ⟨Code.quiet_builtin _ (by decide +kernel), codeAny_builtin F.entry_type_call ?_⟩
  rw [Around.under_plain (weight_type_call_type "set" [.ref l] []) rfl]
  have z2 := F.called_set.notType
  have z3 := F.called_set.canCreate
  have z4 := F.typeCall_set_1 (.ref l)
  repeat (any_goals (first | assumption | wp_step))
  refine codeAny_mono (code_set_led1 (.ref l) (E := E) (Q₁ := fun obj s₁ => obj = .ref s.heap.objs.size ∧ s₁ = { s with heap := putS w s.heap }) ⟨rfl, rfl⟩) fun r s₁ hr => ?_
  cases r with
  | error e => exact hr
  | ok fl =>
    cases fl with
    | ret obj =>
      obtain ⟨rfl, rfl⟩ := hr
      have hS : (putS w s.heap).get? s.heap.objs.size = some (bareS w) := Heap.get?_push_size _ rfl
      have hT : Shared.TypeIs { s with heap := putS w s.heap } (.ref s.heap.objs.size) "set" := ⟨_, hS, rfl⟩
      have z5 := F.called_set.init.lookup
      have z6 := F.called_set.init.bind (.ref s.heap.objs.size)
      repeat (any_goals (first | assumption | wp_step))
      refine codeAny_mono (codeAny_call_builtin (R := wants (fun r s₂ => r = .none ∧ ∃ hz tk, s₂ = { s with heap := hz, toks := tk } ∧ TxS P w hz s.heap.objs.size (txAll xs) ∧
          (∀ b o, s.heap.get? b = some o → hz.get? b = some o)) E) F.called_set.init.plain F.entry_set_init (check_set_init_1 hT ?_)) fun r₂ s₂ hr₂ => ?_
      · obtain ⟨ol, hol, hcl, nl, hdl⟩ := hl
        obtain ⟨oc, od, dt, osl⟩ := ol
        simp only at hcl hdl
        subst hcl
        subst hdl
        have hol' : (putS w s.heap).get? l = some { cls := .type "tuple", dict := od, data := .seq items nl, slots := osl } := Heap.get?_push_of_some _ hol
        have z7 := F.sub_tuple_set
        have z8 := F.sub_tuple_frozenset
        have z9 : (Value.type "tuple" == Value.type "dict") = false := by decide
        have hl1 : (putS w s.heap).IsTuple l items := ⟨_, hol', rfl, nl, rfl⟩
        unfold Builtin.«set.__init__» noKeywords Builtin.Frozenset.updateFrom
        generalize hPI : pyIter = PI
        wp_walk
        subst hPI
        refine wpAny_pyIter_tuple hl1 ?_
        refine wpAny_bind (wpAny_runValue ?_)
        have lt : l < s.heap.objs.size := Heap.lt_size hol
        have calm3 : A.in1.in1.in1.handled = none := by simp [calm]
        have sz1 : (putS w s.heap).objs.size = s.heap.objs.size + 1 := Heap.size_push ..
        have neI : l ≠ (putS w s.heap).objs.size := by
          rw [sz1]
          exact Nat.ne_of_lt (Nat.lt_succ_of_lt lt)
        have away : s.heap.objs.size ∉ [(putS w s.heap).objs.size, l] := by
          rw [sz1]; simp only [List.mem_cons, List.mem_singleton, List.not_mem_nil, or_false, not_or]
          exact ⟨Nat.ne_of_lt (Nat.lt_succ_self _), Nat.ne_of_gt lt⟩
        have hval : ∀ (i : Nat) (v : Value), items[i]? = some v → ∃ k t, xs[i]? = some k ∧ v = .str k t := fun i v hv => by
          have hi : i < xs.length := by rw [← hisz]; exact (Array.getElem?_eq_some_iff.mp hv).1
          exact tx_at hit i v (by rw [Array.getElem?_toList]; exact hv)
        refine tx_loop ((Walks.tuple calm3 _ l neI items).toS) s.heap.objs.size
          away xs hisz hb hval (items.size - 0) 0 _ (by omega) (Nat.zero_le _)
          ⟨⟨_, Heap.get?_push_size _ rfl, rfl, rfl⟩, (hl1.push _)⟩ ?hS0 ?hR
        case hS0 =>
          exact bare_tx (Heap.get?_push_of_some _ hS)
        case hR =>
          intro s' hm hS'
          obtain ⟨h', g2, d', tk', os'⟩ := s'
          have eg : g2 = s.gens := hm.gens
          have ed : d' = s.drawn := hm.drawn
          have eo : os' = s.os := hm.os
          subst eg; subst ed; subst eo
          show wpAny _ _ _ _ _ _
          refine wpAny_pure ?_
          show wpAny _ _ (ret Value.none) _ _ _
          refine wpAny_pure ⟨rfl, h', tk', rfl, hS', fun b o e => ?_⟩
          have b0 : b < s.heap.objs.size := Heap.lt_size e
          have b1 : b ≠ s.heap.objs.size := Nat.ne_of_lt b0
          have b2 : b ≠ (putS w s.heap).objs.size := by
            rw [sz1]
            exact Nat.ne_of_lt (Nat.lt_succ_of_lt b0)
          exact hm.heap b o (by simp only [List.mem_cons, List.mem_singleton, List.not_mem_nil, or_false, not_or]; exact ⟨b1, b2⟩) (Heap.get?_push_of_some _ (Heap.get?_push_of_some _ e))
      · cases r₂ with
        | error e => exact hr₂
        | ok fl₂ =>
          cases fl₂ with
          | ret r =>
            obtain ⟨rfl, h', tk, rfl, hS', hk'⟩ := hr₂
            repeat (any_goals (first | assumption | wp_step))
            exact fin _ _ hS' hk'
          | _ => exact hr₂.elim
    | _ => exact hr.elim

theorem strs_good : ∀ (l : List Value), (∀ v ∈ l, ∃ x tk, v = Value.str x tk) → StrsAre l (l.map strOf)
  | [], _ => .nil
  | v :: l, h => by
    obtain ⟨x, tk, rfl⟩ := h v List.mem_cons_self
    exact .cons x tk (strs_good l fun u hu => h u (List.mem_cons_of_mem _ hu))
theorem tx_sorted {a : Addr} {xs : List Str} {Q : Value → Shared → Prop} (R : TxS P w s.heap a xs) (calm : A.handled = none) (h64 : xs.length < 64)
    (fin : ∀ s' p (out : Array Value) (c : Nat) (ys : List Str), (∀ b o, s.heap.get? b = some o → s'.heap.get? b = some o) → s'.gens = s.gens → s'.os = s.os → s.heap.objs.size ≤ p →
      s'.heap.get? p = some (seqObj "list" out c) → StrsAre out.toList ys → sortedS ys = true → ys.Perm xs → Q (.ref p) s') :
    wpAny (model P w) A (call (.builtin "sorted") [.ref a]) Q E s := by
  obtain ⟨o, es, ep, t, q0, q1, q2, q3, ⟨q4, q5⟩, q6, q7⟩ := R
  refine Calls.call_function_entry kind_sorted plain_sorted entry_sorted (args_sorted1 _) ?_
  unfold Builtin.«sorted»
  refine wpAny_bind (m := checkCount "sorted" 1 1 _) (wpAny_pure ?_)
  refine wpAny_bind (collect_set (A := A.in1) calm ⟨o, q0, q1.1, q2⟩ q5 q4 q6 q7 fun s1 vs k1 hz g1 o1 pm => ?_)
  have few : vs.length < 64 := by
    rw [pm.length_eq, List.length_map, Array.length_toList, q3.size]
    exact h64
  have hI : StrsAre vs (vs.map strOf) := strs_good vs fun v hv => by
    obtain ⟨e, he, q⟩ := List.mem_map.mp (pm.mem_iff.mp hv)
    obtain ⟨x, tk, h1, _⟩ := q3.good e he
    exact ⟨x, tk, by rw [← q]; exact h1⟩
  have pk : (vs.map strOf).Perm xs := by
    have q := pm.map strOf
    rw [List.map_map] at q
    have e : es.toList.map (strOf ∘ fun x => x.2) = es.toList.map txK := List.map_congr_left fun e he => by
      obtain ⟨x, tk, h1, _⟩ := q3.good e he
      show strOf e.2 = txK e
      unfold txK
      rw [h1]
      rfl
    rw [e] at q
    exact q.trans q3.perm
  refine wpAny_bind (wpAny_newList ?_ (by rw [sizeLine_eq]; omega))
  have oL : (s1.heap.push (seqObj "list" vs.toArray 0)).get? s1.heap.objs.size = some (seqObj "list" vs.toArray 0) := Heap.get?_push_size _ rfl
  refine wpAny_bind (wpAny_holding (wpAny_call_entry slot_list_sort ⟨_, oL, rfl⟩ entry_list_sort
    (list_sort_treeK PyProof.Rows.strKind_oneLt oL hI.keysOf (fun v₁ v₂ rest e => keyKind_strs (by rw [← e]; exact hI)) few fun st' hp hs => ⟨_, rfl, ?_⟩) (args_list_sort _)))
  obtain ⟨ys, a1, a2, a3⟩ := sorted_out_str hI hp hs
  obtain ⟨c, hc⟩ := sortedHeap_at (vs := vs) (out := (arrOf st').map (·.2)) oL
  refine wpAny_pure ⟨_, rfl, fin _ s1.heap.objs.size _ c ys (fun b u e => ?_) g1 o1 hz hc a1 a3 (a2.trans pk)⟩
  have q := k1 b u e
  have lt := Heap.lt_size q
  show (sortedHeap (s1.heap.push (seqObj "list" vs.toArray 0)) s1.heap.objs.size vs ((arrOf st').map (·.2))).get? b = some u
  rw [sortedHeap_old (Nat.ne_of_lt lt) (by rw [Heap.size_push]; exact Nat.lt_succ_of_lt lt)]
  exact Heap.get?_push_of_some _ q
end
/-! ### over the layer -/
def TxO (P : Program) (w : World) (a : Addr) (xs : List Str) : HO := .ext fun h => TxS P w h a xs
section
variable {X : Cx}
theorem txO_ok {P : Program} {w : World} {H : Hp} {h : Heap} {a : Addr} {xs : List Str} (R : TxS P w h a xs) : ObjOk P w H h a (TxO P w a xs) := by
  have ⟨o, _, _, _, ho, _⟩ := R
  exact ⟨R, ⟨o, ho⟩, fun h1 h2 p k => TxS.to p k⟩
def rSetTx (X : Cx) : List V → Hp → VK → Prop := fun vs H Q => ∃ (l : Addr) (xs : List Str), vs = [V.ref l] ∧ (SqL X.K H l (xs.map V.str) ∨ SqT X.K H l (xs.map V.str)) ∧ xs.length < 64 ∧
  ∀ a, H a = none → Q (.ref a) (upd H a (TxO X.prog X.w a (txAll xs)))
theorem cr_setTx (hc : X.calm = true) : CallR X (.type "set") (rSetTx X) := by
  intro pins s σ H vs us Q I r h
  obtain ⟨l, xs, rfl, hl, h64, q⟩ := h
  rw [Vals.ref1 r]
  have hn : H s.heap.objs.size = none := I.hok.fresh (Nat.le_refl _)
  have sb : xs.length + 1 < scanBound := by unfold scanBound; omega
  rcases hl with hl | hl
  · obtain ⟨its, rv, pl, hz⟩ := I.list hl
    refine tx_of_list (P := X.prog) (w := X.w) xs (I.ok.hd hc) pl.isList (by simpa using rv.strs) sb fun h' tk R k => ?_
    exact ⟨.ref s.heap.objs.size, upd H s.heap.objs.size (TxO X.prog X.w s.heap.objs.size (txAll xs)), I.laid (t' := tk) k (Nat.le_refl _) (txO_ok R), rfl, q _ hn⟩
  · obtain ⟨its, rv, ⟨o, ho, hcl, n, hd⟩, _⟩ := I.tuple hl
    refine tx_of_tuple (P := X.prog) (w := X.w) xs (I.ok.hd hc) (items := its.toArray) ⟨o, ho, hcl, n, hd⟩ (by simpa using rv.strs) sb fun h' tk R k => ?_
    exact ⟨.ref s.heap.objs.size, upd H s.heap.objs.size (TxO X.prog X.w s.heap.objs.size (txAll xs)), I.laid (t' := tk) k (Nat.le_refl _) (txO_ok R), rfl, q _ hn⟩
def rSortTx (X : Cx) : List V → Hp → VK → Prop := fun vs H Q => ∃ (a : Addr) (xs : List Str), vs = [V.ref a] ∧ H a = some (TxO X.prog X.w a xs) ∧ xs.length < 64 ∧
  ∀ (ys : List Str) (p : Addr), ys.Perm xs → sortedS ys = true → xs.Nodup → H p = none → Q (.ref p) (upd H p (.lst (ys.map V.str)))
theorem cr_sortTx (hc : X.calm = true) : CallR X (.builtin "sorted") (rSortTx X) := by
  intro pins s σ H vs us Q I r h
  obtain ⟨a, xs, rfl, ha, h64, q⟩ := h
  have R : TxS X.prog X.w s.heap a xs := (I.hok a _ ha).1
  have nd : xs.Nodup := by
    obtain ⟨_, _, _, _, _, _, _, q3, _⟩ := R
    exact q3.nd
  rw [Vals.ref1 r]
  refine tx_sorted R (I.ok.hd hc) h64 fun s' p out c ys k g o hp hg hi hs hm => ?_
  have hlen : (ys.map V.str).length ≤ sizeLine := by
    rw [List.length_map, hm.length_eq, sizeLine_eq]
    omega
  have hn : H p = none := I.hok.fresh hp
  have J : Inv X pins σ (upd H p (.lst (ys.map V.str))) { s with heap := s'.heap, gens := s'.gens, drawn := s'.drawn, toks := s'.toks } :=
    I.call (ch := []) (Un.laid k hp hn) (I.hok.laid k hp ⟨hlen, out.toList, c, vals_of_strs hi, hg⟩) (by rw [g]; exact I.bare) (fun _ z => nomatch z)
  have e : s' = { s with heap := s'.heap, gens := s'.gens, drawn := s'.drawn, toks := s'.toks } := by
    obtain ⟨b0, b1, b2, b3, b4⟩ := s'
    obtain ⟨c0, c1, c2, c3, c4⟩ := s
    cases o
    rfl
  rw [e]
  exact ⟨.ref p, _, J, rfl, q ys p hm hs nd hn⟩
end
end Jd
/-! try: .. except (A, B, ..) as e: suite, where the error outlives the suite: it is tracked behind it. -/
namespace Jd
open PySem PySem.Spec PyProof.Rows L2
/-- an error object at a: its class, its own dict -/
def ErO (cls : Value) (d : Option Addr) (a : Addr) : HO := .ext fun h => ∃ (oe : Obj) (vs : Array Value), h.get? a = some oe ∧ Zc cls d oe ∧ oe.data = .fields vs
theorem erO_ok {P : Program} {w : World} {H : Hp} {h : Heap} {a : Addr} {cls : Value} {d : Option Addr} {oe : Obj} {vs : Array Value} (q : h.get? a = some oe) (z : Zc cls d oe) (dt : oe.data = .fields vs) : ObjOk P w H h a (ErO cls d a) :=
  ⟨⟨oe, vs, q, z, dt⟩, ⟨oe, q⟩, fun _ _ ⟨o, v, r0, r1⟩ k => ⟨o, v, k o r0, r1⟩⟩
theorem flyZ_more {B : Heap} {l : List Env} {e : Addr} {Z : Obj → Prop} {h h' : Heap} (R : HandSPX.FlyingZ B l e Z h) (k : ∀ b o, h.get? b = some o → h'.get? b = some o) : HandSPX.FlyingZ B l e Z h' := by
  obtain ⟨f1, f2, f3, oe, vs, T, oT, ts, q0, q1, q2, q3, q4, q5, q6, q7⟩ := R
  exact ⟨fun b o q => k b o (f1 b o q), f2, f3.of_keeps fun b o q _ => ⟨o, k b o q, rfl⟩, oe, vs, T, oT, ts, k _ _ q0, q1, q2, q3, q4, q5, k _ _ q6, q7⟩
section
variable {X : Cx} {pins : List (Addr × Obj)} {σ : L2.St} {H : Hp} {s : Shared}
/-- an object that stands untracked in the heap is tracked from now on -/
theorem Inv_track {a : Addr} {oe : Obj} {o : HO} (I : Inv X pins σ H s) (he : s.heap.get? a = some oe) (na : H a = none) (n0 : X.s_0.heap.get? a = none) (np : ∀ p ∈ X.pn ++ pins, p.1 ≠ a) (nL : a ≠ X.env.locals)
    (nc : ∀ v, oe.data ≠ .cell v) (new : ObjOk X.prog X.w (upd H a o) s.heap a o) : Inv X pins σ (upd H a o) s := by
  have ne0 : ∀ {b : Addr} {ob : Obj}, X.s_0.heap.get? b = some ob → b ≠ a := fun {b ob} q z => by
    rw [z, n0] at q
    cases q
  have neS : ∀ {b : Addr} {u : HO}, H b = some u → b ≠ a := fun {b u} q z => by
    rw [z, na] at q
    cases q
  have nce : ∀ x c, X.env.cells.lookup x = some c → c ≠ a := fun x c q z => by
    obtain ⟨v, ob, r0, r1⟩ := I.cell x c q
    rw [z, he] at r0
    cases r0
    exact nc v r1
  refine ⟨I.ok, I.os, I.bare, ⟨I.base.keep, I.base.slot, fun b ob q n hx => ?_, I.base.there, fun b xs q => ?_, fun b ob u q => ?_, fun b ps q => ?_⟩, I.loc, I.cell, ?_, fun x c q => ?_, fun p hp => ?_, fun b u q => ?_, I.len⟩
  · rw [upd_ne (ne0 q)]
    exact I.base.free b ob q n hx
  · have r := I.base.tups b xs q
    rw [upd_ne (neS r)]
    exact r
  · have r := I.base.frzs b ob u q
    rw [upd_ne (neS r)]
    exact r
  · obtain ⟨m, r⟩ := I.base.tbls b ps q
    exact ⟨m, by rw [upd_ne (neS r)]; exact r⟩
  · rw [upd_ne nL.symm]
    exact I.free
  · rw [upd_ne (nce x c q)]
    exact I.freeC x c q
  · obtain ⟨r0, r1, r2⟩ := I.pin p hp
    exact ⟨r0, by rw [upd_ne (np p hp)]; exact r1, r2⟩
  · by_cases hb : b = a
    · subst hb
      rw [upd_same] at q
      cases q
      exact new
    · rw [upd_ne hb] at q
      exact (I.hok b u q).stay (fun c v _ r => r) (fun c r => by rw [upd_ne (neS r)]; exact r) fun c xs r => by rw [upd_ne (neS r)]; exact r
end
/-- what an except clause's tuple of classes is worth -/
def HTest (X : Cx) (t : Expr) (cs : List Value) : Prop := ∀ (a : Addr) (oe : Obj) (pn pins : List (Addr × Obj)) (σ : L2.St) (H : Hp) (s : Shared) (b : Bool) (Q : Bool → Shared → Prop) (E : Value → Shared → Prop),
  Inv (X.suite a pn) pins σ H s → s.heap.get? a = some oe → PySem.W.exmAny X.K oe.cls cs = some b → (∀ hz, (∀ q o, s.heap.get? q = some o → hz.get? q = some o) → Q b { s with heap := hz }) →
  wpAny (model X.prog X.w) (X.A.mark (some (.ref a))) (eval t X.env) (fun c s₁ => wpAny (model X.prog X.w) (X.A.mark (some (.ref a))) (excMatches (.ref a) c) Q E s₁) E s
theorem names_ev {X : Cx} {x : Str} {c : Value} {a : Addr} {pn pins : List (Addr × Obj)} {σ : L2.St} {H : Hp} {s : Shared} {np : Pos} {Q : Value → Shared → Prop} {E : Value → Shared → Prop} (n : Names X x c) (I : Inv (X.suite a pn) pins σ H s) (q : Q c s) :
    wpAny (model X.prog X.w) (X.A.mark (some (.ref a))) (eval (.Name x np) X.env) Q E s := by
  obtain ⟨hg, hdbg, hm | ⟨hm, hv, hnn⟩⟩ := n
  · exact ld_glob (X := X.suite a pn) I hg hm q hdbg
  · exact ld_blt (X := X.suite a pn) I hg hm hv q hnn hdbg
theorem htest2 {X : Cx} {x1 x2 : Str} {c1 c2 : Value} {p1 p2 tp : Pos} {kk : Nat} (n1 : Names X x1 c1) (n2 : Names X x2 c2) : HTest X (.Tuple [.Name x1 p1, .Name x2 p2] kk tp) [c1, c2] := by
  intro a oe pn pins σ H s b Q E I he hx q
  refine wpAny_Tuple (wpAny_items_cons (names_ev (pn := pn) (pins := pins) (σ := σ) (H := H) n1 I (wpAny_items_cons (names_ev (pn := pn) (pins := pins) (σ := σ) (H := H) n2 I (wpAny_items_nil ⟨(by show 2 ≤ sizeLine; decide), ?_⟩)))))
  have kp : ∀ q o, s.heap.get? q = some o → (s.heap.push { cls := .type "tuple", data := .seq [c1, c2].toArray }).get? q = some o := fun _ _ z => Heap.get?_push_of_some _ z
  have LT : PySem.W.Looks (model X.prog X.w) s.heap (typeOf (.ref a)) oe.cls := fun A Q E s k q => wpAny_typeOf_ref (k _ _ he) q
  exact (PySem.W.exm_tup2 (I.kIn.keeps kp) (LT.keeps kp) (Heap.get?_push_size s.heap rfl) hx).here (q _ kp)
theorem htest3 {X : Cx} {x1 x2 x3 : Str} {c1 c2 c3 : Value} {p1 p2 p3 tp : Pos} {kk : Nat} (n1 : Names X x1 c1) (n2 : Names X x2 c2) (n3 : Names X x3 c3) : HTest X (.Tuple [.Name x1 p1, .Name x2 p2, .Name x3 p3] kk tp) [c1, c2, c3] := by
  intro a oe pn pins σ H s b Q E I he hx q
  refine wpAny_Tuple (wpAny_items_cons (names_ev (pn := pn) (pins := pins) (σ := σ) (H := H) n1 I (wpAny_items_cons (names_ev (pn := pn) (pins := pins) (σ := σ) (H := H) n2 I (wpAny_items_cons (names_ev (pn := pn) (pins := pins) (σ := σ) (H := H) n3 I (wpAny_items_nil ⟨(by show 3 ≤ sizeLine; decide), ?_⟩)))))))
  have kp : ∀ q o, s.heap.get? q = some o → (s.heap.push { cls := .type "tuple", data := .seq [c1, c2, c3].toArray }).get? q = some o := fun _ _ z => Heap.get?_push_of_some _ z
  have LT : PySem.W.Looks (model X.prog X.w) s.heap (typeOf (.ref a)) oe.cls := fun A Q E s k q => wpAny_typeOf_ref (k _ _ he) q
  exact (PySem.W.exm_tup3 (I.kIn.keeps kp) (LT.keeps kp) (Heap.get?_push_size s.heap rfl) hx).here (q _ kp)
theorem htest4 {X : Cx} {x1 x2 x3 x4 : Str} {c1 c2 c3 c4 : Value} {p1 p2 p3 p4 tp : Pos} {kk : Nat} (n1 : Names X x1 c1) (n2 : Names X x2 c2) (n3 : Names X x3 c3) (n4 : Names X x4 c4) :
    HTest X (.Tuple [.Name x1 p1, .Name x2 p2, .Name x3 p3, .Name x4 p4] kk tp) [c1, c2, c3, c4] := by
  intro a oe pn pins σ H s b Q E I he hx q
  refine wpAny_Tuple (wpAny_items_cons (names_ev (pn := pn) (pins := pins) (σ := σ) (H := H) n1 I (wpAny_items_cons (names_ev (pn := pn) (pins := pins) (σ := σ) (H := H) n2 I (wpAny_items_cons (names_ev (pn := pn) (pins := pins) (σ := σ) (H := H) n3 I (wpAny_items_cons (names_ev (pn := pn) (pins := pins) (σ := σ) (H := H) n4 I (wpAny_items_nil ⟨(by show 4 ≤ sizeLine; decide), ?_⟩)))))))))
  have kp : ∀ q o, s.heap.get? q = some o → (s.heap.push { cls := .type "tuple", data := .seq [c1, c2, c3, c4].toArray }).get? q = some o := fun _ _ z => Heap.get?_push_of_some _ z
  have LT : PySem.W.Looks (model X.prog X.w) s.heap (typeOf (.ref a)) oe.cls := fun A Q E s k q => wpAny_typeOf_ref (k _ _ he) q
  exact (PySem.W.exm_tup4 (I.kIn.keeps kp) (LT.keeps kp) (Heap.get?_push_size s.heap rfl) hx).here (q _ kp)
/-- what the clause wishes of an exception of the body: slot i is the error's name; behind the suite the error stands tracked -/
def wErr (K : PySem.W.Frag) (cs : List Value) (i : Nat) (ts : Addr → Value → Option Addr → TS) (Wout : WX) (D : Ends) : WX := fun cls d σ H =>
  ∃ b, PySem.W.exmAny K cls cs = some b ∧ (b = true → ∀ a, H a = none → ts a cls d { nx := fun σ' H' => H' a = none → D.nx (σ'.set i none) (upd H' a (ErO cls d a)), rt := D.rt, bk := fun σ' H' => D.bk (σ'.set i none) H', ct := fun σ' H' => D.ct (σ'.set i none) H' } (σ.set i (some (.ref a))) H) ∧
    (b = false → Wout cls d σ H)
section
variable {X : Cx} {n : Str} {t : Expr} {cs : List Value} {i : Nat} {body suite : List Stmt} {b₀ : Stmt} {pos pos' : Pos} {tb : WX → TS} {ts : Addr → Value → Option Addr → TS} {Wout : WX}
theorem ps_try_err (hs : X.stack = X.env :: X.outer) (hf : X.env.frame = some X.env.locals) (hex : X.ex = []) (hN : X.N.Nodup) (hi : X.N[i]? = some n) (hln : X.env.kindOf n = some .local) (hc : HTest X t cs) (tk : Takes X Wout)
    (hb : ∀ (W : WX) (pn : List (Addr × Obj)) (xe : Value → Shared → Prop), Takes (X.tr pn xe) W → PassesOwn (model X.prog X.w) X.A X.env xe → PSs (X.tr pn xe) body (tb W))
    (hsu : ∀ (a : Addr) (oe : Obj) (cls : Value) (d : Option Addr) (pn : List (Addr × Obj)), Zc cls d oe → (∃ vs, oe.data = .fields vs) → PSs (X.suite a ((a, oe) :: pn)) (b₀ :: suite) (ts a cls d)) :
    PS X (.Try body [.ExceptHandler (some t) (some n) (b₀ :: suite) pos'] [] [] pos) (fun D σ H => tb (wErr X.K cs i ts Wout D) D σ H) := by
  refine ⟨fun pins s σ H D I h => ?_⟩
  have ok := I.ok
  have loc : Loc X.env.scope n := .inl hln
  have frm : X.A.frames = some (X.env :: X.outer) := by rw [ok.frames, hs]
  refine wpAny_Try_except ?_
  refine wpAny_mono ((hb (wErr X.K cs i ts Wout D) (X.pn ++ pins) (fun e s₁ => wpAny (model X.prog X.w) X.A (noteFrame e X.env) (fun _ s₂ => wpAny (model X.prog X.w) X.A (setFlight e none) (fun _ s₃ =>
    wpAny (model X.prog X.w) X.A (handleBy e X.env [.ExceptHandler (some t) (some n) (b₀ :: suite) pos']) (SP X pins D) X.xe s₃) X.xe s₂) X.xe s₁) (fun u s' xx => ?_) PassesOwn.looking).run [] s σ H D (I.toTry _) h) (fun f s1 hsp => ?_) (fun e s1 he => he)
  · obtain ⟨a, B, sI, pins', σ', H', cls, d, rfl, J', nb, up, sky, na, os, ag, b, w1, w2, w3⟩ := xx
    have J : Inv X pins σ' H' sI := J'.ofTry ok
    have sk : Sky B (X.env :: X.outer) a (Zc cls d) X.env.locals s'.heap := by rw [← hs]; exact sky
    show wpAny (model X.prog X.w) X.A (noteFrame (.ref a) X.env) _ _ _
    refine Sky.land Zc.steady frm hf sk fun h3 fl3 up3 => ?_
    have J3 : Inv X pins σ' H' { s' with heap := h3 } := J.landed nb fl3.1 (up.trans up3) os ag
    obtain ⟨oe3, vs3, he3, hz3, hd3⟩ := fl3.there
    have nfr : a ∉ frs (X.env :: X.outer) := fun hm => by
      obtain ⟨_, o', e', nf⟩ := fl3.2.2.1.mem hm
      rw [he3] at e'
      cases e'
      exact nf _ hd3
    have nL : a ≠ X.env.locals := fun z => nfr (List.mem_filterMap.mpr ⟨X.env, List.mem_cons_self, by rw [hf, z]⟩)
    have nF : a ∉ X.fs := fun hm => by
      obtain ⟨e, he, q⟩ := List.mem_filterMap.mp hm
      exact nfr (List.mem_filterMap.mpr ⟨e, List.mem_cons_of_mem _ he, q⟩)
    have nI : sI.heap.get? a = none := by
      cases q : sI.heap.get? a with
      | none => rfl
      | some o =>
        have r := nb a o q (by rw [hs]; exact nfr)
        rw [fl3.2.1] at r
        cases r
    have n0 : X.s_0.heap.get? a = none := by
      cases q : X.s_0.heap.get? a with
      | none => rfl
      | some o =>
        obtain ⟨o', r⟩ := J.base.there a o q (by rw [hex]; exact fun z => nomatch z)
        rw [nI] at r
        cases r
    have np : ∀ p ∈ X.pn ++ pins, p.1 ≠ a := fun p hp z => by
      have r := (J.pin p hp).1
      rw [z, nI] at r
      cases r
    have S3 := J3.suite he3 hd3 na nL nF
    refine wpAny_handleBy_cons (codeAny_handlers_test (hc a oe3 ((a, oe3) :: (X.pn ++ pins)) [] σ' H' _ b _ _ S3 he3 (by rw [hz3.1]; exact w1) fun h5 k5 => ?_)) (by intro q; cases q)
    have fl5 : HandSPX.FlyingZ B (X.env :: X.outer) a (Zc cls d) h5 := flyZ_more fl3 k5
    have up5 : h3.UpToSlots h5 := Heap.UpToSlots.of_keeps k5
    cases b with
    | true =>
      refine codeAny_handlers_suite_as ?_
      refine HandSPX.lands_againZ fl5 fun h4 fl4 up4 => ?_
      have J4 : Inv X pins σ' H' { s' with heap := h4 } := J.landed nb fl4.1 (((up.trans up3).trans up5).trans up4) os ag
      obtain ⟨oe4, vs4, he4, hz4, hd4⟩ := fl4.there
      have S4 := J4.suite he4 hd4 na nL nF
      refine store_ok (X := X.suite a ((a, oe4) :: (X.pn ++ pins))) (v := .ref a) S4 hN hi loc rfl (fun s5 S5 => ?_) (.inr hln)
      refine wpAny_mono ((hsu a oe4 cls d (X.pn ++ pins) hz4 ⟨_, hd4⟩).run [] s5 _ H' _ S5 (w2 rfl a na)) (fun f s6 hsp => ?_) (fun _ _ z => False.elim z)
      have gone : ∀ {σ6 : L2.St} {H6 : Hp} {Q : Shared → Prop}, Inv X pins σ6 H6 s6 → (∀ s7, Inv X pins (σ6.set i none) H6 s7 → Q s7) →
          wpAny (model X.prog X.w) X.A (do bindName X.env n .none; unbindBehindTheSuite X.env n pos') (fun _ s7 => Q s7) X.xe s6 := fun {σ6 H6 Q} S6 hq => gone_ok S6 hN hi hln hq
      cases f with
      | next =>
        obtain ⟨σ6, H6, S6, q6⟩ := hsp
        obtain ⟨r0, r1, _⟩ := S6.pin (a, oe4) (List.mem_append_left _ List.mem_cons_self)
        have S7 := Inv_track (o := ErO cls d a) (S6.unsuite ok) r0 r1 n0 np nL (fun v z => by have z' : oe4.data = .cell v := z; rw [hd4] at z'; cases z') (erO_ok r0 hz4 hd4)
        exact gone S7 fun s7 J7 => ⟨_, _, J7, q6 r1⟩
      | brk =>
        obtain ⟨σ6, H6, S6, q6⟩ := hsp
        exact gone (S6.unsuite ok) fun s7 J7 => ⟨_, _, J7, q6⟩
      | cont =>
        obtain ⟨σ6, H6, S6, q6⟩ := hsp
        exact gone (S6.unsuite ok) fun s7 J7 => ⟨_, _, J7, q6⟩
      | ret u =>
        obtain ⟨v6, σ6, H6, S6, r6, q6⟩ := hsp
        exact gone (S6.unsuite ok) fun s7 J7 => ⟨_, _, _, J7, r6, q6⟩
    | false =>
      show wpAny _ X.A (handleBy (.ref a) X.env []) _ _ _
      refine wpAny_handleBy_nil ?_
      obtain ⟨k1, k2, k3, oe, vs, T, oT, ts', g0, g1, g2, g3, gr⟩ := id fl5
      unfold PySem.passOn
      refine wpAny_bind (wpAny_field g0 g2 g3 ?_)
      rw [if_neg (show ¬ ((Value.ref T == Value.none) = true) from by simp)]
      have last : wpAny (model X.prog X.w) X.A (setFlight (.ref a) X.env.frame) (fun _ s4 => wpAny (model X.prog X.w) X.A (throw (.ref a) : Sem Flow) (SP X pins D) X.xe s4) X.xe { s' with heap := h5 } := by
        rw [hf]
        refine HandSPX.setFlight_upZ fl5 fun h4 hh4 up4 => wpAny_throw (tk _ _ ?_)
        exact ⟨a, B, sI, pins, σ', H', cls, d, rfl, J, nb, ((up.trans up3).trans up5).trans up4, .inr (.inr (by rw [hs]; exact hh4)), na, os, ag, w3 rfl⟩
      first
        | exact wpAny_bind (wpAny_pure (wpAny_bind last))
        | exact wpAny_bind last
  · cases f with
    | next =>
      obtain ⟨σ', H', J', q⟩ := hsp
      exact wpAny_execs_nil ⟨σ', H', J'.ofTry ok, q⟩
    | brk =>
      obtain ⟨σ', H', J', q⟩ := hsp
      exact ⟨σ', H', J'.ofTry ok, q⟩
    | cont =>
      obtain ⟨σ', H', J', q⟩ := hsp
      exact ⟨σ', H', J'.ofTry ok, q⟩
    | ret u =>
      obtain ⟨v, σ', H', J', r, q⟩ := hsp
      exact ⟨v, σ', H', J'.ofTry ok, r, q⟩
end
/-! ### the error behind the suite: its field, isinstance -/
/-- e.f, e an error that is tracked -/
def tErF (K : PySem.W.Frag) (f : Str) (te : TE) : TE := fun σ H Q => te σ H fun x H1 => ∃ (a C dd : Addr) (fs : List (Str × V)) (v : V), x = .ref a ∧ H1 a = some (ErO (.ref C) (some dd) a) ∧ XfC K C ∧ PySem.W.findIn K (.ref C) f = some none ∧
  H1 dd = some (.xd fs) ∧ fs.lookup f = some v ∧ Q v H1
theorem pe_erF {X : Cx} {e : Expr} {te : TE} {pos : Pos} {f : Str} (he : PE X e te) (hb : attributeBase e f X.env (eval e X.env) = eval e X.env := by rfl) : PE X (.Attribute e f pos) (tErF X.K f te) := by
  refine ⟨fun pins s σ H Q I h => ?_⟩
  refine attr_of hb (thn (he.run pins s σ H _ I h) fun u s1 hh => ?_)
  obtain ⟨x, H1, I1, rx, a, C, dd, fs, v, ex, ea, T, hno, ed, l, q⟩ := hh
  subst ex
  obtain rfl : u = Value.ref a := rx
  obtain ⟨oe, vs, r0, r1, r2⟩ := (I1.hok a _ ea).1
  have hx : ObjOk X.prog X.w H1 s1.heap dd (.xd fs) := I1.hok dd _ ed
  obtain ⟨mA, hns, hr⟩ := hx
  obtain ⟨od, ho, hl⟩ := lookIn_ns hns
  obtain ⟨u, hu, ru⟩ := RelO.some_of (v := v) (o := mA f) (by rw [← l]; exact hr f)
  have J : PySem.W.InstAt s1.heap a oe C (some od) := ⟨r0, r1.1, by unfold PySem.W.notCls; rw [r2] <;> rfl, by rw [r1.2]; exact ho⟩
  exact HandSPX.exc_get I1.kIn J T.ga T.gg T.exC (PySem.W.findObj_own T.hdC hno rfl (by rw [hl, hu])) (handed_of ru) ⟨v, H1, I1.tok _, ru, q⟩
end Jd
namespace Jd
open PySem PySem.Spec PyProof.Rows L2
/-! ### an own error over LookupError, made by its own __init__ -/
/-- what stands behind such a class in its order -/
abbrev leRow : List Value := [.type "LookupError", .type "Exception", .type "BaseException", .type "object"]
structure LexC (K : PySem.W.Frag) (C : Addr) : Prop where
  shape : ∃ nm ql N bs sl sb ab cl dt j0 j1 j2 j3 j5,
    K.lookup C = some (excClassObj nm ql C N bs leRow true sl sb ab cl dt j0 j1 j2 j3 j5 "LookupError.__new__")
  store : PySem.W.findIn K (.ref C) "__setattr__" = some (some (.builtin "object.__setattr__"))
  isE : PySem.W.subIn K (.ref C) (.type "BaseException") = some true
  isT : PySem.W.typeIn K (.ref C) = some (.type "type")
  keep : PySem.W.keepIn K (.ref C) = true
end Jd
namespace Jd
open PySem Builtin Builtin.ObjectAttr
theorem le_pass (self : Value) (C : Addr) : refuseLoop self "__setattr__" (.ref C :: leRow) = pure () := by
  rw [refuseLoop_ref]
  exact F.store_LookupError.passes self
section
variable {P : Program} {w : World} {A : Around} {R : Result → Shared → Prop} {hp : Heap} {g : Array GenState} {dr : Drawn} {tk0 : Nat} {os : OsState}
/-- e.f = v, e an error of such a class without a dict -/
theorem le_first {K : W.Frag} {f : Str} {tk : Tok} {v : Value} {e C : Addr} {cells : Array Value} {c : ClassData} (inK : K.In hp)
    (he : hp.get? e = some { cls := .ref C, data := .fields cells }) (hc : W.clsIn K C = some c) (hm : c.mro = .ref C :: leRow)
    (hh : c.hasDict = true) (hf : W.findIn K (.ref C) f = some none)
    (fin : ∀ hp' tk' dx, (∀ b o, b ≠ e → hp.get? b = some o → hp'.get? b = some o) → hp.objs.size ≤ dx → dx ≠ e →
      hp'.get? e = some { cls := .ref C, dict := some dx, data := .fields cells } →
      hp'.Ns1 dx (fun y => if y = f then some v else none) → R (.ok (.ret .none)) ⟨hp', g, dr, tk', os⟩) :
    codeAny (model P w) A (.call (.builtin "object.__setattr__") ⟨[.ref e, .str f tk, v], []⟩) R ⟨hp, g, dr, tk0, os⟩ := by
  have inst : W.InstAt hp e { cls := .ref C, data := .fields cells } C none := ⟨he, rfl, rfl, trivial⟩
  have S := F.store_object
  have obj : c.mro.contains (.type "object") = true := by
    rw [hm, List.contains_cons]
    rfl
  have far : e ≠ hp.objs.size := Nat.ne_of_lt (Heap.lt_size he)
  have isO : W.Looks (model P w) hp (isInstance (.ref e) (.type "object")) true :=
    inst.type.andThen (W.looks_mroIn inK (by
      unfold W.mroIn
      rw [hc, Option.bind_some, if_neg (by rw [hm]; exact Bool.false_ne_true), obj]))
  refine codeAny_call_builtin S.slot.plain S.entry
    (@W.check_slot (model P w) _ _ ⟨hp, g, dr, tk0, os⟩ "object.__setattr__" "object" "__setattr__" (.ref e) [.str f tk, v] [] _
      S.kind S.split isO (S.args (.ref e) (.str f tk) v) ?_)
  have lm : W.Looks (model P w) hp (mroOf (.ref C)) c.mro := (W.looks_clsIn inK hc).andThen .now
  have lt : W.Looks (model P w) hp (storeTaker? none) none := .now
  have lc : W.Looks (model P w) hp (classData C) c := W.looks_clsIn inK hc
  rw [W.osa_eq, refuse_eq]
  refine wpAny_bind (wpAny_bind (inst.type.at (wpAny_bind (lm.at ?_))))
  rw [hm, le_pass]
  refine wpAny_pure (wpAny_bind (inst.type.at (wpAny_bind
    ((W.looks_findIn inK hf).at (wpAny_bind (lt.at ?_))))))
  show wpAny _ _ (storeInOwnDict (.ref e) (.ref C) (.str f tk) f v false) _ _ _
  obtain ⟨a1, a2, a3, a4, a5, a6, a7, a8, a9, a10, a11⟩ := c
  dsimp only at hh
  subst hh
  unfold storeInOwnDict ownDictForStores
  repeat (first
    | with_reducible refine HandSPX.store_in_new ?_ ?_
    | with_reducible refine wpAny_loadPart_at he ?_
    | with_reducible refine lc.at ?_
    | wp_step)
  · refine ⟨_, #[], _, (Heap.get?_update_ne _ _ _ _ far.symm).trans (Heap.get?_push_at rfl rfl), rfl, ?_, fun _ => rfl⟩
    exact fun q hq => absurd hq (by simp)
  · intro hp' tk' ns same
    have he2 : (hp.push { cls := .type "dict", data := .dict #[] }).get? e = some { cls := .ref C, data := .fields cells } :=
      Heap.get?_push_of_some _ he
    refine fin hp' tk' hp.objs.size (fun b o nb ho => ?_) (Nat.le_refl _) far.symm ?_ ns
    · rw [same.2 b (Nat.ne_of_lt (Heap.lt_size ho)), Heap.get?_update_ne _ _ _ _ nb]
      exact Heap.get?_push_of_some _ ho
    · rw [same.2 e far]
      exact Heap.get?_update_self _ he2 rfl
end
end Jd
namespace Jd
open PySem PySem.Spec PyProof.Rows L2
section
variable {X : Cx} {pins : List (Addr × Obj)} {σ : L2.St} {H : Hp} {s : Shared} {a C : Addr} {A : Around}
theorem LexC.cd {K : PySem.W.Frag} (T : LexC K C) : ∃ c : ClassData, PySem.W.clsIn K C = some c ∧ c.mro = .ref C :: leRow ∧ c.hasDict = true := by
  obtain ⟨nm, ql, N, bs, sl, sb, ab, cl, dt, j0, j1, j2, j3, j5, lk⟩ := T.shape
  refine ⟨{ name := nm, bases := bs, mro := .ref C :: leRow, ns := N, qualname := ql, hasDict := true, slotNames := sl, subclasses := sb, abstract := ab, collection := cl, hasDel := false }, ?_, rfl, rfl⟩
  unfold PySem.W.clsIn
  rw [lk] <;> rfl
/-- the error's first field -/
theorem le_field {f : Str} {y : V} {u : Value} {Q : Unit → Shared → Prop} {E : Value → Shared → Prop} (T : LexC X.K C)
    (I : Inv X pins σ H s) (ea : H a = some (exo a C none)) (nf : PySem.W.findIn X.K (.ref C) f = some none) (ry : RelV y u)
    (fin : ∀ dx s', H dx = none → dx ≠ a → Inv X pins σ (upd (upd H dx (exd dx [(f, y)])) a (exo a C (some dx))) s' → Q () s') :
    wpAny (model X.prog X.w) A (setAttr (.ref a) f u) Q E s := by
  obtain ⟨c, hc, hm, hh⟩ := T.cd
  obtain ⟨t1, ho⟩ := exo_at I.hok ea
  obtain ⟨hp, g, d, t, os⟩ := s
  refine PySem.W.set_plain I.kIn (od := none)
    (ox := { cls := .ref C, dict := none, data := .fields #[.ref t1, .none, .none, .none, .bool false, .none] })
    ⟨ho, rfl, rfl, trivial⟩ T.store ?_
  refine le_first I.kIn ho hc hm hh nf (fun hp' tk' dx kept lo ne hx ns => ?_)
  have free : H dx = none := I.hok.fresh lo
  have below : ∀ {b : Addr} {o : Obj}, hp.get? b = some o → b ≠ dx := fun {b o} q =>
    Nat.ne_of_lt (Nat.lt_of_lt_of_le (Heap.lt_size q) lo)
  have other : ∀ {b : Addr}, H b = none → b ≠ a := fun {b} q z => by
    rw [z, ea] at q
    cases q
  have two_off : ∀ {b : Addr} {o : HO}, H b = some o → b ≠ a → (upd (upd H dx (exd dx [(f, y)])) a (exo a C (some dx))) b = some o :=
    fun {b o} q n => by
      rw [upd_ne n, upd_ne (ne_of_none q free)]
      exact q
  have un : Un X.fs [] H (upd (upd H dx (exd dx [(f, y)])) a (exo a C (some dx))) hp hp' := {
    keep := fun b o q n _ _ => kept b o (other n) q
    slot := fun b o q n _ _ => ⟨o.slots, kept b o (other n) q⟩
    free := fun b o q n _ => by
      rw [upd_ne (other n), upd_ne (below q)]
      exact n
    there := fun b o q _ => by
      rcases Nat.decEq b a with h | h
      · exact ⟨o, kept b o h q⟩
      · exact ⟨_, h ▸ hx⟩
    tups := fun b xs q => two_off q (at_ne ea q exo_tup)
    frzs := fun b o v q => two_off q (at_ne ea q exo_frz)
    tbls := fun b ps q => ⟨#[], by
      rw [two_off q (at_ne ea q exo_tbl)]
      simp⟩ }
  refine fin dx _ free ne (I.un (t' := tk') un fun b o q => ?_)
  by_cases ba : b = a
  · subst ba
    rw [upd_same] at q
    cases q
    exact exo_ok hx
  rw [upd_ne ba] at q
  by_cases bd : b = dx
  · subst bd
    rw [upd_same] at q
    cases q
    exact exd_ok ns (relO_put (fs := []) ry fun _ => True.intro)
  rw [upd_ne bd] at q
  refine (I.hok b o q).stay (fun c v hcv z => kept c v ?_ z) (fun c hcv => ?_) (fun c xs hcv => two_off hcv (at_ne ea hcv exo_tup))
  · rcases hcv with h | h
    · exact h ▸ ba
    · exact at_ne ea h exo_own
  · rw [upd_ne (at_ne ea hcv exo_own), upd_ne (ne_of_none hcv free)]
    exact hcv
/-- LookupError.__init__(e, ..) -/
theorem le_init {us : List Value} {Q : Value → Shared → Prop} {E : Value → Shared → Prop} (T : LexC X.K C) (I : Inv X pins σ H s)
    (ea : H a = some (exo a C none)) (hl : us.length ≤ sizeLine) (fin : ∀ s', Inv X pins σ H s' → Q .none s') :
    wpAny (model X.prog X.w) A (call (.builtin "LookupError.__init__") (.ref a :: us)) Q E s := by
  obtain ⟨nm, ql, N, bs, sl, sb, ab, cl, dt, j0, j1, j2, j3, j5, lk⟩ := T.shape
  obtain ⟨t1, ho⟩ := exo_at I.hok ea
  obtain ⟨hp, g, d, t, os⟩ := s
  refine wpAny_call (PySem.HandSPX.init_base F.excBase_LookupError (fun _ => rfl) (I.kIn _ _ lk) ho hl fun hp' t2 kept hx => ?_)
  have again : upd H a (exo a C none) = H := funext fun b => by
    unfold upd
    split
    · rename_i h
      rw [h, ea]
    · rfl
  have J := I.write (t' := t) (x := a) (e := a) (o := exo a C none) (by rw [ea]; exact True.intro) (.inl rfl) kept ⟨_, hx⟩ (exo_ok hx)
  exact fin _ (by rw [again] at J; exact J)
end
end Jd
namespace Jd
open PySem PySem.Spec PyProof.Rows L2
/-! ### its rules -/
def tLeI (K : PySem.W.Frag) (ta : TA) : TE := fun σ H Q => ta σ H fun vs H1 =>
  ∃ (a C : Addr) (ws : List V), vs = .ref a :: ws ∧ ws.length ≤ 1000 ∧ LexC K C ∧ H1 a = some (exo a C none) ∧ Q .non H1
def tLeF (K : PySem.W.Frag) (f : Str) (to te : TE) : TS := fun D σ H => te σ H fun y H1 => to σ H1 fun x H2 =>
  ∃ a C : Addr, x = .ref a ∧ LexC K C ∧ PySem.W.findIn K (.ref C) f = some none ∧ H2 a = some (exo a C none) ∧
    ∀ dx, H2 dx = none → dx ≠ a → D.nx σ (upd (upd H2 dx (exd dx [(f, y)])) a (exo a C (some dx)))
section
variable {X : Cx} {o e : Expr} {es : List Expr} {to te : TE} {ta : TA} {f : Str} {p p' p1 p2 pos : Pos}
theorem typ_LE : typeOf (.type "LookupError") = pure (.type "type") := by kernel_rfl
/-- LookupError.__init__(self, ..) as an expression -/
theorem pe_leinit {pl : Sem Bool} (hg : Gl X "LookupError") (hm : X.mg "LookupError" = none)
    (at_ : PySem.W.findCls X.K (.type "LookupError") (.type "type") "__init__" = some (.val (.builtin "LookupError.__init__"))) (ha : PA X (e :: es) ta)
    (ev : eval (.Call (.Attribute (.Name "LookupError" p1) "__init__" p2) (e :: es) [] pos) X.env = (do
      let base ← eval (.Name "LookupError" p1) X.env
      standAt p2.atName
      let (f, first) ← holding [base] (getMethod base "__init__" pl)
      callWith pos f first (backTo pos (starEach (e :: es) X.env)) (backToKw pos (keywordEach [] X.env))) := by rfl)
    (st : starEach (e :: es) X.env = (false, eval e X.env) :: starEach es X.env := by rfl)
    (ns : (backTo pos (starEach es X.env)).any (fun q => q.1) = false := by rfl) :
    PE X (.Call (.Attribute (.Name "LookupError" p1) "__init__" p2) (e :: es) [] pos) (tLeI X.K ta) := by
  refine ⟨fun pins s σ H Q I h => PySem.W.methodCall_KW (ld_blt I hg hm PyProof.Rows.Boot.«LookupError» ?_ (by decide) (by decide)) ev⟩
  obtain ⟨m, fr⟩ := I.fr
  refine PySem.W.method_type fr I.ok.mod.kin typ_LE (by decide +kernel) at_ (by decide +kernel) ?_
  show wpAny _ _ (callWith pos (Value.builtin "LookupError.__init__") [] (backTo pos (starEach (e :: es) X.env)) []) _ _ _
  refine PyProof.Rows.callWith_method1 (thn (ha.run pos pins _ σ H _ (I.tok _) h) fun us s1 hz => ?_) st ns
  obtain ⟨vs, H1, I1, rel, a, C, ws, rfl, short, T, ea, q⟩ := hz
  cases rel with
  | @cons _ self _ rest r0 rs =>
    obtain rfl : self = Value.ref a := r0
    have few : rest.length ≤ sizeLine := by
      have z := Paired.length rs
      rw [sizeLine_eq]
      omega
    exact le_init T I1 ea few fun s' J => ⟨.non, H1, J, rfl, q⟩
/-- self.f = e, the first one -/
theorem ps_leF (ho : PE X o to) (he : PE X e te) (hs : swapsWith e (some (.Attribute o f p')) pos.line X.env = pure false := by rfl) :
    PS X (.Assign [.Attribute o f p'] e pos) (tLeF X.K f to te) := by
  refine ⟨fun pins s σ H D I h => plainObj_wpAny_Assign_Attribute (thn (he.run pins s σ H _ I h) fun v s1 hy => ?_) hs⟩
  obtain ⟨y, H1, I1, ry, q1⟩ := hy
  refine thn (ho.run pins s1 σ H1 _ I1 q1) fun u s2 hx => ?_
  obtain ⟨x, H2, I2, rx, a, C, rfl, T, nf, ea, q⟩ := hx
  obtain rfl : u = Value.ref a := rx
  exact le_field T I2 ea nf ry fun dx s' n ne J => ⟨σ, _, J, q dx n ne⟩
/-- raise C(e, ..): the error is made, its __init__ keeps sp -/
theorem pmk_lex {CX : CXT} {x : Str} {C fI : Addr} {k : Nat} {fd : FuncData} {ps : List Str} {sp : Sp} {ds : List Value} {dvs : List V}
    (T : LexC X.K C) (iC : PySem.W.findIn X.K (.ref C) "__init__" = some (some (.ref fI)))
    (tI : PySem.W.typeIn X.K (.ref fI) = some (.type "function")) (F1 : FnOk X.prog X.w X.K X.mg X.base CX k fI fd ps sp)
    (hr : Room (k + 1) X.A) (hb : Binds X.K fd ps ds) (hd : Vals dvs ds) (hx : Passes CX X (fun _ _ _ => False)) (hg : Gl X x)
    (hm : X.mg x = some (.ref C)) (ha : PA X (e :: es) ta) (nd : (x == ("__debug__" : Str)) = false := by decide)
    (st : starEach (e :: es) X.env = (false, eval e X.env) :: starEach es X.env := by rfl)
    (ns : (backTo pos (starEach es X.env)).any (fun q => q.1) = false := by rfl) : PMk X (.Call (.Name x p) (e :: es) [] pos) (tMkO C sp dvs ta) := by
  intro pins s σ H Q I h
  obtain ⟨nm, ql, N, bs, sl, sb, ab, cl, dt, j0, j1, j2, j3, j5, lk⟩ := T.shape
  refine wpAny_Call_Name_kw (ld_glob I hg hm ?_ nd)
  refine PySem.W.callWith_K (h₀ := X.base) I.ok.mod.kin T.keep (thn (ha.run pos pins s σ H _ I h) fun us s1 hu => ?_) st ns
  obtain ⟨vs, H1, I1, rel, short, way⟩ := hu
  refine ⟨I1.kIn, ?_⟩
  show wpAny _ _ (call (.ref C) us) _ _ _
  obtain ⟨hp, g, dr, tk, os⟩ := s1
  -- where the error will stand
  have lo : hp.objs.size ≤ hp.objs.size + 1 := Nat.le_succ _
  have vac : H1 (hp.objs.size + 1) = none := I1.hok.fresh lo
  have todo := way (hp.objs.size + 1) vac
  have grow : ∀ b o, hp.get? b = some o → ((hp.push (PySem.W.kdv_tup us)).push (PySem.HandSPX.excO C hp.objs.size)).get? b = some o :=
    fun b o q => Heap.get?_push_of_some _ (Heap.get?_push_of_some _ q)
  have here : ((hp.push (PySem.W.kdv_tup us)).push (PySem.HandSPX.excO C hp.objs.size)).get? (hp.objs.size + 1) = some (PySem.HandSPX.excO C hp.objs.size) := by
    heap_get
  have I2 := I1.laid (t' := tk) (o := exo (hp.objs.size + 1) C none) grow lo (exo_ok here)
  have rel2 : Vals (V.ref (hp.objs.size + 1) :: (vs ++ dvs)) (Value.ref (hp.objs.size + 1) :: (us ++ ds)) := .cons rfl (rel.append hd)
  have args : (Value.ref (hp.objs.size + 1) :: us ++ ds).length = ps.length := by
    have z := rel2.length
    rw [F1.len _ _ _ _ todo] at z
    exact z.symm
  have few : us.length ≤ sizeLine := by
    have z := Paired.length rel
    rw [sizeLine_eq]
    omega
  have body := F1.run (Around.under X.A (.builtin "type.__call__" ⟨.ref C :: us, []⟩)) X.stack _ _ ⟨Value.ref (hp.objs.size + 1) :: us, []⟩ (Value.ref (hp.objs.size + 1) :: (us ++ ds)) _ _
    (fun _ _ _ => False) (hr.make C us []) (I2.env0.make C us []) (hb _ (Value.ref (hp.objs.size + 1) :: us) I2.kIn args) rel2 todo
  refine wpAny_call (PySem.HandSPX.call_own F.excBase_LookupError (fun _ => rfl) (I1.kIn _ _ lk) (PySem.W.looks_findIn I1.kIn iC)
    (fun self => PySem.W.bind_fn I1.kIn self tI) few (codeAny_mono body fun r s' out => ?_))
  cases r with
  | error er => exact hx pins σ _ _ er s' I2 out
  | ok way2 =>
    cases way2 with
    | ret u =>
      obtain ⟨v, H2, os2, bare2, un2, ok2, rv, ev, d, fs, ea, ed, vd, q2⟩ := out
      subst ev
      obtain ⟨h2, g2, d2, t2, os'⟩ := s'
      exact ⟨rv, mk_end (raises_own T.isE T.isT) I1 lo grow un2 ok2 os2 bare2 ea ed vd q2⟩
    | _ => exact out.elim
end
end Jd
/-! len, in, ==, != by a class's own defs; calls by keywords alone; a class made where errors are caught -/
namespace PySem.W
open PySem PySem.Calls PyProof.Rows Builtin
section
variable {prog : Program} {w : World} {A : Around} {E : Value → Shared → Prop} {s : Shared} {K : Frag} {x C L f : Addr} {h₀ : Heap} {m : Str → Option Value} {ox : Obj} {od : Option Obj} {b tb : Value}
theorem ifBoundB_K {M : Model} {id : String} {name : Str} {args : List Value} {Q : Option Value → Shared → Prop} (X : K.In s.heap) (I : InstAt s.heap x ox C od) (hs : findIn K (.ref C) name = some (some (.builtin id)))
    (hb : bindSpecial (.builtin id) (.ref x) = pure (.builtin id, [.ref x]))
    (h : wpAny M A (call (.builtin id) (.ref x :: args)) (fun v => Q (some v)) E s) : wpAny M A (callSpecialIfBound? (.ref x) name args) Q E s := by
  simp only [callSpecialIfBound?, bindSpecialIfBound?]
  refine wpAny_holding (wpAny_bind (wpAny_bind (wpAny_bind (I.type.here ((looks_findIn X hs).here ?_)))))
  simp only [hb]
  refine wpAny_bind (wpAny_askSetting (wpAny_ite ?_))
  have fin : wpAny M A (call (.builtin id) ([.ref x] ++ args) >>= fun v => pure (some v)) Q E s := wpAny_bind (wpAny_mono h (fun v s' h' => wpAny_pure h') fun _ _ h' => h')
  split
  · exact wpAny_bind (wpAny_pure (wpAny_pure (by exact fin)))
  · exact wpAny_tryCatch (wpAny_bind (wpAny_pure (wpAny_pure (by exact fin))))
theorem ne_K {Q : Value → Shared → Prop} (hu : A.units + 1 < cLine) (X : K.In s.heap) (I : InstAt s.heap x ox C od) (hb : Looks (model prog w) s.heap (typeOf b) tb) (hn : notFirst K C tb = true)
    (hne : findIn K (.ref C) "__ne__" = some (some (.builtin "object.__ne__"))) (hm : mroIn K C (.type "object") = some true)
    (hs : findIn K (.ref C) "__eq__" = some (some (.ref f))) (hf : isFn K (.ref f) = true)
    (h : wpAny (model prog w) A.in1 (call (.ref f) [.ref x, b]) (fun v s' => ∃ c, v = .bool c ∧ Q (.bool (!c)) s') E s) : wpAny (model prog w) A (richCompare .NotEq (.ref x) b) Q E s := by
  have isO : Looks (model prog w) s.heap (isInstance (.ref x) (.type "object")) true := I.type.andThen (looks_mroIn X hm)
  have body : wpAny (model prog w) A (call (.builtin "object.__ne__") [.ref x, b]) (fun v s' => ∃ c, v = .bool c ∧ Q v s') E s := by
    refine wpAny_call (codeAny_call_builtin PySem.F.cmp_object.ne.plain PySem.F.cmpEntry_ne
      (@check_slot (model prog w) _ _ s "object.__ne__" "object" "__ne__" (.ref x) [b] [] _ PySem.F.cmpKind_ne PySem.F.cmpSplit_ne isO (PySem.F.cmpArgs_ne _ _) ?_))
    unfold Builtin.«object.__ne__»
    refine wpAny_bind (wpAny_of_eq (a := ((Value.ref x : Value), [b])) (by first | rfl | (simp only [slotArgs]; rfl)) ?_)
    refine wpAny_bind (wpAny_cRoomFor (A := A.in1) hu ?_)
    refine wpAny_bind (ifBound_K X I hs hf (wpAny_mono h (fun v s' hv => ?_) fun _ _ e => e))
    obtain ⟨c, rfl, q⟩ := hv
    refine wpAny_bind (wpAny_truthy_bool ?_)
    exact wpAny_pure ⟨_, rfl, q⟩
  have one : wpAny (model prog w) A (tryCompare (.ref x) (cmpInfo .NotEq).2.1 b) (fun r s' => ∃ v, r = some v ∧ Q v s') E s := by
    unfold tryCompare
    refine wpAny_bind (ifBoundB_K X I hne (PySem.F.cmp_object.ne.bind _) (wpAny_mono body (fun v s' hv => ?_) fun _ _ e => e))
    obtain ⟨c, rfl, q⟩ := hv
    exact wpAny_pure ⟨_, rfl, q⟩
  unfold richCompare
  simp only [oneThing_ref]
  refine wpAny_holding (wpAny_bind (wpAny_cRoomFor (Nat.lt_of_succ_lt hu) ?_))
  refine wpAny_bind (I.type.here (wpAny_bind (hb.here ?_)))
  split
  · rename_i q
    have e : subIn K tb (.ref C) = some false := by
      rcases Bool.or_eq_true_iff.mp hn with e | e
      · rw [beq_iff_eq.mp e] at q; simp at q
      · exact beq_iff_eq.mp e
    refine wpAny_bind ((looks_subIn X e).here ?_)
    simp only [Bool.false_eq_true, if_false]
    refine wpAny_bind (wpAny_mono one (fun r s' z => ?_) fun _ _ e => e)
    obtain ⟨v, rfl, hq⟩ := z
    exact wpAny_pure hq
  · refine wpAny_bind (wpAny_pure ?_)
    simp only [Bool.false_eq_true, if_false]
    refine wpAny_bind (wpAny_mono one (fun r s' z => ?_) fun _ _ e => e)
    obtain ⟨v, rfl, hq⟩ := z
    exact wpAny_pure hq
end
end PySem.W
namespace Jd
open PySem PySem.Spec PyProof.Rows L2
section
variable {X : Cx} {CX : CXT} {k : Nat} {C f : Addr} {fd : FuncData} {ps : List Str} {sp : Sp} {E : XK}
def rLenOwn (C : Addr) (sp : Sp) (E : XK) : List V → Hp → VK → Prop := fun xs H Q => ∃ a dx fs, xs = [.ref a] ∧ H a = some (.ins C dx fs) ∧ sp [.ref a] H (fun v H' => ∃ n : Int, v = .int n ∧ 0 ≤ n ∧ n < 2 ^ 63 ∧ Q (.int n) H') E
def rInOwn (C : Addr) (sp : Sp) (E : XK) : R2 := fun x y H Q => ∃ a dx fs, y = .ref a ∧ H a = some (.ins C dx fs) ∧ sp [y, x] H (fun v H' => ∃ c : Bool, v = .bl c ∧ Q (.bl c) H') E
def rEqOwn (K : PySem.W.Frag) (C : Addr) (sp : Sp) (E : XK) : R2 := fun x y H Q => ∃ a dx fs t, x = .ref a ∧ H a = some (.ins C dx fs) ∧ TyX K H y t ∧ PySem.W.notFirst K C t = true ∧ sp [x, y] H (fun v H' => ∃ c : Bool, v = .bl c ∧ Q (.bl c) H') E
def rNeOwn (K : PySem.W.Frag) (C : Addr) (sp : Sp) (E : XK) : R2 := fun x y H Q => ∃ a dx fs t, x = .ref a ∧ H a = some (.ins C dx fs) ∧ TyX K H y t ∧ PySem.W.notFirst K C t = true ∧ sp [x, y] H (fun v H' => ∃ c : Bool, v = .bl c ∧ Q (.bl (!c)) H') E
/-- the def run around A, which stands as deep as X.A or one deeper -/
theorem own_run {pins : List (Addr × Obj)} {s : Shared} {σ : L2.St} {H : Hp} {Q : VK} {vs : List V} {us : List Value} (A : Around) (hA : A.frames = X.A.frames) (F : FnOk X.prog X.w X.K X.mg X.base CX k f fd ps sp) (hr : Room k A) (hb : Binds X.K fd ps []) (hx : Passes CX X E)
    (I : Inv X pins σ H s) (r : Vals vs us) (h : sp vs H Q E) : wpAny (model X.prog X.w) A (call (.ref f) us) (EP X pins σ Q) X.xe s := by
  have e := I.env0
  have e0 : Env0 X.prog X.w X.K X.mg X.base A X.stack s H := ⟨by rw [hA]; exact e.frames, e.mod, e.bs, e.bsz, e.funs, e.frf, e.hok, e.bare⟩
  have hl := F.len _ _ _ _ h
  refine wpAny_call (codeAny_mono (F.run A X.stack s H ⟨us, []⟩ us vs _ E hr e0 (by
    have := hb s us I.kIn (by simpa [← r.length] using hl)
    simpa using this) r h) fun r s' hq => ?_)
  cases r with
  | error e => exact hx pins σ H s e s' I hq
  | ok fl =>
    cases fl with
    | ret w => exact I.after hq
    | next => exact False.elim hq
    | brk => exact False.elim hq
    | cont => exact False.elim hq
theorem call_lenOwn (F : FnOk X.prog X.w X.K X.mg X.base CX k f fd ps sp) (hr : Room (k + 1) X.A) (hs : PySem.W.findIn X.K (.ref C) "__len__" = some (some (.ref f))) (hf : PySem.W.isFn X.K (.ref f) = true) (hb : Binds X.K fd ps []) (hx : Passes CX X E) : CallR X (.builtin "len") (rLenOwn C sp E) := by
  intro pins s σ H xs us Q I r h
  obtain ⟨a, dx, fs, rfl, ha, hsp⟩ := h
  cases r with
  | cons rx rr =>
    cases rr
    cases rx
    obtain ⟨mA, J, _⟩ := ins_get I.hok ha
    obtain ⟨od, J, _⟩ := J.look
    obtain ⟨m, hF⟩ := I.fr
    refine PySem.W.len_K hF I.ok.mod.kin J hs hf (wpAny_mono (own_run X.A.in1 rfl F hr.in1 hb hx I (.cons (show RelV (V.ref a) (Value.ref a) from rfl) .nil) hsp) (fun v s' z => ?_) fun _ _ x => x)
    obtain ⟨y, H', I', rz, n, ez, n0, n1, q⟩ := z
    subst ez
    obtain ⟨t, rfl⟩ := (show ∃ t, v = Value.int n t from rz)
    exact ⟨⟨n0, n1⟩, .int n, H', I'.tok _, ⟨_, rfl⟩, q⟩
theorem op_inOwn (F : FnOk X.prog X.w X.K X.mg X.base CX k f fd ps sp) (hr : Room k X.A) (hs : PySem.W.findIn X.K (.ref C) "__contains__" = some (some (.ref f))) (hf : PySem.W.isFn X.K (.ref f) = true) (hb : Binds X.K fd ps []) (hx : Passes CX X E) : OpR X (compareOp .In) (rInOwn C sp E) := by
  intro pins s σ H x y v u Q I rx ry h
  obtain ⟨a, dx, fs, rfl, ha, hsp⟩ := h
  cases ry
  obtain ⟨mA, J, _⟩ := ins_get I.hok ha
  obtain ⟨od, J, _⟩ := J.look
  obtain ⟨m, hF⟩ := I.fr
  refine PySem.W.in_K hF I.ok.mod.kin J hs hf (wpAny_mono (own_run X.A rfl F hr hb hx I (.cons (show RelV (V.ref a) (Value.ref a) from rfl) (.cons rx .nil)) hsp) (fun v s' z => ?_) fun _ _ x => x)
  obtain ⟨y, H', I', rz, c, ez, q⟩ := z
  subst ez
  cases rz
  exact wpAny_truthy_bool ⟨.bl c, H', I', rfl, q⟩
theorem op_eqOwn (F : FnOk X.prog X.w X.K X.mg X.base CX k f fd ps sp) (hr : Room k X.A) (hs : PySem.W.findIn X.K (.ref C) "__eq__" = some (some (.ref f))) (hf : PySem.W.isFn X.K (.ref f) = true) (hb : Binds X.K fd ps []) (hx : Passes CX X E) : OpR X (compareOp .Eq) (rEqOwn X.K C sp E) := by
  intro pins s σ H x y v u Q I rx ry h
  obtain ⟨a, dx, fs, t, rfl, ha, ht, hn, hsp⟩ := h
  obtain ⟨P, kx, hP, _⟩ := kit_of I ry ht
  cases rx
  obtain ⟨mA, J, _⟩ := ins_get I.hok ha
  obtain ⟨od, J, _⟩ := J.look
  obtain ⟨m, hF⟩ := I.fr
  show wpAny (model X.prog X.w) X.A (richCompare .Eq (.ref a) u) (EP X pins σ Q) X.xe s
  refine PySem.W.cmp_K (op := .Eq) (tb := t) hr.units0 hF I.ok.mod.kin J (kx.ty _ _ I.kIn hP) hn hs hf (wpAny_mono (own_run X.A rfl F hr hb hx I (.cons (show RelV (V.ref a) (Value.ref a) from rfl) (.cons ry .nil)) hsp) (fun v s' z => ?_) fun _ _ x => x)
  obtain ⟨y, H', I', rz, c, ez, q⟩ := z
  subst ez
  cases rz
  exact ⟨.bl c, H', I', rfl, q⟩
theorem op_neOwn (F : FnOk X.prog X.w X.K X.mg X.base CX k f fd ps sp) (hr : Room (k + 1) X.A) (hu : X.A.units + 1 < cLine) (hs : PySem.W.findIn X.K (.ref C) "__eq__" = some (some (.ref f))) (hf : PySem.W.isFn X.K (.ref f) = true)
    (hne : PySem.W.findIn X.K (.ref C) "__ne__" = some (some (.builtin "object.__ne__"))) (hm : PySem.W.mroIn X.K C (.type "object") = some true) (hb : Binds X.K fd ps []) (hx : Passes CX X E) : OpR X (compareOp .NotEq) (rNeOwn X.K C sp E) := by
  intro pins s σ H x y v u Q I rx ry h
  obtain ⟨a, dx, fs, t, rfl, ha, ht, hn, hsp⟩ := h
  obtain ⟨P, kx, hP, _⟩ := kit_of I ry ht
  cases rx
  obtain ⟨mA, J, _⟩ := ins_get I.hok ha
  obtain ⟨od, J, _⟩ := J.look
  show wpAny (model X.prog X.w) X.A (richCompare .NotEq (.ref a) u) (EP X pins σ Q) X.xe s
  refine PySem.W.ne_K (tb := t) hu I.kIn J (kx.ty _ _ I.kIn hP) hn hne hm hs hf (wpAny_mono (own_run X.A.in1 rfl F hr.in1 hb hx I (.cons (show RelV (V.ref a) (Value.ref a) from rfl) (.cons ry .nil)) hsp) (fun v s' z => ?_) fun _ _ x => x)
  obtain ⟨y, H', I', rz, c, ez, q⟩ := z
  subst ez
  cases rz
  exact ⟨c, rfl, .bl (!c), H', I', rfl, q⟩
end
/-! two readings of one piece -/
section
variable {X : Cx} {e tg : Expr} {t1 t2 : TE} {w1 w2 : TI} {g1 g2 : TG}
theorem pe_or2 (h1 : PE X e t1) (h2 : PE X e t2) : PE X e (fun σ H Q => t1 σ H Q ∨ t2 σ H Q) :=
  ⟨fun pins s σ H Q I h => h.elim (h1.run pins s σ H Q I) (h2.run pins s σ H Q I)⟩
theorem pi_or2 (h1 : PI X tg e w1) (h2 : PI X tg e w2) : PI X tg e (fun σ H R => w1 σ H R ∨ w2 σ H R) :=
  ⟨fun pins s σ H R I h => h.elim (h1.run pins s σ H R I) (h2.run pins s σ H R I)⟩
theorem pg_or2 (h1 : PG X tg g1) (h2 : PG X tg g2) : PG X tg (fun v σ H Q => g1 v σ H Q ∨ g2 v σ H Q) :=
  ⟨fun pins s σ H v u Q I r h => h.elim (h1.run pins s σ H v u Q I r) (h2.run pins s σ H v u Q I r)⟩
end
end Jd
namespace Jd
open PySem PySem.Spec PyProof.Rows L2
/-! a class made, a method called, where what is raised is wished for at the slots; methods called by keywords alone -/
section
variable {X : Cx} {CX : CXT} {k : Nat} {f C : Addr} {fd : FuncData} {ps : List Str} {sp : Sp} {dvs : List V} {ds : List Value} {E : L2.St → XK} {x m : Str} {p pos apos : Pos} {e o : Expr} {es : List Expr} {t : TA} {ta : TE}
def tMakeS (C : Addr) (sp : Sp) (dvs : List V) (E : L2.St → XK) (t : TA) : TE := fun σ H Q => t σ H fun vs H1 => ∀ x dx, H1 x = none → H1 dx = none → dx ≠ x →
  sp (.ref x :: (vs ++ dvs)) (upd (upd H1 dx (.own x)) x (.ins C dx [])) (fun v H2 => v = .non ∧ Q (.ref x) H2) (E σ)
theorem run_makeS {pins : List (Addr × Obj)} {σ : L2.St} {H : Hp} {s : Shared} {Q : VK} {us : List Value} {vs : List V} (M : Mk X.K C f) (F : FnOk X.prog X.w X.K X.mg X.base CX k f fd ps sp) (hr : Room (k + 1) X.A) (hb : Binds X.K fd ps ds) (hd : Vals dvs ds)
    (hx : PassesAt CX X σ (E σ)) (I : Inv X pins σ H s) (r : Vals vs us)
    (h : ∀ x dx, H x = none → H dx = none → dx ≠ x → sp (.ref x :: (vs ++ dvs)) (upd (upd H dx (.own x)) x (.ins C dx [])) (fun v H2 => v = .non ∧ Q (.ref x) H2) (E σ)) :
    wpAny (model X.prog X.w) X.A (call (.ref C) us) (EP X pins σ Q) X.xe s := by
  have hq := h (s.heap.objs.size + 1) s.heap.objs.size (I.hok.fresh (Nat.le_succ _)) (I.hok.fresh (Nat.le_refl _)) (Nat.ne_of_lt (Nat.lt_succ_self _))
  have I2 := Inv.made (C := C) I
  have r2 : Vals (V.ref (s.heap.objs.size + 1) :: (vs ++ dvs)) (Value.ref (s.heap.objs.size + 1) :: (us ++ ds)) := .cons rfl (r.append hd)
  have hl : (Value.ref (s.heap.objs.size + 1) :: us ++ ds).length = ps.length := by
    have e := r2.length
    rw [F.len _ _ _ _ hq] at e
    exact e.symm
  refine wpAny_call (make_map (f := f) I.kIn M.makes M.init (beq_iff_eq.mp M.fn) (codeAny_mono (F.run _ X.stack _ _ ⟨Value.ref (s.heap.objs.size + 1) :: us, []⟩ (Value.ref (s.heap.objs.size + 1) :: (us ++ ds)) _ _ (E σ) (hr.make C us [])
    (I2.env0.make C us []) (hb _ (Value.ref (s.heap.objs.size + 1) :: us) I2.kIn hl) r2 hq) fun r s' hq' => ?_))
  cases r with
  | error e => exact hx pins _ _ e s' I2 hq'
  | ok fl =>
    cases fl with
    | ret u =>
      obtain ⟨v, H', I3, rv, ev, q3⟩ := I2.after hq'
      subst ev
      exact ⟨rv, ⟨V.ref (s.heap.objs.size + 1), H', I3, rfl, q3⟩⟩
    | next => exact False.elim hq'
    | brk => exact False.elim hq'
    | cont => exact False.elim hq'
theorem pe_makeS (M : Mk X.K C f) (F : FnOk X.prog X.w X.K X.mg X.base CX k f fd ps sp) (hr : Room (k + 1) X.A) (hg : Gl X x) (hm : X.mg x = some (.ref C)) (hb : Binds X.K fd ps ds) (hd : Vals dvs ds) (hx : ∀ σ, PassesAt CX X σ (E σ))
    (ha : PA X (e :: es) t) (hdb : (x == ("__debug__" : Str)) = false := by decide) (he : starEach (e :: es) X.env = (false, eval e X.env) :: starEach es X.env := by rfl) (hpl : (backTo pos (starEach es X.env)).any (·.1) = false := by rfl) :
    PE X (.Call (.Name x p) (e :: es) [] pos) (tMakeS C sp dvs E t) := by
  refine ⟨fun pins s σ H Q I h => ?_⟩
  refine wpAny_Call_Name_kw (ld_glob I hg hm ?_ hdb)
  refine PySem.W.callWith_K (h₀ := X.base) I.ok.mod.kin M.kp (thn (ha.run pos pins s σ H _ I h) fun us s1 ⟨vs, H1, I1, r, q⟩ => ⟨I1.kIn, ?_⟩) he hpl
  exact run_makeS M F hr hb hd (hx σ) I1 r q
/-- o.m(e, ..), what is raised wished for at the slots -/
def tMethSA (C : Addr) (m : Str) (sp : Sp) (E : L2.St → XK) (ta : TE) (t : TA) : TE := fun σ H Q => ta σ H fun x H1 => ∃ a dx fs, x = .ref a ∧ H1 a = some (.ins C dx fs) ∧ fs.lookup m = none ∧ t σ H1 fun vs H2 => sp (x :: vs) H2 Q (E σ)
theorem pe_methSA {pl : Sem Bool} (he : PE X o ta) (c : Cls X.K C) (hm : Meth X.K C m f) (F : FnOk X.prog X.w X.K X.mg X.base CX k f fd ps sp) (hr : Room k X.A) (hb : Binds X.K fd ps []) (hx : ∀ σ, PassesAt CX X σ (E σ)) (ha : PA X (e :: es) t)
    (ht : eval (.Call (.Attribute o m apos) (e :: es) [] pos) X.env = (do
      let ov ← eval o X.env
      standAt apos.atName
      let (f, first) ← holding [ov] (getMethod ov m pl)
      callWith pos f first (backTo pos (starEach (e :: es) X.env)) (backToKw pos (keywordEach [] X.env))) := by rfl)
    (hst : starEach (e :: es) X.env = (false, eval e X.env) :: starEach es X.env := by rfl) (hpl : (backTo pos (starEach es X.env)).any (·.1) = false := by rfl) :
    PE X (.Call (.Attribute o m apos) (e :: es) [] pos) (tMethSA C m sp E ta t) := by
  refine ⟨fun pins s σ H Q I h => ?_⟩
  refine PySem.W.methodCall_KW (pl := pl) (thn (he.run pins s σ H _ I h) fun u s1 ⟨x, H1, I1, rx, a, dx, fs, ex, ea, l, q⟩ => ?_) ht
  subst ex
  obtain rfl : u = Value.ref a := rx
  refine getmeth_ok I1 ea c hm l ?_
  refine PySem.W.callWith_K (first := [.ref a]) (h₀ := X.base) I1.ok.mod.kin hm.kp (thn (ha.run pos pins s1 σ H1 _ I1 q) fun us s2 ⟨vs, H2, I2, r, q2⟩ => ⟨I2.kIn, ?_⟩) hst hpl
  exact run_fnSD (us := .ref a :: us) (vs := .ref a :: vs) (dvs := []) (ds := []) F hr hb .nil (hx σ) I2 (.cons rfl r) (by rw [List.append_nil]; exact q2)
end
section
variable {X : Cx} {CX : CXT} {k : Nat} {f C : Addr} {fd : FuncData} {ps ks : List Str} {sp : Sp} {E : XK} {m : Str} {pos apos : Pos} {o : Expr} {ta : TE} {kws : List Keyword} {tk : TA} {g : List Value → List Value → List Value} {gV : List V → List V → List V}
/-- o.m(k = v, ..) -/
def tMethK0 (C : Addr) (m : Str) (sp : Sp) (gV : List V → List V → List V) (E : XK) (ta : TE) (tk : TA) : TE := fun σ H Q => ta σ H fun x H1 => ∃ a dx fs, x = .ref a ∧ H1 a = some (.ins C dx fs) ∧ fs.lookup m = none ∧ tk σ H1 fun zs H2 => sp (gV [x] zs) H2 Q E
theorem pe_methK0 {pl : Sem Bool} (he : PE X o ta) (c : Cls X.K C) (hm : Meth X.K C m f) (F : FnOk X.prog X.w X.K X.mg X.base CX k f fd ps sp) (hr : Room k X.A) (hb : KBinds X.K fd ps ks g gV) (hx : Passes CX X E) (hkw : PK X kws tk)
    (ht : eval (.Call (.Attribute o m apos) [] kws pos) X.env = (do
      let ov ← eval o X.env
      standAt apos.atName
      let (f, first) ← holding [ov] (getMethod ov m pl)
      callWith pos f first (backTo pos (starEach [] X.env)) (backToKw pos (keywordEach kws X.env))) := by rfl)
    (hall : (backToKw pos (keywordEach kws X.env)).all (fun q => q.1.isSome) = true := by rfl) (hks : (backToKw pos (keywordEach kws X.env)).filterMap (fun q => q.1) = ks := by rfl)
    (hpl : ((backTo pos (starEach [] X.env)).any (fun q => q.1) || (backToKw pos (keywordEach kws X.env)).any (fun q => q.1.isNone)) = false := by rfl) :
    PE X (.Call (.Attribute o m apos) [] kws pos) (tMethK0 C m sp gV E ta tk) := by
  refine ⟨fun pins s σ H Q I h => ?_⟩
  refine PySem.W.methodCall_KW (pl := pl) (thn (he.run pins s σ H _ I h) fun u s1 ⟨x, H1, I1, rx, a, dx, fs, ex, ea, l, q⟩ => ?_) ht
  subst ex
  obtain rfl : u = Value.ref a := rx
  refine getmeth_ok I1 ea c hm l ?_
  refine PySem.W.callWith_KW0 (first := [.ref a]) (h₀ := X.base) I1.ok.mod.kin hm.kp hall ?_ hpl
  refine thn (hkw.run pos pins s1 σ H1 _ I1 q) fun ws s2 hz => ?_
  obtain ⟨zs, H2, I2, rz, q2⟩ := hz
  refine ⟨I2.kIn, ?_⟩
  rw [hks]
  exact run_fnk (us := [.ref a]) (vs := [.ref a]) F hr hb hx I2 (.cons rfl .nil) rz q2
end
end Jd
namespace Jd
open PySem PySem.Spec PyProof.Rows L2
/-! ### a static method, called on its class -/
/-- C.m is a static method: its record's def stands at g -/
structure SMet (K : PySem.W.Frag) (C : Addr) (m : Str) (g : Addr) : Prop where
  rd : ClX.CRead K C (.type "type")
  at_ : ∃ p rest, PySem.W.findCls K (.ref C) (.type "type") m = some (.get (.builtin "staticmethod.__get__") (.ref p) .none (.ref C)) ∧ PySem.W.recIn K p "staticmethod" = some (.ref g :: rest)
  kp : PySem.W.keepIn K (.ref g) = true
def smB (K : PySem.W.Frag) (c m : Str) : Bool := He5.wrapB K (He.ga K c) "staticmethod" "staticmethod.__get__" m && (PySem.W.readsIn K (He.ga K c) (.type "type") && PySem.W.keepIn K (.ref (He5.wf K (He.ga K c) "staticmethod" m)))
theorem smB_ok {K : PySem.W.Frag} {c m : Str} (h : smB K c m = true) : SMet K (He.ga K c) m (He5.wf K (He.ga K c) "staticmethod" m) := by
  obtain ⟨h1, h⟩ := He.ba h
  obtain ⟨h2, h3⟩ := He.ba h
  obtain ⟨k1, rest, k2⟩ := He5.wrapB_ok h1
  refine ⟨⟨h2, ?_⟩, ⟨_, rest, k1, k2⟩, h3⟩
  have h := h2
  unfold PySem.W.readsIn at h
  obtain ⟨h, _⟩ := He.ba h
  obtain ⟨h, _⟩ := He.ba h
  obtain ⟨h, h3⟩ := He.ba h
  obtain ⟨_, h2⟩ := He.ba h
  unfold PySem.W.specialIn
  rw [beq_iff_eq.mp h2, Option.bind_some]
  exact beq_iff_eq.mp h3
section
variable {X : Cx} {CX : CXT} {k : Nat} {f C : Addr} {fd : FuncData} {ps ks : List Str} {sp : Sp} {dvs : List V} {ds : List Value} {E : XK} {m : Str} {pos apos : Pos} {o e : Expr} {es : List Expr} {t : TA} {ta : TE} {kws : List Keyword} {tk : TA} {g : List Value → List Value → List Value} {gV : List V → List V → List V}
theorem getmethsm_ok {pins : List (Addr × Obj)} {σ : L2.St} {H : Hp} {s : Shared} {A : Around} {E : Value → Shared → Prop} {pl : Sem Bool} {Q : Value × List Value → Shared → Prop} (I : Inv X pins σ H s) (r : SMet X.K C m f) (h : ∀ s', Inv X pins σ H s' → Q (.ref f, []) s') :
    wpAny (model X.prog X.w) A (getMethod (.ref C) m pl) Q E s := by
  obtain ⟨p, rest, k1, k2⟩ := r.at_
  refine PySem.W.method_cls I.kIn r.rd.ga (PySem.W.cls_bind I.kIn r.rd.rd k1 ?_)
  exact wpAny_call (PySem.W.sm_get (s := { s with toks := s.toks + 1 }) I.kIn k2 (PySem.W.handed_on rfl (h _ (I.tok _))))
/-- C.m(e, ..) -/
def tSMeth (C : Addr) (sp : Sp) (dvs : List V) (E : XK) (ta : TE) (t : TA) : TE := fun σ H Q => ta σ H fun x H1 => x = .ref C ∧ t σ H1 fun vs H2 => sp (vs ++ dvs) H2 Q E
theorem pe_smeth {pl : Sem Bool} (he : PE X o ta) (r : SMet X.K C m f) (F : FnOk X.prog X.w X.K X.mg X.base CX k f fd ps sp) (hr : Room k X.A) (hb : Binds X.K fd ps ds) (hd : Vals dvs ds) (hx : Passes CX X E) (ha : PA X (e :: es) t)
    (hst : starEach (e :: es) X.env = (false, eval e X.env) :: starEach es X.env := by rfl) (hpl : (backTo pos (starEach es X.env)).any (·.1) = false := by rfl)
    (ht : eval (.Call (.Attribute o m apos) (e :: es) [] pos) X.env = (do
      let ov ← eval o X.env
      standAt apos.atName
      let (f, first) ← holding [ov] (getMethod ov m pl)
      callWith pos f first (backTo pos (starEach (e :: es) X.env)) (backToKw pos (keywordEach [] X.env))) := by rfl) :
    PE X (.Call (.Attribute o m apos) (e :: es) [] pos) (tSMeth C sp dvs E ta t) := by
  refine ⟨fun pins s σ H Q I h => ?_⟩
  refine PySem.W.methodCall_KW (pl := pl) (thn (he.run pins s σ H _ I h) fun u s1 ⟨x, H1, I1, rx, ex, q⟩ => ?_) ht
  subst ex
  obtain rfl : u = Value.ref C := rx
  refine getmethsm_ok I1 r fun s2 I2 => ?_
  refine PySem.W.callWith_K (h₀ := X.base) I2.ok.mod.kin r.kp (thn (ha.run pos pins s2 σ H1 _ I2 q) fun us s3 ⟨vs, H2, I3, rv, q2⟩ => ⟨I3.kIn, ?_⟩) hst hpl
  exact run_fn F hr hb hd hx I3 rv q2
/-- C.m(k = v, ..) -/
def tSMethK0 (C : Addr) (sp : Sp) (gV : List V → List V → List V) (E : XK) (ta : TE) (tk : TA) : TE := fun σ H Q => ta σ H fun x H1 => x = .ref C ∧ tk σ H1 fun zs H2 => sp (gV [] zs) H2 Q E
theorem pe_smethK0 {pl : Sem Bool} (he : PE X o ta) (r : SMet X.K C m f) (F : FnOk X.prog X.w X.K X.mg X.base CX k f fd ps sp) (hr : Room k X.A) (hb : KBinds X.K fd ps ks g gV) (hx : Passes CX X E) (hkw : PK X kws tk)
    (ht : eval (.Call (.Attribute o m apos) [] kws pos) X.env = (do
      let ov ← eval o X.env
      standAt apos.atName
      let (f, first) ← holding [ov] (getMethod ov m pl)
      callWith pos f first (backTo pos (starEach [] X.env)) (backToKw pos (keywordEach kws X.env))) := by rfl)
    (hall : (backToKw pos (keywordEach kws X.env)).all (fun q => q.1.isSome) = true := by rfl) (hks : (backToKw pos (keywordEach kws X.env)).filterMap (fun q => q.1) = ks := by rfl)
    (hpl : ((backTo pos (starEach [] X.env)).any (fun q => q.1) || (backToKw pos (keywordEach kws X.env)).any (fun q => q.1.isNone)) = false := by rfl) :
    PE X (.Call (.Attribute o m apos) [] kws pos) (tSMethK0 C sp gV E ta tk) := by
  refine ⟨fun pins s σ H Q I h => ?_⟩
  refine PySem.W.methodCall_KW (pl := pl) (thn (he.run pins s σ H _ I h) fun u s1 ⟨x, H1, I1, rx, ex, q⟩ => ?_) ht
  subst ex
  obtain rfl : u = Value.ref C := rx
  refine getmethsm_ok I1 r fun s2 I2 => ?_
  refine PySem.W.callWith_KW0 (h₀ := X.base) I2.ok.mod.kin r.kp hall ?_ hpl
  refine thn (hkw.run pos pins s2 σ H1 _ I2 q) fun ws s3 hz => ?_
  obtain ⟨zs, H2, I3, rz, q2⟩ := hz
  refine ⟨I3.kIn, ?_⟩
  rw [hks]
  exact run_fnk (us := []) (vs := []) F hr hb hx I3 .nil rz q2
end
end Jd
namespace Jd
open PySem PySem.Spec PyProof.Rows L2
def top (i : Nat) : Stmt := PySem.Challenge.pw_keyspans_k06_whole_what_parts_two_stages.main.body.getD i (.Pass ⟨0, 0, 0, 0⟩)
abbrev s_is_name : Stmt := top 13
abbrev s_is_field : Stmt := top 14
abbrev s_field_of : Stmt := top 15
abbrev s_field_text : Stmt := top 16
abbrev s_Keys___init__ : Stmt := inClass (top 19) 0
abbrev s_Keys_p_names : Stmt := inClass (top 19) 1
abbrev s_Keys_p_pairs : Stmt := inClass (top 19) 2
abbrev s_Keys_tells : Stmt := inClass (top 19) 4
abbrev s_Keys_told : Stmt := inClass (top 19) 5
abbrev s_Keys__check : Stmt := inClass (top 19) 6
abbrev s_Keys___contains__ : Stmt := inClass (top 19) 7
abbrev s_Keys___len__ : Stmt := inClass (top 19) 8
abbrev s_Keys___eq__ : Stmt := inClass (top 19) 9
abbrev s__all_told : Stmt := top 21
abbrev s_is_numeral : Stmt := top 9
abbrev s_number_of : Stmt := top 10
abbrev s_written : Stmt := top 11
abbrev s_Stage___init__ : Stmt := inClass (top 23) 0
abbrev s_Stage_p_schema : Stmt := inClass (top 23) 1
abbrev s_Stage_lane : Stmt := inClass (top 23) 4
abbrev s_Stage_same : Stmt := inClass (top 23) 5
abbrev s_Stage___getitem__ : Stmt := inClass (top 23) 6
abbrev s_Stage___eq__ : Stmt := inClass (top 23) 10
abbrev s_Stage___le__ : Stmt := inClass (top 23) 11
abbrev s_Stage___lt__ : Stmt := inClass (top 23) 12
abbrev s_Stage___or__ : Stmt := inClass (top 23) 13
abbrev s_Stage___and__ : Stmt := inClass (top 23) 14
abbrev s_Stage___xor__ : Stmt := inClass (top 23) 15
abbrev s_all_names : Stmt := top 17
abbrev s__joined : Stmt := top 24
abbrev s__closed : Stmt := top 25
abbrev s_stage_of_numbers : Stmt := top 27
abbrev s__divides : Stmt := top 26
abbrev s_check_same_keys : Stmt := top 28
abbrev s__parted : Stmt := top 29
abbrev s_is_int : Stmt := top 31
abbrev s_is_row : Stmt := top 33
abbrev s_lanes : Stmt := top 34
abbrev s__is_record : Stmt := top 35
abbrev s__tuples : Stmt := top 36
abbrev s__first_doubled : Stmt := top 37
abbrev s__first_clash : Stmt := top 38
abbrev s__clashing_name : Stmt := top 39
abbrev s__queues : Stmt := top 40
abbrev s_NoName___init__ : Stmt := inClass (top 2) 0
abbrev s_BadField___init__ : Stmt := inClass (top 3) 0
abbrev s_BadLine___init__ : Stmt := inClass (top 4) 0
abbrev s_Ringed___init__ : Stmt := inClass (top 5) 0
abbrev s_MixedKeys___init__ : Stmt := inClass (top 6) 0
abbrev s__law_box : Stmt := top 42
abbrev s__law_take : Stmt := top 43
abbrev s__law_cells : Stmt := top 44
abbrev s__law_of : Stmt := top 45
abbrev s__law_same : Stmt := top 46
abbrev s__law_mixed : Stmt := top 47
abbrev s__law_gcd : Stmt := top 48
abbrev s__law_lcm : Stmt := top 49
abbrev s__law_book : Stmt := top 50
abbrev s__law_told : Stmt := top 51
abbrev s__law_field : Stmt := top 52
abbrev s__law_split : Stmt := top 53
abbrev s__law_mods : Stmt := top 54
abbrev s__law_lane : Stmt := top 55
abbrev s__law_log : Stmt := top 56
abbrev s__law_due : Stmt := top 57
abbrev s__law_pair_right : Stmt := top 58
abbrev s__law_within_right : Stmt := top 59
abbrev s__law_right : Stmt := top 60
abbrev s_law : Stmt := top 61
end Jd
namespace Jd
open PySem PySem.Spec PyProof.Rows L2
/-! ### facts of the written part that the house's own list does not hold -/
/-- the getter of a property -/
def propG (K : PySem.W.Frag) (c m : Str) : Addr := match PySem.W.recIn K (He.ma K (He.ga K c) m) "property" with
  | some (.ref g :: _) => g
  | _ => 0
def propB (K : PySem.W.Frag) (c m : Str) : Bool :=
  He.eqO (PySem.W.findIn K (.ref (He.ga K c)) m) (some (some (.ref (He.ma K (He.ga K c) m)))) && (He.eqO (PySem.W.specialIn K (.ref (He.ma K (He.ga K c) m)) "__get__") (some (some (.builtin "property.__get__"))) &&
    (decide (PySem.W.takesIn K (.ref (He.ma K (He.ga K c) m)) = some true) && (match PySem.W.recIn K (He.ma K (He.ga K c) m) "property" with
      | some (.ref _ :: _) => true
      | _ => false)))
theorem propB_ok {K : PySem.W.Frag} {c m : Str} (h : propB K c m = true) : PropOf K (He.ga K c) m (He.ma K (He.ga K c) m) (propG K c m) := by
  obtain ⟨c1, h⟩ := He.ba h
  obtain ⟨c2, h⟩ := He.ba h
  obtain ⟨c3, c4⟩ := He.ba h
  refine ⟨He.eqO_ok c1, He.eqO_ok c2, of_decide_eq_true c3, ?_⟩
  unfold propG
  cases e : PySem.W.recIn K (He.ma K (He.ga K c) m) "property" with
  | none =>
    rw [e] at c4
    cases c4
  | some l =>
    rw [e] at c4
    cases l with
    | nil => cases c4
    | cons v r =>
      cases v with
      | ref g => exact ⟨r, rfl⟩
      | _ => cases c4
/-- a name of the module that holds a built-in function -/
def blB (K : PySem.W.Frag) (x : Str) (id : String) : Bool := He.eqO (PySem.W.nsIn K mainGlobals x) (some (some (.builtin id)))
theorem blB_ok {K : PySem.W.Frag} {h : Heap} {mg : Str → Option Value} (X : K.In h) (G : h.Ns mainGlobals mg) {x : Str} {id : String} (c : blB K x id = true) : mg x = some (.builtin id) := PySem.W.mg_of X G (He.eqO_ok c)
/-- an exception class over ValueError with an __init__ of its own -/
def oexB (K : PySem.W.Frag) (c : Str) : Bool :=
  (match K.lookup (He.ga K c) with
    | some ⟨.type n, _, .cls cd, sl⟩ => decide (n = "type") && ((match cd.mro, sl.toList with
      | .ref C' :: bm, [_, _, _, _, some (.builtin n), _] => decide (C' = He.ga K c) && (decide (n = "ValueError.__new__") && PySem.HandSPX.refsVE bm)
      | _, _ => false) && (cd.hasDict && !cd.hasDel))
    | _ => false) && (He.eqO (PySem.W.findIn K (.ref (He.ga K c)) "__setattr__") (some (some (.builtin "object.__setattr__"))) &&
  (decide (PySem.W.subIn K (.ref (He.ga K c)) (.type "BaseException") = some true) && (decide (PySem.W.typeIn K (.ref (He.ga K c)) = some (.type "type")) && (PySem.W.keepIn K (.ref (He.ga K c)) &&
  (He.eqO (PySem.W.findIn K (.ref (He.ga K c)) "__init__") (some (some (.ref (He.ma K (He.ga K c) "__init__")))) && decide (PySem.W.typeIn K (.ref (He.ma K (He.ga K c) "__init__")) = some (.type "function")))))))
theorem oexB_ok {K : PySem.W.Frag} {c : Str} (h : oexB K c = true) : OexC K (He.ga K c) ∧ PySem.W.findIn K (.ref (He.ga K c)) "__init__" = some (some (.ref (He.ma K (He.ga K c) "__init__"))) ∧
    PySem.W.typeIn K (.ref (He.ma K (He.ga K c) "__init__")) = some (.type "function") := by
  obtain ⟨c1, h⟩ := He.ba h
  obtain ⟨c2, h⟩ := He.ba h
  obtain ⟨c3, h⟩ := He.ba h
  obtain ⟨c4, h⟩ := He.ba h
  obtain ⟨c5, h⟩ := He.ba h
  obtain ⟨c6, c7⟩ := He.ba h
  refine ⟨⟨?_, He.eqO_ok c2, of_decide_eq_true c3, of_decide_eq_true c4, c5⟩, He.eqO_ok c6, of_decide_eq_true c7⟩
  split at c1
  · rename_i n dd cd sl ho
    obtain ⟨b1, c1⟩ := He.ba c1
    obtain ⟨b2, b3⟩ := He.ba c1
    obtain ⟨b4, b5⟩ := He.ba b3
    have en : n = "type" := of_decide_eq_true b1
    split at b2
    · rename_i C' bm k0 k1 k2 k3 n' k5 hm hs
      obtain ⟨b6, b2⟩ := He.ba b2
      obtain ⟨b7, b8⟩ := He.ba b2
      have e1 : C' = He.ga K c := of_decide_eq_true b6
      have e2 : n' = "ValueError.__new__" := of_decide_eq_true b7
      subst e2
      subst en
      obtain ⟨nm, bs, mro, ns, qn, hd, sn, sub, ab, col, del⟩ := cd
      dsimp only at hm b4 b5
      rw [e1] at hm
      have ed : del = false := by simpa using b5
      subst b4
      subst ed
      have hsl : sl = #[k0, k1, k2, k3, some (.builtin "ValueError.__new__"), k5] := by
        obtain ⟨l⟩ := sl
        simp only at hs
        rw [hs]
      subst hsl
      subst hm
      exact ⟨nm, qn, ns, bs, bm, sn, sub, ab, col, dd, k0, k1, k2, k3, k5, ho, b8⟩
    · cases b2
  · cases c1
/-- an exception class over LookupError with an __init__ of its own -/
def lexB (K : PySem.W.Frag) (c : Str) : Bool :=
  (match K.lookup (He.ga K c) with
    | some ⟨.type n, _, .cls cd, sl⟩ => decide (n = "type") && ((match cd.mro, sl.toList with
      | [.ref C', .type b1, .type b2, .type b3, .type b4], [_, _, _, _, some (.builtin n), _] => decide (C' = He.ga K c) && (decide (n = "LookupError.__new__") && (decide (b1 = "LookupError") && (decide (b2 = "Exception") && (decide (b3 = "BaseException") && decide (b4 = "object")))))
      | _, _ => false) && (cd.hasDict && !cd.hasDel))
    | _ => false) && (He.eqO (PySem.W.findIn K (.ref (He.ga K c)) "__setattr__") (some (some (.builtin "object.__setattr__"))) &&
  (decide (PySem.W.subIn K (.ref (He.ga K c)) (.type "BaseException") = some true) && (decide (PySem.W.typeIn K (.ref (He.ga K c)) = some (.type "type")) && (PySem.W.keepIn K (.ref (He.ga K c)) &&
  (He.eqO (PySem.W.findIn K (.ref (He.ga K c)) "__init__") (some (some (.ref (He.ma K (He.ga K c) "__init__")))) && decide (PySem.W.typeIn K (.ref (He.ma K (He.ga K c) "__init__")) = some (.type "function")))))))
theorem lexB_ok {K : PySem.W.Frag} {c : Str} (h : lexB K c = true) : LexC K (He.ga K c) ∧ PySem.W.findIn K (.ref (He.ga K c)) "__init__" = some (some (.ref (He.ma K (He.ga K c) "__init__"))) ∧
    PySem.W.typeIn K (.ref (He.ma K (He.ga K c) "__init__")) = some (.type "function") := by
  obtain ⟨c1, h⟩ := He.ba h
  obtain ⟨c2, h⟩ := He.ba h
  obtain ⟨c3, h⟩ := He.ba h
  obtain ⟨c4, h⟩ := He.ba h
  obtain ⟨c5, h⟩ := He.ba h
  obtain ⟨c6, c7⟩ := He.ba h
  refine ⟨⟨?_, He.eqO_ok c2, of_decide_eq_true c3, of_decide_eq_true c4, c5⟩, He.eqO_ok c6, of_decide_eq_true c7⟩
  split at c1
  · rename_i n dd cd sl ho
    obtain ⟨b1, c1⟩ := He.ba c1
    obtain ⟨b2, b3⟩ := He.ba c1
    obtain ⟨b4, b5⟩ := He.ba b3
    have en : n = "type" := of_decide_eq_true b1
    split at b2
    · rename_i C' m1 m2 m3 m4 k0 k1 k2 k3 n' k5 hm hs
      obtain ⟨b6, b2⟩ := He.ba b2
      obtain ⟨b7, b2⟩ := He.ba b2
      obtain ⟨b8, b2⟩ := He.ba b2
      obtain ⟨b9, b2⟩ := He.ba b2
      obtain ⟨b10, b11⟩ := He.ba b2
      have e1 : C' = He.ga K c := of_decide_eq_true b6
      have e2 : n' = "LookupError.__new__" := of_decide_eq_true b7
      have e3 : m1 = "LookupError" := of_decide_eq_true b8
      have e4 : m2 = "Exception" := of_decide_eq_true b9
      have e5 : m3 = "BaseException" := of_decide_eq_true b10
      have e6 : m4 = "object" := of_decide_eq_true b11
      subst e2
      subst en
      subst e3
      subst e4
      subst e5
      subst e6
      obtain ⟨nm, bs, mro, ns, qn, hd, sn, sub, ab, col, del⟩ := cd
      dsimp only at hm b4 b5
      rw [e1] at hm
      have ed : del = false := by simpa using b5
      subst b4
      subst ed
      have hsl : sl = #[k0, k1, k2, k3, some (.builtin "LookupError.__new__"), k5] := by
        obtain ⟨l⟩ := sl
        simp only at hs
        rw [hs]
      subst hsl
      subst hm
      exact ⟨nm, qn, ns, bs, sn, sub, ab, col, dd, k0, k1, k2, k3, k5, ho⟩
    · cases b2
  · cases c1
/-- a special method of an own class, a def -/
def eqsB (K : PySem.W.Frag) (c m : Str) : Bool := He.eqO (PySem.W.findIn K (.ref (He.ga K c)) m) (some (some (.ref (He.ma K (He.ga K c) m)))) && PySem.W.isFn K (.ref (He.ma K (He.ga K c) m))
theorem eqsB_ok {K : PySem.W.Frag} {c m : Str} (h : eqsB K c m = true) : PySem.W.findIn K (.ref (He.ga K c)) m = some (some (.ref (He.ma K (He.ga K c) m))) ∧ PySem.W.isFn K (.ref (He.ma K (He.ga K c) m)) = true := by
  obtain ⟨c1, c2⟩ := He.ba h
  exact ⟨He.eqO_ok c1, c2⟩
/-- the i-th default of a def, if it is an object -/
def dflA (f : PySem.W.Frag → Addr) (i : Nat) (K : PySem.W.Frag) : Addr := match K.lookup (f K) with
  | some ⟨_, _, .func fd, _⟩ => (match fd.defaults with
    | .ref T => (match K.lookup T with
      | some ⟨_, _, .seq its _, _⟩ => (match its.toList[i]? with
        | some (.ref a) => a
        | _ => 0)
      | _ => 0)
    | _ => 0)
  | _ => 0
/-- what isinstance asks of an instance's class -/
def tyB (K : PySem.W.Frag) (C : Addr) : Bool := He.eqO (PySem.W.findIn K (.ref C) "__class__") (some (some (.builtin "object.__class__"))) && (He.eqO (PySem.W.specialIn K (.builtin "object.__class__") "__get__") (some (some (.builtin "getset_descriptor.__get__"))) &&
  (decide (PySem.W.takesIn K (.builtin "object.__class__") = some true) && decide (PySem.W.mroIn K C (.type "object") = some true)))
theorem tyB_ok {K : PySem.W.Frag} {C : Addr} (h : tyB K C = true) : PySem.W.findIn K (.ref C) "__class__" = some (some (.builtin "object.__class__")) ∧ PySem.W.specialIn K (.builtin "object.__class__") "__get__" = some (some (.builtin "getset_descriptor.__get__")) ∧
    PySem.W.takesIn K (.builtin "object.__class__") = some true ∧ PySem.W.mroIn K C (.type "object") = some true := by
  obtain ⟨c1, h⟩ := He.ba h
  obtain ⟨c2, h⟩ := He.ba h
  obtain ⟨c3, c4⟩ := He.ba h
  exact ⟨He.eqO_ok c1, He.eqO_ok c2, of_decide_eq_true c3, of_decide_eq_true c4⟩
/-- an empty tuple of the written part -/
def tup0B (K : PySem.W.Frag) (a : Addr) : Bool := match K.lookup a with
  | some ⟨.type c, _, .seq its _, _⟩ => decide (c = "tuple") && its.isEmpty
  | _ => false
theorem tup0B_ok {K : PySem.W.Frag} {a : Addr} (h : tup0B K a = true) (H : Hp) : SqT K H a [] := by
  unfold tup0B at h
  cases q : K.lookup a with
  | none =>
    rw [q] at h
    cases h
  | some o =>
    obtain ⟨oc, od, dt, osl⟩ := o
    rw [q] at h
    cases oc with
    | type c =>
      cases dt with
      | seq its n =>
        obtain ⟨h1, h2⟩ := He.ba (show (decide (c = "tuple") && its.isEmpty) = true from h)
        have e : its = #[] := Array.isEmpty_iff.mp h2
        subst e
        exact .inr ⟨_, #[], n, q, congrArg Value.type (of_decide_eq_true h1), rfl, Nat.zero_le _, .nil⟩
      | _ => cases h
    | _ => cases dt <;> cases h
/-- what isinstance and a field's reading ask of an error's class -/
def xcB (K : PySem.W.Frag) (D : Addr) : Bool :=
  He.eqO (PySem.W.findIn K (.ref D) "__getattribute__") (some (some (.builtin "BaseException.__getattribute__"))) && (He.eqO (PySem.W.findIn K (.ref D) "__getattr__") (some none) && (decide (PySem.W.subIn K (.ref D) (.type "BaseException") = some true) && (PySem.W.hasDictIn K D &&
  (He.eqO (PySem.W.findIn K (.ref D) "__class__") (some (some (.builtin "object.__class__"))) && (He.eqO (PySem.W.specialIn K (.builtin "object.__class__") "__get__") (some (some (.builtin "getset_descriptor.__get__"))) &&
  (decide (PySem.W.takesIn K (.builtin "object.__class__") = some true) && decide (PySem.W.mroIn K D (.type "object") = some true)))))))
theorem xcB_ok {K : PySem.W.Frag} {D : Addr} (h : xcB K D = true) : ExcC K D := by
  obtain ⟨c1, h⟩ := He.ba h
  obtain ⟨c2, h⟩ := He.ba h
  obtain ⟨c3, h⟩ := He.ba h
  obtain ⟨c4, h⟩ := He.ba h
  obtain ⟨c5, h⟩ := He.ba h
  obtain ⟨c6, h⟩ := He.ba h
  obtain ⟨c7, c8⟩ := He.ba h
  exact ⟨He.eqO_ok c1, He.eqO_ok c2, of_decide_eq_true c3, c4, He.eqO_ok c5, He.eqO_ok c6, of_decide_eq_true c7, of_decide_eq_true c8⟩
/-! ### the Hook -/
abbrev AlJ : Type := Bool × List He5.FnW
def obsJ (fa : List He.Fa) (fn : List He5.DefA) (ex : PySem.W.Frag → Bool) (K : PySem.W.Frag) : AlJ := (((fa.all fun f => f.ok K) && fn.all fun d => d.ok K) && ex K, fn.map fun d => He5.fnA K (d.at_ K))
def valJ (fn : List He5.DefA) : AlJ := (true, fn.map He5.DefA.val)
def SaysJ (fa : List He.Fa) (fn : List He5.DefA) (ex : PySem.W.Frag → Bool) (K : PySem.W.Frag) : Prop := obsJ fa fn ex K = valJ fn
def obsJG (n : Nat) (fa : List He.Fa) (fn : List He5.DefA) (ex : PySem.W.Frag → Bool) (g : Addr → Option Obj) : AlJ := obsJ fa fn ex (He.frG g (He5.asA g n))
def hookJ (n : Nat) (fa : List He.Fa) (fn : List He5.DefA) (ex : PySem.W.Frag → Bool) : PySem.W.Hook where
  α := AlJ
  obs := fun s => obsJG n fa fn ex s.heap.get?
  val := fun _ => valJ fn
  says := fun _ h => ∃ K : PySem.W.Frag, K.In h ∧ SaysJ fa fn ex K
  of := fun _ _ e => ⟨_, He.frG_in, e⟩
  keeps := fun _ _ _ ⟨K, inK, c⟩ k => ⟨K, PySem.W.Frag.In.keeps inK k, c⟩
theorem obsJG_eq {n : Nat} {fa : List He.Fa} {fn : List He5.DefA} {ex : PySem.W.Frag → Bool} {g : Addr → Option Obj} {s : Shared} (h : ∀ a, g a = s.heap.get? a) : obsJG n fa fn ex g = (hookJ n fa fn ex).obs s := by
  obtain rfl : g = s.heap.get? := funext h
  rfl
section
variable {fa : List He.Fa} {fn : List He5.DefA} {ex : PySem.W.Frag → Bool} {K : PySem.W.Frag}
theorem SaysJ.b (c : SaysJ fa fn ex K) : ((fa.all fun f => f.ok K) = true ∧ (fn.all fun d => d.ok K) = true) ∧ ex K = true := by
  obtain ⟨c1, c2⟩ := He.ba (show (((fa.all fun f => f.ok K) && fn.all fun d => d.ok K) && ex K) = true from congrArg (fun z : AlJ => z.1) c)
  exact ⟨He.ba c1, c2⟩
theorem SaysJ.fact (c : SaysJ fa fn ex K) {f : He.Fa} (h : f ∈ fa) : f.ok K = true := List.all_eq_true.mp c.b.1.1 f h
theorem SaysJ.def_ (c : SaysJ fa fn ex K) {d : He5.DefA} (h : d ∈ fn) : ∃ fd, L2.FunD K d.name d.qual d.params d.body d.scope (d.dvs K) (d.kws K) (d.at_ K) fd := by
  have e : fn.map (fun d => He5.fnA K (d.at_ K)) = fn.map He5.DefA.val := congrArg (fun z : AlJ => z.2) c
  obtain ⟨i, hi, q⟩ := List.mem_iff_getElem.mp h
  have e2 : (fn.map fun d => He5.fnA K (d.at_ K))[i]? = (fn.map He5.DefA.val)[i]? := by rw [e]
  rw [List.getElem?_map, List.getElem?_map, List.getElem?_eq_getElem hi, q] at e2
  exact He5.DefA.funD (Option.some.inj e2) (List.all_eq_true.mp c.b.1.2 d h)
end
/-! ### the head -/
def d_is_name : He5.DefA := ⟨(fun K => He.ga K "is_name"), "is_name", "is_name", defArgs s_is_name, defBody s_is_name, defScope s_is_name, [], []⟩
def d_is_field : He5.DefA := ⟨(fun K => He.ga K "is_field"), "is_field", "is_field", defArgs s_is_field, defBody s_is_field, defScope s_is_field, [], []⟩
def d_field_of : He5.DefA := ⟨(fun K => He.ga K "field_of"), "field_of", "field_of", defArgs s_field_of, defBody s_field_of, defScope s_field_of, [], []⟩
def d_field_text : He5.DefA := ⟨(fun K => He.ga K "field_text"), "field_text", "field_text", defArgs s_field_text, defBody s_field_text, defScope s_field_text, [], []⟩
def d_Keys___init__ : He5.DefA := ⟨(fun K => He.ma K (He.ga K "Keys") "__init__"), "__init__", "Keys.__init__", defArgs s_Keys___init__, defBody s_Keys___init__, defScope s_Keys___init__, [.adr (dflA (fun K => He.ma K (He.ga K "Keys") "__init__") 0)], []⟩
def d_Keys_p_names : He5.DefA := ⟨(fun K => propG K "Keys" "names"), "names", "Keys.names", defArgs s_Keys_p_names, defBody s_Keys_p_names, defScope s_Keys_p_names, [], []⟩
def d_Keys_p_pairs : He5.DefA := ⟨(fun K => propG K "Keys" "pairs"), "pairs", "Keys.pairs", defArgs s_Keys_p_pairs, defBody s_Keys_p_pairs, defScope s_Keys_p_pairs, [], []⟩
def d_Keys_tells : He5.DefA := ⟨(fun K => He.ma K (He.ga K "Keys") "tells"), "tells", "Keys.tells", defArgs s_Keys_tells, defBody s_Keys_tells, defScope s_Keys_tells, [], []⟩
def d_Keys_told : He5.DefA := ⟨(fun K => He.ma K (He.ga K "Keys") "told"), "told", "Keys.told", defArgs s_Keys_told, defBody s_Keys_told, defScope s_Keys_told, [], []⟩
def d_Keys__check : He5.DefA := ⟨(fun K => He.ma K (He.ga K "Keys") "_check"), "_check", "Keys._check", defArgs s_Keys__check, defBody s_Keys__check, defScope s_Keys__check, [], []⟩
def d_Keys___contains__ : He5.DefA := ⟨(fun K => He.ma K (He.ga K "Keys") "__contains__"), "__contains__", "Keys.__contains__", defArgs s_Keys___contains__, defBody s_Keys___contains__, defScope s_Keys___contains__, [], []⟩
def d_Keys___len__ : He5.DefA := ⟨(fun K => He.ma K (He.ga K "Keys") "__len__"), "__len__", "Keys.__len__", defArgs s_Keys___len__, defBody s_Keys___len__, defScope s_Keys___len__, [], []⟩
def d_Keys___eq__ : He5.DefA := ⟨(fun K => He.ma K (He.ga K "Keys") "__eq__"), "__eq__", "Keys.__eq__", defArgs s_Keys___eq__, defBody s_Keys___eq__, defScope s_Keys___eq__, [], []⟩
def d__all_told : He5.DefA := ⟨(fun K => He.ga K "_all_told"), "_all_told", "_all_told", defArgs s__all_told, defBody s__all_told, defScope s__all_told, [], []⟩
def d_is_numeral : He5.DefA := ⟨(fun K => He.ga K "is_numeral"), "is_numeral", "is_numeral", defArgs s_is_numeral, defBody s_is_numeral, defScope s_is_numeral, [], []⟩
def d_number_of : He5.DefA := ⟨(fun K => He.ga K "number_of"), "number_of", "number_of", defArgs s_number_of, defBody s_number_of, defScope s_number_of, [], []⟩
def d_written : He5.DefA := ⟨(fun K => He.ga K "written"), "written", "written", defArgs s_written, defBody s_written, defScope s_written, [], []⟩
def d_Stage___init__ : He5.DefA := ⟨(fun K => He.ma K (He.ga K "Stage") "__init__"), "__init__", "Stage.__init__", defArgs s_Stage___init__, defBody s_Stage___init__, defScope s_Stage___init__, [], []⟩
def d_Stage_p_schema : He5.DefA := ⟨(fun K => propG K "Stage" "schema"), "schema", "Stage.schema", defArgs s_Stage_p_schema, defBody s_Stage_p_schema, defScope s_Stage_p_schema, [], []⟩
def d_Stage_lane : He5.DefA := ⟨(fun K => He.ma K (He.ga K "Stage") "lane"), "lane", "Stage.lane", defArgs s_Stage_lane, defBody s_Stage_lane, defScope s_Stage_lane, [], []⟩
def d_Stage_same : He5.DefA := ⟨(fun K => He.ma K (He.ga K "Stage") "same"), "same", "Stage.same", defArgs s_Stage_same, defBody s_Stage_same, defScope s_Stage_same, [], []⟩
def d_Stage___getitem__ : He5.DefA := ⟨(fun K => He.ma K (He.ga K "Stage") "__getitem__"), "__getitem__", "Stage.__getitem__", defArgs s_Stage___getitem__, defBody s_Stage___getitem__, defScope s_Stage___getitem__, [], []⟩
def d_Stage___eq__ : He5.DefA := ⟨(fun K => He.ma K (He.ga K "Stage") "__eq__"), "__eq__", "Stage.__eq__", defArgs s_Stage___eq__, defBody s_Stage___eq__, defScope s_Stage___eq__, [], []⟩
def d_Stage___le__ : He5.DefA := ⟨(fun K => He.ma K (He.ga K "Stage") "__le__"), "__le__", "Stage.__le__", defArgs s_Stage___le__, defBody s_Stage___le__, defScope s_Stage___le__, [], []⟩
def d_Stage___lt__ : He5.DefA := ⟨(fun K => He.ma K (He.ga K "Stage") "__lt__"), "__lt__", "Stage.__lt__", defArgs s_Stage___lt__, defBody s_Stage___lt__, defScope s_Stage___lt__, [], []⟩
def d_Stage___or__ : He5.DefA := ⟨(fun K => He.ma K (He.ga K "Stage") "__or__"), "__or__", "Stage.__or__", defArgs s_Stage___or__, defBody s_Stage___or__, defScope s_Stage___or__, [], []⟩
def d_Stage___and__ : He5.DefA := ⟨(fun K => He.ma K (He.ga K "Stage") "__and__"), "__and__", "Stage.__and__", defArgs s_Stage___and__, defBody s_Stage___and__, defScope s_Stage___and__, [], []⟩
def d_Stage___xor__ : He5.DefA := ⟨(fun K => He.ma K (He.ga K "Stage") "__xor__"), "__xor__", "Stage.__xor__", defArgs s_Stage___xor__, defBody s_Stage___xor__, defScope s_Stage___xor__, [], []⟩
def d_all_names : He5.DefA := ⟨(fun K => He.ga K "all_names"), "all_names", "all_names", defArgs s_all_names, defBody s_all_names, defScope s_all_names, [], []⟩
def d__joined : He5.DefA := ⟨(fun K => He.ga K "_joined"), "_joined", "_joined", defArgs s__joined, defBody s__joined, defScope s__joined, [], []⟩
def d__closed : He5.DefA := ⟨(fun K => He.ga K "_closed"), "_closed", "_closed", defArgs s__closed, defBody s__closed, defScope s__closed, [], []⟩
def d_stage_of_numbers : He5.DefA := ⟨(fun K => He.ga K "stage_of_numbers"), "stage_of_numbers", "stage_of_numbers", defArgs s_stage_of_numbers, defBody s_stage_of_numbers, defScope s_stage_of_numbers, [], []⟩
def d__divides : He5.DefA := ⟨(fun K => He.ga K "_divides"), "_divides", "_divides", defArgs s__divides, defBody s__divides, defScope s__divides, [], []⟩
def d_check_same_keys : He5.DefA := ⟨(fun K => He.ga K "check_same_keys"), "check_same_keys", "check_same_keys", defArgs s_check_same_keys, defBody s_check_same_keys, defScope s_check_same_keys, [], []⟩
def d__parted : He5.DefA := ⟨(fun K => He.ga K "_parted"), "_parted", "_parted", defArgs s__parted, defBody s__parted, defScope s__parted, [], []⟩
def d_is_int : He5.DefA := ⟨(fun K => He.ga K "is_int"), "is_int", "is_int", defArgs s_is_int, defBody s_is_int, defScope s_is_int, [], []⟩
def d_is_row : He5.DefA := ⟨(fun K => He.ga K "is_row"), "is_row", "is_row", defArgs s_is_row, defBody s_is_row, defScope s_is_row, [], []⟩
def d_lanes : He5.DefA := ⟨(fun K => He.ga K "lanes"), "lanes", "lanes", defArgs s_lanes, defBody s_lanes, defScope s_lanes, [], []⟩
def d__is_record : He5.DefA := ⟨(fun K => He.ga K "_is_record"), "_is_record", "_is_record", defArgs s__is_record, defBody s__is_record, defScope s__is_record, [], []⟩
def d__tuples : He5.DefA := ⟨(fun K => He.ga K "_tuples"), "_tuples", "_tuples", defArgs s__tuples, defBody s__tuples, defScope s__tuples, [], []⟩
def d__first_doubled : He5.DefA := ⟨(fun K => He.ga K "_first_doubled"), "_first_doubled", "_first_doubled", defArgs s__first_doubled, defBody s__first_doubled, defScope s__first_doubled, [], []⟩
def d__first_clash : He5.DefA := ⟨(fun K => He.ga K "_first_clash"), "_first_clash", "_first_clash", defArgs s__first_clash, defBody s__first_clash, defScope s__first_clash, [], []⟩
def d__clashing_name : He5.DefA := ⟨(fun K => He.ga K "_clashing_name"), "_clashing_name", "_clashing_name", defArgs s__clashing_name, defBody s__clashing_name, defScope s__clashing_name, [], []⟩
def d__queues : He5.DefA := ⟨(fun K => He.ga K "_queues"), "_queues", "_queues", defArgs s__queues, defBody s__queues, defScope s__queues, [], []⟩
def d_NoName___init__ : He5.DefA := ⟨(fun K => He.ma K (He.ga K "NoName") "__init__"), "__init__", "NoName.__init__", defArgs s_NoName___init__, defBody s_NoName___init__, defScope s_NoName___init__, [], []⟩
def d_BadField___init__ : He5.DefA := ⟨(fun K => He.ma K (He.ga K "BadField") "__init__"), "__init__", "BadField.__init__", defArgs s_BadField___init__, defBody s_BadField___init__, defScope s_BadField___init__, [], []⟩
def d_BadLine___init__ : He5.DefA := ⟨(fun K => He.ma K (He.ga K "BadLine") "__init__"), "__init__", "BadLine.__init__", defArgs s_BadLine___init__, defBody s_BadLine___init__, defScope s_BadLine___init__, [], []⟩
def d_Ringed___init__ : He5.DefA := ⟨(fun K => He.ma K (He.ga K "Ringed") "__init__"), "__init__", "Ringed.__init__", defArgs s_Ringed___init__, defBody s_Ringed___init__, defScope s_Ringed___init__, [], []⟩
def d_MixedKeys___init__ : He5.DefA := ⟨(fun K => He.ma K (He.ga K "MixedKeys") "__init__"), "__init__", "MixedKeys.__init__", defArgs s_MixedKeys___init__, defBody s_MixedKeys___init__, defScope s_MixedKeys___init__, [], []⟩
def d__law_box : He5.DefA := ⟨(fun K => He.ga K "_law_box"), "_law_box", "_law_box", defArgs s__law_box, defBody s__law_box, defScope s__law_box, [], []⟩
def d__law_take : He5.DefA := ⟨(fun K => He.ga K "_law_take"), "_law_take", "_law_take", defArgs s__law_take, defBody s__law_take, defScope s__law_take, [], []⟩
def d__law_cells : He5.DefA := ⟨(fun K => He.ga K "_law_cells"), "_law_cells", "_law_cells", defArgs s__law_cells, defBody s__law_cells, defScope s__law_cells, [], []⟩
def d__law_of : He5.DefA := ⟨(fun K => He.ga K "_law_of"), "_law_of", "_law_of", defArgs s__law_of, defBody s__law_of, defScope s__law_of, [], []⟩
def d__law_same : He5.DefA := ⟨(fun K => He.ga K "_law_same"), "_law_same", "_law_same", defArgs s__law_same, defBody s__law_same, defScope s__law_same, [], []⟩
def d__law_mixed : He5.DefA := ⟨(fun K => He.ga K "_law_mixed"), "_law_mixed", "_law_mixed", defArgs s__law_mixed, defBody s__law_mixed, defScope s__law_mixed, [], []⟩
def d__law_gcd : He5.DefA := ⟨(fun K => He.ga K "_law_gcd"), "_law_gcd", "_law_gcd", defArgs s__law_gcd, defBody s__law_gcd, defScope s__law_gcd, [], []⟩
def d__law_lcm : He5.DefA := ⟨(fun K => He.ga K "_law_lcm"), "_law_lcm", "_law_lcm", defArgs s__law_lcm, defBody s__law_lcm, defScope s__law_lcm, [], []⟩
def d__law_book : He5.DefA := ⟨(fun K => He.ga K "_law_book"), "_law_book", "_law_book", defArgs s__law_book, defBody s__law_book, defScope s__law_book, [], []⟩
def d__law_told : He5.DefA := ⟨(fun K => He.ga K "_law_told"), "_law_told", "_law_told", defArgs s__law_told, defBody s__law_told, defScope s__law_told, [], []⟩
def d__law_field : He5.DefA := ⟨(fun K => He.ga K "_law_field"), "_law_field", "_law_field", defArgs s__law_field, defBody s__law_field, defScope s__law_field, [], []⟩
def d__law_split : He5.DefA := ⟨(fun K => He.ga K "_law_split"), "_law_split", "_law_split", defArgs s__law_split, defBody s__law_split, defScope s__law_split, [], []⟩
def d__law_mods : He5.DefA := ⟨(fun K => He.ga K "_law_mods"), "_law_mods", "_law_mods", defArgs s__law_mods, defBody s__law_mods, defScope s__law_mods, [], []⟩
def d__law_lane : He5.DefA := ⟨(fun K => He.ga K "_law_lane"), "_law_lane", "_law_lane", defArgs s__law_lane, defBody s__law_lane, defScope s__law_lane, [], []⟩
def d__law_log : He5.DefA := ⟨(fun K => He.ga K "_law_log"), "_law_log", "_law_log", defArgs s__law_log, defBody s__law_log, defScope s__law_log, [], []⟩
def d__law_due : He5.DefA := ⟨(fun K => He.ga K "_law_due"), "_law_due", "_law_due", defArgs s__law_due, defBody s__law_due, defScope s__law_due, [], []⟩
def d__law_pair_right : He5.DefA := ⟨(fun K => He.ga K "_law_pair_right"), "_law_pair_right", "_law_pair_right", defArgs s__law_pair_right, defBody s__law_pair_right, defScope s__law_pair_right, [], []⟩
def d__law_within_right : He5.DefA := ⟨(fun K => He.ga K "_law_within_right"), "_law_within_right", "_law_within_right", defArgs s__law_within_right, defBody s__law_within_right, defScope s__law_within_right, [], []⟩
def d__law_right : He5.DefA := ⟨(fun K => He.ga K "_law_right"), "_law_right", "_law_right", defArgs s__law_right, defBody s__law_right, defScope s__law_right, [], []⟩
def d_law : He5.DefA := ⟨(fun K => He.ga K "law"), "law", "law", defArgs s_law, defBody s_law, defScope s_law, [], []⟩
def fn : List He5.DefA := [d_is_name, d_is_field, d_field_of, d_field_text, d_Keys___init__, d_Keys_p_names, d_Keys_p_pairs, d_Keys_tells, d_Keys_told, d_Keys__check, d_Keys___contains__, d_Keys___len__, d_Keys___eq__, d__all_told, d_is_numeral, d_number_of, d_written, d_Stage___init__, d_Stage_p_schema, d_Stage_lane, d_Stage_same, d_Stage___getitem__, d_Stage___eq__, d_Stage___le__, d_Stage___lt__, d_Stage___or__, d_Stage___and__, d_Stage___xor__, d_all_names, d__joined, d__closed, d_stage_of_numbers, d__divides, d_check_same_keys, d__parted, d_is_int, d_is_row, d_lanes, d__is_record, d__tuples, d__first_doubled, d__first_clash, d__clashing_name, d__queues, d_NoName___init__, d_BadField___init__, d_BadLine___init__, d_Ringed___init__, d_MixedKeys___init__, d__law_box, d__law_take, d__law_cells, d__law_of, d__law_same, d__law_mixed, d__law_gcd, d__law_lcm, d__law_book, d__law_told, d__law_field, d__law_split, d__law_mods, d__law_lane, d__law_log, d__law_due, d__law_pair_right, d__law_within_right, d__law_right, d_law]
def fa1 : List He.Fa := [.glo "is_name", .glo "is_field", .glo "field_of", .glo "field_text", .glo "_all_told", .glo "is_numeral", .glo "number_of", .glo "written", .glo "all_names", .glo "_joined", .glo "_closed", .glo "stage_of_numbers", .glo "_divides", .glo "check_same_keys", .glo "_parted", .glo "is_int", .glo "is_row", .glo "lanes", .glo "_is_record", .glo "_tuples", .glo "_first_doubled", .glo "_first_clash", .glo "_clashing_name", .glo "_queues", .glo "_law_box", .glo "_law_take", .glo "_law_cells", .glo "_law_of", .glo "_law_same", .glo "_law_mixed"]
def fa2 : List He.Fa := [.glo "_law_gcd", .glo "_law_lcm", .glo "_law_book", .glo "_law_told", .glo "_law_field", .glo "_law_split", .glo "_law_mods", .glo "_law_lane", .glo "_law_log", .glo "_law_due", .glo "_law_pair_right", .glo "_law_within_right", .glo "_law_right", .glo "law", .glo "NoName", .glo "BadField", .glo "BadLine", .glo "Ringed", .glo "MixedKeys", .glo "Keys", .glo "Stage", .free "len", .free "isinstance", .free "all", .free "sorted", .free "set", .free "tuple", .free "list", .free "range", .free "int"]
def fa3 : List He.Fa := [.free "str", .free "abs", .free "zip", .free "enumerate", .free "divmod", .free "LookupError", .free "ValueError", .free "bool", .free "dict", .free "sum", .free "any", .str "_DIGITS" "0123456789", .cls "Keys", .mkr "Keys", .noat "Keys" "_names", .noat "Keys" "_told", .cls "Stage", .mkr "Stage", .noat "Stage" "_numbers", .noat "Stage" "_schema", .meth "Keys" "tells", .meth "Keys" "told", .meth "Keys" "_check", .meth "Stage" "lane", .meth "Stage" "same"]
def fa : List He.Fa := fa1 ++ (fa2 ++ fa3)
def exs0 : List (PySem.W.Frag → Bool) := [fun K => oexB K "BadField", fun K => oexB K "BadLine", fun K => oexB K "Ringed", fun K => oexB K "MixedKeys", fun K => lexB K "NoName", fun K => blB K "gcd" "math.gcd", fun K => blB K "lcm" "math.lcm", fun K => He.eqO (PySem.W.nsIn K mainGlobals "NotImplemented") (some none), fun K => eqsB K "Keys" "__contains__", fun K => eqsB K "Keys" "__len__", fun K => eqsB K "Keys" "__eq__", fun K => eqsB K "Stage" "__getitem__", fun K => eqsB K "Stage" "__eq__", fun K => eqsB K "Stage" "__le__", fun K => eqsB K "Stage" "__lt__", fun K => eqsB K "Stage" "__or__", fun K => eqsB K "Stage" "__and__", fun K => eqsB K "Stage" "__xor__", fun K => He.eqO (PySem.W.findIn K (.ref (He.ga K "Keys")) "__ne__") (some (some (.builtin "object.__ne__"))), fun K => He.eqO (PySem.W.findIn K (.ref (He.ga K "Stage")) "__ne__") (some (some (.builtin "object.__ne__")))]
def exs1 : List (PySem.W.Frag → Bool) := [fun K => propB K "Keys" "names", fun K => propB K "Keys" "pairs", fun K => propB K "Stage" "schema", fun K => xcB K (He.ga K "NoName"), fun K => decide (PySem.W.kitOne K (.ref (He.ga K "NoName")) (.type "LookupError") = some true), fun K => He.eqO (PySem.W.findIn K (.ref (He.ga K "NoName")) "name") (some none), fun K => xcB K (He.ga K "BadField"), fun K => decide (PySem.W.kitOne K (.ref (He.ga K "BadField")) (.type "ValueError") = some true), fun K => He.eqO (PySem.W.findIn K (.ref (He.ga K "BadField")) "field") (some none), fun K => xcB K (He.ga K "BadLine"), fun K => decide (PySem.W.kitOne K (.ref (He.ga K "BadLine")) (.type "ValueError") = some true), fun K => He.eqO (PySem.W.findIn K (.ref (He.ga K "BadLine")) "number") (some none), fun K => xcB K (He.ga K "Ringed"), fun K => decide (PySem.W.kitOne K (.ref (He.ga K "Ringed")) (.type "ValueError") = some true), fun K => He.eqO (PySem.W.findIn K (.ref (He.ga K "Ringed")) "ring") (some none), fun K => xcB K (He.ga K "MixedKeys"), fun K => decide (PySem.W.kitOne K (.ref (He.ga K "MixedKeys")) (.type "ValueError") = some true), fun K => decide (PySem.W.kitOne K (.ref (He.ga K "Keys")) (.type "str") = some false), fun K => decide (PySem.W.kitOne K (.ref (He.ga K "Keys")) (.type "list") = some false), fun K => decide (PySem.W.kitOne K (.ref (He.ga K "Keys")) (.type "tuple") = some false)]
def exs2 : List (PySem.W.Frag → Bool) := [fun K => decide (PySem.W.kitOne K (.ref (He.ga K "Keys")) (.type "bool") = some false), fun K => decide (PySem.W.kitOne K (.ref (He.ga K "Keys")) (.type "int") = some false), fun K => decide (PySem.W.kitOne K (.ref (He.ga K "Keys")) (.ref (He.ga K "Keys")) = some true), fun K => decide (PySem.W.kitOne K (.ref (He.ga K "Keys")) (.ref (He.ga K "Stage")) = some false), fun K => decide (PySem.W.kitOne K (.ref (He.ga K "Stage")) (.type "str") = some false), fun K => decide (PySem.W.kitOne K (.ref (He.ga K "Stage")) (.type "list") = some false), fun K => decide (PySem.W.kitOne K (.ref (He.ga K "Stage")) (.type "tuple") = some false), fun K => decide (PySem.W.kitOne K (.ref (He.ga K "Stage")) (.type "bool") = some false), fun K => decide (PySem.W.kitOne K (.ref (He.ga K "Stage")) (.type "int") = some false), fun K => decide (PySem.W.kitOne K (.ref (He.ga K "Stage")) (.ref (He.ga K "Keys")) = some false), fun K => decide (PySem.W.kitOne K (.ref (He.ga K "Stage")) (.ref (He.ga K "Stage")) = some true), fun K => PySem.W.selfFirst K (He.ga K "Stage"), fun K => PySem.W.fnIn K (He.ma K (He.ga K "Stage") "__getitem__"), fun K => PySem.W.notFirst K (He.ga K "Keys") (.type "tuple"), fun K => decide (PySem.W.kitOne K (.type "tuple") (.ref (He.ga K "Keys")) = some false), fun K => PySem.W.notFirst K (He.ga K "Keys") (.type "list"), fun K => decide (PySem.W.kitOne K (.type "list") (.ref (He.ga K "Keys")) = some false), fun K => PySem.W.notFirst K (He.ga K "Stage") (.type "tuple"), fun K => decide (PySem.W.kitOne K (.type "tuple") (.ref (He.ga K "Stage")) = some false), fun K => PySem.W.notFirst K (He.ga K "Stage") (.type "list")]
def exs3 : List (PySem.W.Frag → Bool) := [fun K => decide (PySem.W.kitOne K (.type "list") (.ref (He.ga K "Stage")) = some false), fun K => tyB K (He.ga K "Keys"), fun K => tyB K (He.ga K "Stage"), fun K => He.eqO (PySem.W.findIn K (.ref (He.ga K "Keys")) "__bool__") (some none), fun K => tup0B K (dflA (fun K => He.ma K (He.ga K "Keys") "__init__") 0 K), fun K => decide (PySem.W.exmOne K (.ref (He.ga K "NoName")) (.ref (He.ga K "NoName")) = some true), fun K => decide (PySem.W.exmOne K (.ref (He.ga K "NoName")) (.ref (He.ga K "BadField")) = some false), fun K => decide (PySem.W.exmOne K (.ref (He.ga K "NoName")) (.ref (He.ga K "BadLine")) = some false), fun K => decide (PySem.W.exmOne K (.ref (He.ga K "NoName")) (.ref (He.ga K "Ringed")) = some false), fun K => decide (PySem.W.exmOne K (.ref (He.ga K "NoName")) (.ref (He.ga K "MixedKeys")) = some false), fun K => decide (PySem.W.exmOne K (.ref (He.ga K "BadField")) (.ref (He.ga K "NoName")) = some false), fun K => decide (PySem.W.exmOne K (.ref (He.ga K "BadField")) (.ref (He.ga K "BadField")) = some true), fun K => decide (PySem.W.exmOne K (.ref (He.ga K "BadField")) (.ref (He.ga K "BadLine")) = some false), fun K => decide (PySem.W.exmOne K (.ref (He.ga K "BadField")) (.ref (He.ga K "Ringed")) = some false), fun K => decide (PySem.W.exmOne K (.ref (He.ga K "BadField")) (.ref (He.ga K "MixedKeys")) = some false), fun K => decide (PySem.W.exmOne K (.ref (He.ga K "BadLine")) (.ref (He.ga K "NoName")) = some false), fun K => decide (PySem.W.exmOne K (.ref (He.ga K "BadLine")) (.ref (He.ga K "BadField")) = some false), fun K => decide (PySem.W.exmOne K (.ref (He.ga K "BadLine")) (.ref (He.ga K "BadLine")) = some true), fun K => decide (PySem.W.exmOne K (.ref (He.ga K "BadLine")) (.ref (He.ga K "Ringed")) = some false), fun K => decide (PySem.W.exmOne K (.ref (He.ga K "BadLine")) (.ref (He.ga K "MixedKeys")) = some false)]
def exs4 : List (PySem.W.Frag → Bool) := [fun K => decide (PySem.W.exmOne K (.ref (He.ga K "Ringed")) (.ref (He.ga K "NoName")) = some false), fun K => decide (PySem.W.exmOne K (.ref (He.ga K "Ringed")) (.ref (He.ga K "BadField")) = some false), fun K => decide (PySem.W.exmOne K (.ref (He.ga K "Ringed")) (.ref (He.ga K "BadLine")) = some false), fun K => decide (PySem.W.exmOne K (.ref (He.ga K "Ringed")) (.ref (He.ga K "Ringed")) = some true), fun K => decide (PySem.W.exmOne K (.ref (He.ga K "Ringed")) (.ref (He.ga K "MixedKeys")) = some false), fun K => decide (PySem.W.exmOne K (.ref (He.ga K "MixedKeys")) (.ref (He.ga K "NoName")) = some false), fun K => decide (PySem.W.exmOne K (.ref (He.ga K "MixedKeys")) (.ref (He.ga K "BadField")) = some false), fun K => decide (PySem.W.exmOne K (.ref (He.ga K "MixedKeys")) (.ref (He.ga K "BadLine")) = some false), fun K => decide (PySem.W.exmOne K (.ref (He.ga K "MixedKeys")) (.ref (He.ga K "Ringed")) = some false), fun K => decide (PySem.W.exmOne K (.ref (He.ga K "MixedKeys")) (.ref (He.ga K "MixedKeys")) = some true)]
def exs : List (PySem.W.Frag → Bool) := exs0 ++ (exs1 ++ (exs2 ++ (exs3 ++ (exs4))))
def ex1 (K : PySem.W.Frag) : Bool := exs.all fun f => f K

abbrev R : PySem.W.OpenRow := PySem.W.OpenLaw.row PySem.Challenge.rw_keyspans_k06_whole_what_parts_two_stages
abbrev qv : Program := PySem.W.view R.prog [0, 61]
abbrev hk : PySem.W.Hook := hookJ 6 fa fn ex1
def ob (s : PySem.W.SharedT) : AlJ := obsJG 6 fa fn ex1 (HandSHeadRun.getT s)
theorem ob_eq (s : PySem.W.SharedT) : ob s = hk.obs s.abs := obsJG_eq (HandSHeadRun.getT_eq s)
def lo0 : List Str := ["NoName", "BadField", "BadLine", "Ringed", "MixedKeys", "_DIGITS", "is_numeral", "number_of", "written", "is_name", "is_field", "field_of", "field_text", "all_names", "words_of", "Keys", "_stated", "_all_told", "Stage", "_joined", "_closed", "_divides", "stage_of_numbers", "check_same_keys", "_parted", "is_int", "is_row", "lanes", "_is_record", "_tuples"]
def lo1 : List Str := ["_first_doubled", "_first_clash", "_clashing_name", "_queues", "_law_box", "_law_take", "_law_cells", "_law_of", "_law_same", "_law_mixed", "_law_gcd", "_law_lcm", "_law_book", "_law_told", "_law_field", "_law_split", "_law_mods", "_law_lane", "_law_log", "_law_due", "_law_pair_right", "_law_within_right", "_law_right"]
def loose : List Str := lo0 ++ lo1
end Jd
namespace Jd
section
open PySem PySem.W PySem.Calls PyProof.Rows HandSHeadRun
/-- the run's equation in two, for the kernel's memory -/
def RunA (r : OpenRow) (q : Program) (M : Nat) (loose : List PySem.Str) (w : World) : Prop :=
  (wholeF (fun p => stepQ (denQ tabQ) p w) fenceQ M r.prog).map (fun x => (looksF r.prog x.1.heap x.2.abs, seenQ q loose (importedModules r.prog.main.body) (fun s => xlAt q [] s && recOk r.toRowW.records s) x.2.abs)) = some (true, openGood q loose)
def RunB (r : OpenRow) (H : Hook) (ob : SharedT → H.α) (M : Nat) (w : World) : Prop :=
  (wholeF (fun p => stepQ (denQ tabQ) p w) fenceQ M r.prog).map (fun x => ob x.2) = some (H.val w)
theorem map_two {α β γ δ : Type _} {o : Option α} {f : α → β} {g : α → γ} {h : α → δ} {b : β} {c : γ} {d : δ} (h1 : o.map (fun x => (f x, g x)) = some (b, c)) (h2 : o.map h = some d) : o.map (fun x => (f x, g x, h x)) = some (b, c, d) := by
  cases o with
  | none => cases h1
  | some x =>
    have e1 := Prod.mk.inj (Option.some.inj h1)
    have e2 := Option.some.inj h2
    show some (f x, g x, h x) = _
    rw [e1.1, e1.2, e2]
theorem run_of {r : OpenRow} {q : Program} {H : Hook} {ob : SharedT → H.α} {M : Nat} {loose : List PySem.Str} {w : World} (h1 : RunA r q M loose w) (h2 : RunB r H ob M w) : RunEqI r q H ob M loose w := by
  unfold RunA at h1
  unfold RunB at h2
  unfold RunEqI
  exact map_two h1 h2
end
open PySem PySem.Spec PyProof.Rows L2
theorem run_a (w : World) : RunA R qv 6000 loose w := by
  unfold RunA
  kernel_rfl
theorem run_b (w : World) : RunB R hk ob 6000 w := by
  unfold RunB
  kernel_rfl
theorem run (w : World) : HandSHeadRun.RunEqI R qv hk ob 6000 loose w := run_of (run_a w) (run_b w)
end Jd
namespace Jd
open PySem PySem.Spec PyProof.Rows L2
/-- what the top has written -/
structure Bk (K : PySem.W.Frag) (mg : Str → Option Value) : Prop where
  c : SaysJ fa fn ex1 K
  h : ∃ h : Heap, K.In h ∧ h.Ns mainGlobals mg
section
variable {K : PySem.W.Frag} {mg : Str → Option Value}
theorem Bk.fact (B : Bk K mg) (i : Nat) {f : He.Fa} (h : fa[i]? = some f := by rfl) : f.ok K = true := B.c.fact (List.mem_of_getElem? h)
theorem Bk.ex (B : Bk K mg) (i : Nat) {f : PySem.W.Frag → Bool} (h : exs[i]? = some f := by rfl) : f K = true := List.all_eq_true.mp B.c.b.2 f (List.mem_of_getElem? h)
theorem Bk.fn_ (B : Bk K mg) (i : Nat) {d : He5.DefA} (h : fn[i]? = some d := by rfl) : ∃ fd, L2.FunD K d.name d.qual d.params d.body d.scope (d.dvs K) (d.kws K) (d.at_ K) fd := B.c.def_ (List.mem_of_getElem? h)

theorem Bk.g_is_name (B : Bk K mg) : mg "is_name" = some (.ref (He.ga K "is_name")) := let ⟨_, X, G⟩ := B.h; He.glo_ok X G (B.fact 0 (f := .glo "is_name"))
theorem Bk.g_is_field (B : Bk K mg) : mg "is_field" = some (.ref (He.ga K "is_field")) := let ⟨_, X, G⟩ := B.h; He.glo_ok X G (B.fact 1 (f := .glo "is_field"))
theorem Bk.g_field_of (B : Bk K mg) : mg "field_of" = some (.ref (He.ga K "field_of")) := let ⟨_, X, G⟩ := B.h; He.glo_ok X G (B.fact 2 (f := .glo "field_of"))
theorem Bk.g_field_text (B : Bk K mg) : mg "field_text" = some (.ref (He.ga K "field_text")) := let ⟨_, X, G⟩ := B.h; He.glo_ok X G (B.fact 3 (f := .glo "field_text"))
theorem Bk.g_all_told (B : Bk K mg) : mg "_all_told" = some (.ref (He.ga K "_all_told")) := let ⟨_, X, G⟩ := B.h; He.glo_ok X G (B.fact 4 (f := .glo "_all_told"))
theorem Bk.g_is_numeral (B : Bk K mg) : mg "is_numeral" = some (.ref (He.ga K "is_numeral")) := let ⟨_, X, G⟩ := B.h; He.glo_ok X G (B.fact 5 (f := .glo "is_numeral"))
theorem Bk.g_number_of (B : Bk K mg) : mg "number_of" = some (.ref (He.ga K "number_of")) := let ⟨_, X, G⟩ := B.h; He.glo_ok X G (B.fact 6 (f := .glo "number_of"))
theorem Bk.g_written (B : Bk K mg) : mg "written" = some (.ref (He.ga K "written")) := let ⟨_, X, G⟩ := B.h; He.glo_ok X G (B.fact 7 (f := .glo "written"))
theorem Bk.g_all_names (B : Bk K mg) : mg "all_names" = some (.ref (He.ga K "all_names")) := let ⟨_, X, G⟩ := B.h; He.glo_ok X G (B.fact 8 (f := .glo "all_names"))
theorem Bk.g_joined (B : Bk K mg) : mg "_joined" = some (.ref (He.ga K "_joined")) := let ⟨_, X, G⟩ := B.h; He.glo_ok X G (B.fact 9 (f := .glo "_joined"))
theorem Bk.g_closed (B : Bk K mg) : mg "_closed" = some (.ref (He.ga K "_closed")) := let ⟨_, X, G⟩ := B.h; He.glo_ok X G (B.fact 10 (f := .glo "_closed"))
theorem Bk.g_stage_of_numbers (B : Bk K mg) : mg "stage_of_numbers" = some (.ref (He.ga K "stage_of_numbers")) := let ⟨_, X, G⟩ := B.h; He.glo_ok X G (B.fact 11 (f := .glo "stage_of_numbers"))
theorem Bk.g_divides (B : Bk K mg) : mg "_divides" = some (.ref (He.ga K "_divides")) := let ⟨_, X, G⟩ := B.h; He.glo_ok X G (B.fact 12 (f := .glo "_divides"))
theorem Bk.g_check_same_keys (B : Bk K mg) : mg "check_same_keys" = some (.ref (He.ga K "check_same_keys")) := let ⟨_, X, G⟩ := B.h; He.glo_ok X G (B.fact 13 (f := .glo "check_same_keys"))
theorem Bk.g_parted (B : Bk K mg) : mg "_parted" = some (.ref (He.ga K "_parted")) := let ⟨_, X, G⟩ := B.h; He.glo_ok X G (B.fact 14 (f := .glo "_parted"))
theorem Bk.g_is_int (B : Bk K mg) : mg "is_int" = some (.ref (He.ga K "is_int")) := let ⟨_, X, G⟩ := B.h; He.glo_ok X G (B.fact 15 (f := .glo "is_int"))
theorem Bk.g_is_row (B : Bk K mg) : mg "is_row" = some (.ref (He.ga K "is_row")) := let ⟨_, X, G⟩ := B.h; He.glo_ok X G (B.fact 16 (f := .glo "is_row"))
theorem Bk.g_lanes (B : Bk K mg) : mg "lanes" = some (.ref (He.ga K "lanes")) := let ⟨_, X, G⟩ := B.h; He.glo_ok X G (B.fact 17 (f := .glo "lanes"))
theorem Bk.g_is_record (B : Bk K mg) : mg "_is_record" = some (.ref (He.ga K "_is_record")) := let ⟨_, X, G⟩ := B.h; He.glo_ok X G (B.fact 18 (f := .glo "_is_record"))
theorem Bk.g_tuples (B : Bk K mg) : mg "_tuples" = some (.ref (He.ga K "_tuples")) := let ⟨_, X, G⟩ := B.h; He.glo_ok X G (B.fact 19 (f := .glo "_tuples"))
theorem Bk.g_first_doubled (B : Bk K mg) : mg "_first_doubled" = some (.ref (He.ga K "_first_doubled")) := let ⟨_, X, G⟩ := B.h; He.glo_ok X G (B.fact 20 (f := .glo "_first_doubled"))
theorem Bk.g_first_clash (B : Bk K mg) : mg "_first_clash" = some (.ref (He.ga K "_first_clash")) := let ⟨_, X, G⟩ := B.h; He.glo_ok X G (B.fact 21 (f := .glo "_first_clash"))
theorem Bk.g_clashing_name (B : Bk K mg) : mg "_clashing_name" = some (.ref (He.ga K "_clashing_name")) := let ⟨_, X, G⟩ := B.h; He.glo_ok X G (B.fact 22 (f := .glo "_clashing_name"))
theorem Bk.g_queues (B : Bk K mg) : mg "_queues" = some (.ref (He.ga K "_queues")) := let ⟨_, X, G⟩ := B.h; He.glo_ok X G (B.fact 23 (f := .glo "_queues"))
theorem Bk.g_law_box (B : Bk K mg) : mg "_law_box" = some (.ref (He.ga K "_law_box")) := let ⟨_, X, G⟩ := B.h; He.glo_ok X G (B.fact 24 (f := .glo "_law_box"))
theorem Bk.g_law_take (B : Bk K mg) : mg "_law_take" = some (.ref (He.ga K "_law_take")) := let ⟨_, X, G⟩ := B.h; He.glo_ok X G (B.fact 25 (f := .glo "_law_take"))
theorem Bk.g_law_cells (B : Bk K mg) : mg "_law_cells" = some (.ref (He.ga K "_law_cells")) := let ⟨_, X, G⟩ := B.h; He.glo_ok X G (B.fact 26 (f := .glo "_law_cells"))
theorem Bk.g_law_of (B : Bk K mg) : mg "_law_of" = some (.ref (He.ga K "_law_of")) := let ⟨_, X, G⟩ := B.h; He.glo_ok X G (B.fact 27 (f := .glo "_law_of"))
theorem Bk.g_law_same (B : Bk K mg) : mg "_law_same" = some (.ref (He.ga K "_law_same")) := let ⟨_, X, G⟩ := B.h; He.glo_ok X G (B.fact 28 (f := .glo "_law_same"))
theorem Bk.g_law_mixed (B : Bk K mg) : mg "_law_mixed" = some (.ref (He.ga K "_law_mixed")) := let ⟨_, X, G⟩ := B.h; He.glo_ok X G (B.fact 29 (f := .glo "_law_mixed"))
theorem Bk.g_law_gcd (B : Bk K mg) : mg "_law_gcd" = some (.ref (He.ga K "_law_gcd")) := let ⟨_, X, G⟩ := B.h; He.glo_ok X G (B.fact 30 (f := .glo "_law_gcd"))
theorem Bk.g_law_lcm (B : Bk K mg) : mg "_law_lcm" = some (.ref (He.ga K "_law_lcm")) := let ⟨_, X, G⟩ := B.h; He.glo_ok X G (B.fact 31 (f := .glo "_law_lcm"))
theorem Bk.g_law_book (B : Bk K mg) : mg "_law_book" = some (.ref (He.ga K "_law_book")) := let ⟨_, X, G⟩ := B.h; He.glo_ok X G (B.fact 32 (f := .glo "_law_book"))
theorem Bk.g_law_told (B : Bk K mg) : mg "_law_told" = some (.ref (He.ga K "_law_told")) := let ⟨_, X, G⟩ := B.h; He.glo_ok X G (B.fact 33 (f := .glo "_law_told"))
theorem Bk.g_law_field (B : Bk K mg) : mg "_law_field" = some (.ref (He.ga K "_law_field")) := let ⟨_, X, G⟩ := B.h; He.glo_ok X G (B.fact 34 (f := .glo "_law_field"))
theorem Bk.g_law_split (B : Bk K mg) : mg "_law_split" = some (.ref (He.ga K "_law_split")) := let ⟨_, X, G⟩ := B.h; He.glo_ok X G (B.fact 35 (f := .glo "_law_split"))
theorem Bk.g_law_mods (B : Bk K mg) : mg "_law_mods" = some (.ref (He.ga K "_law_mods")) := let ⟨_, X, G⟩ := B.h; He.glo_ok X G (B.fact 36 (f := .glo "_law_mods"))
theorem Bk.g_law_lane (B : Bk K mg) : mg "_law_lane" = some (.ref (He.ga K "_law_lane")) := let ⟨_, X, G⟩ := B.h; He.glo_ok X G (B.fact 37 (f := .glo "_law_lane"))
theorem Bk.g_law_log (B : Bk K mg) : mg "_law_log" = some (.ref (He.ga K "_law_log")) := let ⟨_, X, G⟩ := B.h; He.glo_ok X G (B.fact 38 (f := .glo "_law_log"))
theorem Bk.g_law_due (B : Bk K mg) : mg "_law_due" = some (.ref (He.ga K "_law_due")) := let ⟨_, X, G⟩ := B.h; He.glo_ok X G (B.fact 39 (f := .glo "_law_due"))
theorem Bk.g_law_pair_right (B : Bk K mg) : mg "_law_pair_right" = some (.ref (He.ga K "_law_pair_right")) := let ⟨_, X, G⟩ := B.h; He.glo_ok X G (B.fact 40 (f := .glo "_law_pair_right"))
theorem Bk.g_law_within_right (B : Bk K mg) : mg "_law_within_right" = some (.ref (He.ga K "_law_within_right")) := let ⟨_, X, G⟩ := B.h; He.glo_ok X G (B.fact 41 (f := .glo "_law_within_right"))
theorem Bk.g_law_right (B : Bk K mg) : mg "_law_right" = some (.ref (He.ga K "_law_right")) := let ⟨_, X, G⟩ := B.h; He.glo_ok X G (B.fact 42 (f := .glo "_law_right"))
theorem Bk.g_law (B : Bk K mg) : mg "law" = some (.ref (He.ga K "law")) := let ⟨_, X, G⟩ := B.h; He.glo_ok X G (B.fact 43 (f := .glo "law"))
theorem Bk.g_NoName (B : Bk K mg) : mg "NoName" = some (.ref (He.ga K "NoName")) := let ⟨_, X, G⟩ := B.h; He.glo_ok X G (B.fact 44 (f := .glo "NoName"))
theorem Bk.g_BadField (B : Bk K mg) : mg "BadField" = some (.ref (He.ga K "BadField")) := let ⟨_, X, G⟩ := B.h; He.glo_ok X G (B.fact 45 (f := .glo "BadField"))
theorem Bk.g_BadLine (B : Bk K mg) : mg "BadLine" = some (.ref (He.ga K "BadLine")) := let ⟨_, X, G⟩ := B.h; He.glo_ok X G (B.fact 46 (f := .glo "BadLine"))
theorem Bk.g_Ringed (B : Bk K mg) : mg "Ringed" = some (.ref (He.ga K "Ringed")) := let ⟨_, X, G⟩ := B.h; He.glo_ok X G (B.fact 47 (f := .glo "Ringed"))
theorem Bk.g_MixedKeys (B : Bk K mg) : mg "MixedKeys" = some (.ref (He.ga K "MixedKeys")) := let ⟨_, X, G⟩ := B.h; He.glo_ok X G (B.fact 48 (f := .glo "MixedKeys"))
theorem Bk.g_Keys (B : Bk K mg) : mg "Keys" = some (.ref (He.ga K "Keys")) := let ⟨_, X, G⟩ := B.h; He.glo_ok X G (B.fact 49 (f := .glo "Keys"))
theorem Bk.g_Stage (B : Bk K mg) : mg "Stage" = some (.ref (He.ga K "Stage")) := let ⟨_, X, G⟩ := B.h; He.glo_ok X G (B.fact 50 (f := .glo "Stage"))
theorem Bk.b_len (B : Bk K mg) : mg "len" = none := let ⟨_, X, G⟩ := B.h; He.free_ok X G (B.fact 51 (f := .free "len"))
theorem Bk.b_isinstance (B : Bk K mg) : mg "isinstance" = none := let ⟨_, X, G⟩ := B.h; He.free_ok X G (B.fact 52 (f := .free "isinstance"))
theorem Bk.b_all (B : Bk K mg) : mg "all" = none := let ⟨_, X, G⟩ := B.h; He.free_ok X G (B.fact 53 (f := .free "all"))
theorem Bk.b_sorted (B : Bk K mg) : mg "sorted" = none := let ⟨_, X, G⟩ := B.h; He.free_ok X G (B.fact 54 (f := .free "sorted"))
theorem Bk.b_set (B : Bk K mg) : mg "set" = none := let ⟨_, X, G⟩ := B.h; He.free_ok X G (B.fact 55 (f := .free "set"))
theorem Bk.b_tuple (B : Bk K mg) : mg "tuple" = none := let ⟨_, X, G⟩ := B.h; He.free_ok X G (B.fact 56 (f := .free "tuple"))
theorem Bk.b_list (B : Bk K mg) : mg "list" = none := let ⟨_, X, G⟩ := B.h; He.free_ok X G (B.fact 57 (f := .free "list"))
theorem Bk.b_range (B : Bk K mg) : mg "range" = none := let ⟨_, X, G⟩ := B.h; He.free_ok X G (B.fact 58 (f := .free "range"))
theorem Bk.b_int (B : Bk K mg) : mg "int" = none := let ⟨_, X, G⟩ := B.h; He.free_ok X G (B.fact 59 (f := .free "int"))
theorem Bk.b_str (B : Bk K mg) : mg "str" = none := let ⟨_, X, G⟩ := B.h; He.free_ok X G (B.fact 60 (f := .free "str"))
theorem Bk.b_abs (B : Bk K mg) : mg "abs" = none := let ⟨_, X, G⟩ := B.h; He.free_ok X G (B.fact 61 (f := .free "abs"))
theorem Bk.b_zip (B : Bk K mg) : mg "zip" = none := let ⟨_, X, G⟩ := B.h; He.free_ok X G (B.fact 62 (f := .free "zip"))
theorem Bk.b_enumerate (B : Bk K mg) : mg "enumerate" = none := let ⟨_, X, G⟩ := B.h; He.free_ok X G (B.fact 63 (f := .free "enumerate"))
theorem Bk.b_divmod (B : Bk K mg) : mg "divmod" = none := let ⟨_, X, G⟩ := B.h; He.free_ok X G (B.fact 64 (f := .free "divmod"))
theorem Bk.b_LookupError (B : Bk K mg) : mg "LookupError" = none := let ⟨_, X, G⟩ := B.h; He.free_ok X G (B.fact 65 (f := .free "LookupError"))
theorem Bk.b_ValueError (B : Bk K mg) : mg "ValueError" = none := let ⟨_, X, G⟩ := B.h; He.free_ok X G (B.fact 66 (f := .free "ValueError"))
theorem Bk.b_bool (B : Bk K mg) : mg "bool" = none := let ⟨_, X, G⟩ := B.h; He.free_ok X G (B.fact 67 (f := .free "bool"))
theorem Bk.b_dict (B : Bk K mg) : mg "dict" = none := let ⟨_, X, G⟩ := B.h; He.free_ok X G (B.fact 68 (f := .free "dict"))
theorem Bk.b_sum (B : Bk K mg) : mg "sum" = none := let ⟨_, X, G⟩ := B.h; He.free_ok X G (B.fact 69 (f := .free "sum"))
theorem Bk.b_any (B : Bk K mg) : mg "any" = none := let ⟨_, X, G⟩ := B.h; He.free_ok X G (B.fact 70 (f := .free "any"))
theorem Bk.c_DIGITS (B : Bk K mg) : ∃ t, mg "_DIGITS" = some (.str "0123456789" t) := let ⟨_, X, G⟩ := B.h; He.str_ok X G (B.fact 71 (f := .str "_DIGITS" "0123456789"))
theorem Bk.cl_Keys (B : Bk K mg) : Cls K (He.ga K "Keys") := He.cls_ok (B.fact 72 (f := .cls "Keys"))
theorem Bk.mk_Keys (B : Bk K mg) : Mk K (He.ga K "Keys") (He.ma K (He.ga K "Keys") "__init__") := He.mkr_ok (B.fact 73 (f := .mkr "Keys"))
theorem Bk.no_Keys__names (B : Bk K mg) : NoAttr K (He.ga K "Keys") "_names" := He.noat_ok (B.fact 74 (f := .noat "Keys" "_names"))
theorem Bk.no_Keys__told (B : Bk K mg) : NoAttr K (He.ga K "Keys") "_told" := He.noat_ok (B.fact 75 (f := .noat "Keys" "_told"))
theorem Bk.cl_Stage (B : Bk K mg) : Cls K (He.ga K "Stage") := He.cls_ok (B.fact 76 (f := .cls "Stage"))
theorem Bk.mk_Stage (B : Bk K mg) : Mk K (He.ga K "Stage") (He.ma K (He.ga K "Stage") "__init__") := He.mkr_ok (B.fact 77 (f := .mkr "Stage"))
theorem Bk.no_Stage__numbers (B : Bk K mg) : NoAttr K (He.ga K "Stage") "_numbers" := He.noat_ok (B.fact 78 (f := .noat "Stage" "_numbers"))
theorem Bk.no_Stage__schema (B : Bk K mg) : NoAttr K (He.ga K "Stage") "_schema" := He.noat_ok (B.fact 79 (f := .noat "Stage" "_schema"))
theorem Bk.me_Keys_tells (B : Bk K mg) : Meth K (He.ga K "Keys") "tells" (He.ma K (He.ga K "Keys") "tells") := He.meth_ok (B.fact 80 (f := .meth "Keys" "tells"))
theorem Bk.me_Keys_told (B : Bk K mg) : Meth K (He.ga K "Keys") "told" (He.ma K (He.ga K "Keys") "told") := He.meth_ok (B.fact 81 (f := .meth "Keys" "told"))
theorem Bk.me_Keys__check (B : Bk K mg) : Meth K (He.ga K "Keys") "_check" (He.ma K (He.ga K "Keys") "_check") := He.meth_ok (B.fact 82 (f := .meth "Keys" "_check"))
theorem Bk.me_Stage_lane (B : Bk K mg) : Meth K (He.ga K "Stage") "lane" (He.ma K (He.ga K "Stage") "lane") := He.meth_ok (B.fact 83 (f := .meth "Stage" "lane"))
theorem Bk.me_Stage_same (B : Bk K mg) : Meth K (He.ga K "Stage") "same" (He.ma K (He.ga K "Stage") "same") := He.meth_ok (B.fact 84 (f := .meth "Stage" "same"))
theorem Bk.ox_BadField (B : Bk K mg) : OexC K (He.ga K "BadField") ∧ PySem.W.findIn K (.ref (He.ga K "BadField")) "__init__" = some (some (.ref (He.ma K (He.ga K "BadField") "__init__"))) ∧ PySem.W.typeIn K (.ref (He.ma K (He.ga K "BadField") "__init__")) = some (.type "function") := oexB_ok (B.ex 0 (f := fun K => oexB K "BadField"))
theorem Bk.ox_BadLine (B : Bk K mg) : OexC K (He.ga K "BadLine") ∧ PySem.W.findIn K (.ref (He.ga K "BadLine")) "__init__" = some (some (.ref (He.ma K (He.ga K "BadLine") "__init__"))) ∧ PySem.W.typeIn K (.ref (He.ma K (He.ga K "BadLine") "__init__")) = some (.type "function") := oexB_ok (B.ex 1 (f := fun K => oexB K "BadLine"))
theorem Bk.ox_Ringed (B : Bk K mg) : OexC K (He.ga K "Ringed") ∧ PySem.W.findIn K (.ref (He.ga K "Ringed")) "__init__" = some (some (.ref (He.ma K (He.ga K "Ringed") "__init__"))) ∧ PySem.W.typeIn K (.ref (He.ma K (He.ga K "Ringed") "__init__")) = some (.type "function") := oexB_ok (B.ex 2 (f := fun K => oexB K "Ringed"))
theorem Bk.ox_MixedKeys (B : Bk K mg) : OexC K (He.ga K "MixedKeys") ∧ PySem.W.findIn K (.ref (He.ga K "MixedKeys")) "__init__" = some (some (.ref (He.ma K (He.ga K "MixedKeys") "__init__"))) ∧ PySem.W.typeIn K (.ref (He.ma K (He.ga K "MixedKeys") "__init__")) = some (.type "function") := oexB_ok (B.ex 3 (f := fun K => oexB K "MixedKeys"))
theorem Bk.lx_NoName (B : Bk K mg) : LexC K (He.ga K "NoName") ∧ PySem.W.findIn K (.ref (He.ga K "NoName")) "__init__" = some (some (.ref (He.ma K (He.ga K "NoName") "__init__"))) ∧ PySem.W.typeIn K (.ref (He.ma K (He.ga K "NoName") "__init__")) = some (.type "function") := lexB_ok (B.ex 4 (f := fun K => lexB K "NoName"))
theorem Bk.bl_gcd (B : Bk K mg) : mg "gcd" = some (.builtin "math.gcd") := let ⟨_, X, G⟩ := B.h; blB_ok X G (B.ex 5 (f := fun K => blB K "gcd" "math.gcd"))
theorem Bk.bl_lcm (B : Bk K mg) : mg "lcm" = some (.builtin "math.lcm") := let ⟨_, X, G⟩ := B.h; blB_ok X G (B.ex 6 (f := fun K => blB K "lcm" "math.lcm"))
theorem Bk.sp_Keys_contains (B : Bk K mg) : PySem.W.findIn K (.ref (He.ga K "Keys")) "__contains__" = some (some (.ref (He.ma K (He.ga K "Keys") "__contains__"))) ∧ PySem.W.isFn K (.ref (He.ma K (He.ga K "Keys") "__contains__")) = true := eqsB_ok (B.ex 8 (f := fun K => eqsB K "Keys" "__contains__"))
theorem Bk.sp_Keys_len (B : Bk K mg) : PySem.W.findIn K (.ref (He.ga K "Keys")) "__len__" = some (some (.ref (He.ma K (He.ga K "Keys") "__len__"))) ∧ PySem.W.isFn K (.ref (He.ma K (He.ga K "Keys") "__len__")) = true := eqsB_ok (B.ex 9 (f := fun K => eqsB K "Keys" "__len__"))
theorem Bk.sp_Keys_eq (B : Bk K mg) : PySem.W.findIn K (.ref (He.ga K "Keys")) "__eq__" = some (some (.ref (He.ma K (He.ga K "Keys") "__eq__"))) ∧ PySem.W.isFn K (.ref (He.ma K (He.ga K "Keys") "__eq__")) = true := eqsB_ok (B.ex 10 (f := fun K => eqsB K "Keys" "__eq__"))
theorem Bk.sp_Stage_getitem (B : Bk K mg) : PySem.W.findIn K (.ref (He.ga K "Stage")) "__getitem__" = some (some (.ref (He.ma K (He.ga K "Stage") "__getitem__"))) ∧ PySem.W.isFn K (.ref (He.ma K (He.ga K "Stage") "__getitem__")) = true := eqsB_ok (B.ex 11 (f := fun K => eqsB K "Stage" "__getitem__"))
theorem Bk.sp_Stage_eq (B : Bk K mg) : PySem.W.findIn K (.ref (He.ga K "Stage")) "__eq__" = some (some (.ref (He.ma K (He.ga K "Stage") "__eq__"))) ∧ PySem.W.isFn K (.ref (He.ma K (He.ga K "Stage") "__eq__")) = true := eqsB_ok (B.ex 12 (f := fun K => eqsB K "Stage" "__eq__"))
theorem Bk.sp_Stage_le (B : Bk K mg) : PySem.W.findIn K (.ref (He.ga K "Stage")) "__le__" = some (some (.ref (He.ma K (He.ga K "Stage") "__le__"))) ∧ PySem.W.isFn K (.ref (He.ma K (He.ga K "Stage") "__le__")) = true := eqsB_ok (B.ex 13 (f := fun K => eqsB K "Stage" "__le__"))
theorem Bk.sp_Stage_lt (B : Bk K mg) : PySem.W.findIn K (.ref (He.ga K "Stage")) "__lt__" = some (some (.ref (He.ma K (He.ga K "Stage") "__lt__"))) ∧ PySem.W.isFn K (.ref (He.ma K (He.ga K "Stage") "__lt__")) = true := eqsB_ok (B.ex 14 (f := fun K => eqsB K "Stage" "__lt__"))
theorem Bk.sp_Stage_or (B : Bk K mg) : PySem.W.findIn K (.ref (He.ga K "Stage")) "__or__" = some (some (.ref (He.ma K (He.ga K "Stage") "__or__"))) ∧ PySem.W.isFn K (.ref (He.ma K (He.ga K "Stage") "__or__")) = true := eqsB_ok (B.ex 15 (f := fun K => eqsB K "Stage" "__or__"))
theorem Bk.sp_Stage_and (B : Bk K mg) : PySem.W.findIn K (.ref (He.ga K "Stage")) "__and__" = some (some (.ref (He.ma K (He.ga K "Stage") "__and__"))) ∧ PySem.W.isFn K (.ref (He.ma K (He.ga K "Stage") "__and__")) = true := eqsB_ok (B.ex 16 (f := fun K => eqsB K "Stage" "__and__"))
theorem Bk.sp_Stage_xor (B : Bk K mg) : PySem.W.findIn K (.ref (He.ga K "Stage")) "__xor__" = some (some (.ref (He.ma K (He.ga K "Stage") "__xor__"))) ∧ PySem.W.isFn K (.ref (He.ma K (He.ga K "Stage") "__xor__")) = true := eqsB_ok (B.ex 17 (f := fun K => eqsB K "Stage" "__xor__"))
theorem Bk.ne_Keys (B : Bk K mg) : PySem.W.findIn K (.ref (He.ga K "Keys")) "__ne__" = some (some (.builtin "object.__ne__")) := He.eqO_ok (B.ex 18 (f := fun K => He.eqO (PySem.W.findIn K (.ref (He.ga K "Keys")) "__ne__") (some (some (.builtin "object.__ne__")))))
theorem Bk.ne_Stage (B : Bk K mg) : PySem.W.findIn K (.ref (He.ga K "Stage")) "__ne__" = some (some (.builtin "object.__ne__")) := He.eqO_ok (B.ex 19 (f := fun K => He.eqO (PySem.W.findIn K (.ref (He.ga K "Stage")) "__ne__") (some (some (.builtin "object.__ne__")))))
theorem Bk.pr_Keys_names (B : Bk K mg) : PropOf K (He.ga K "Keys") "names" (He.ma K (He.ga K "Keys") "names") (propG K "Keys" "names") := propB_ok (B.ex 20 (f := fun K => propB K "Keys" "names"))
theorem Bk.pr_Keys_pairs (B : Bk K mg) : PropOf K (He.ga K "Keys") "pairs" (He.ma K (He.ga K "Keys") "pairs") (propG K "Keys" "pairs") := propB_ok (B.ex 21 (f := fun K => propB K "Keys" "pairs"))
theorem Bk.pr_Stage_schema (B : Bk K mg) : PropOf K (He.ga K "Stage") "schema" (He.ma K (He.ga K "Stage") "schema") (propG K "Stage" "schema") := propB_ok (B.ex 22 (f := fun K => propB K "Stage" "schema"))
theorem Bk.xc_NoName (B : Bk K mg) : ExcC K (He.ga K "NoName") := xcB_ok (B.ex 23 (f := fun K => xcB K (He.ga K "NoName")))
theorem Bk.kit_NoName_LookupError (B : Bk K mg) : PySem.W.kitOne K (.ref (He.ga K "NoName")) (.type "LookupError") = some true := of_decide_eq_true (B.ex 24 (f := fun K => decide (PySem.W.kitOne K (.ref (He.ga K "NoName")) (.type "LookupError") = some true)))
theorem Bk.nf_NoName_name (B : Bk K mg) : PySem.W.findIn K (.ref (He.ga K "NoName")) "name" = some none := He.eqO_ok (B.ex 25 (f := fun K => He.eqO (PySem.W.findIn K (.ref (He.ga K "NoName")) "name") (some none)))
theorem Bk.xc_BadField (B : Bk K mg) : ExcC K (He.ga K "BadField") := xcB_ok (B.ex 26 (f := fun K => xcB K (He.ga K "BadField")))
theorem Bk.kit_BadField_ValueError (B : Bk K mg) : PySem.W.kitOne K (.ref (He.ga K "BadField")) (.type "ValueError") = some true := of_decide_eq_true (B.ex 27 (f := fun K => decide (PySem.W.kitOne K (.ref (He.ga K "BadField")) (.type "ValueError") = some true)))
theorem Bk.nf_BadField_field (B : Bk K mg) : PySem.W.findIn K (.ref (He.ga K "BadField")) "field" = some none := He.eqO_ok (B.ex 28 (f := fun K => He.eqO (PySem.W.findIn K (.ref (He.ga K "BadField")) "field") (some none)))
theorem Bk.xc_BadLine (B : Bk K mg) : ExcC K (He.ga K "BadLine") := xcB_ok (B.ex 29 (f := fun K => xcB K (He.ga K "BadLine")))
theorem Bk.kit_BadLine_ValueError (B : Bk K mg) : PySem.W.kitOne K (.ref (He.ga K "BadLine")) (.type "ValueError") = some true := of_decide_eq_true (B.ex 30 (f := fun K => decide (PySem.W.kitOne K (.ref (He.ga K "BadLine")) (.type "ValueError") = some true)))
theorem Bk.nf_BadLine_number (B : Bk K mg) : PySem.W.findIn K (.ref (He.ga K "BadLine")) "number" = some none := He.eqO_ok (B.ex 31 (f := fun K => He.eqO (PySem.W.findIn K (.ref (He.ga K "BadLine")) "number") (some none)))
theorem Bk.xc_Ringed (B : Bk K mg) : ExcC K (He.ga K "Ringed") := xcB_ok (B.ex 32 (f := fun K => xcB K (He.ga K "Ringed")))
theorem Bk.kit_Ringed_ValueError (B : Bk K mg) : PySem.W.kitOne K (.ref (He.ga K "Ringed")) (.type "ValueError") = some true := of_decide_eq_true (B.ex 33 (f := fun K => decide (PySem.W.kitOne K (.ref (He.ga K "Ringed")) (.type "ValueError") = some true)))
theorem Bk.nf_Ringed_ring (B : Bk K mg) : PySem.W.findIn K (.ref (He.ga K "Ringed")) "ring" = some none := He.eqO_ok (B.ex 34 (f := fun K => He.eqO (PySem.W.findIn K (.ref (He.ga K "Ringed")) "ring") (some none)))
theorem Bk.xc_MixedKeys (B : Bk K mg) : ExcC K (He.ga K "MixedKeys") := xcB_ok (B.ex 35 (f := fun K => xcB K (He.ga K "MixedKeys")))
theorem Bk.kit_MixedKeys_ValueError (B : Bk K mg) : PySem.W.kitOne K (.ref (He.ga K "MixedKeys")) (.type "ValueError") = some true := of_decide_eq_true (B.ex 36 (f := fun K => decide (PySem.W.kitOne K (.ref (He.ga K "MixedKeys")) (.type "ValueError") = some true)))
theorem Bk.kit_Keys_str (B : Bk K mg) : PySem.W.kitOne K (.ref (He.ga K "Keys")) (.type "str") = some false := of_decide_eq_true (B.ex 37 (f := fun K => decide (PySem.W.kitOne K (.ref (He.ga K "Keys")) (.type "str") = some false)))
theorem Bk.kit_Keys_list (B : Bk K mg) : PySem.W.kitOne K (.ref (He.ga K "Keys")) (.type "list") = some false := of_decide_eq_true (B.ex 38 (f := fun K => decide (PySem.W.kitOne K (.ref (He.ga K "Keys")) (.type "list") = some false)))
theorem Bk.kit_Keys_tuple (B : Bk K mg) : PySem.W.kitOne K (.ref (He.ga K "Keys")) (.type "tuple") = some false := of_decide_eq_true (B.ex 39 (f := fun K => decide (PySem.W.kitOne K (.ref (He.ga K "Keys")) (.type "tuple") = some false)))
theorem Bk.kit_Keys_bool (B : Bk K mg) : PySem.W.kitOne K (.ref (He.ga K "Keys")) (.type "bool") = some false := of_decide_eq_true (B.ex 40 (f := fun K => decide (PySem.W.kitOne K (.ref (He.ga K "Keys")) (.type "bool") = some false)))
theorem Bk.kit_Keys_int (B : Bk K mg) : PySem.W.kitOne K (.ref (He.ga K "Keys")) (.type "int") = some false := of_decide_eq_true (B.ex 41 (f := fun K => decide (PySem.W.kitOne K (.ref (He.ga K "Keys")) (.type "int") = some false)))
theorem Bk.kit_Keys_Keys (B : Bk K mg) : PySem.W.kitOne K (.ref (He.ga K "Keys")) (.ref (He.ga K "Keys")) = some true := of_decide_eq_true (B.ex 42 (f := fun K => decide (PySem.W.kitOne K (.ref (He.ga K "Keys")) (.ref (He.ga K "Keys")) = some true)))
theorem Bk.kit_Keys_Stage (B : Bk K mg) : PySem.W.kitOne K (.ref (He.ga K "Keys")) (.ref (He.ga K "Stage")) = some false := of_decide_eq_true (B.ex 43 (f := fun K => decide (PySem.W.kitOne K (.ref (He.ga K "Keys")) (.ref (He.ga K "Stage")) = some false)))
theorem Bk.kit_Stage_str (B : Bk K mg) : PySem.W.kitOne K (.ref (He.ga K "Stage")) (.type "str") = some false := of_decide_eq_true (B.ex 44 (f := fun K => decide (PySem.W.kitOne K (.ref (He.ga K "Stage")) (.type "str") = some false)))
theorem Bk.kit_Stage_list (B : Bk K mg) : PySem.W.kitOne K (.ref (He.ga K "Stage")) (.type "list") = some false := of_decide_eq_true (B.ex 45 (f := fun K => decide (PySem.W.kitOne K (.ref (He.ga K "Stage")) (.type "list") = some false)))
theorem Bk.kit_Stage_tuple (B : Bk K mg) : PySem.W.kitOne K (.ref (He.ga K "Stage")) (.type "tuple") = some false := of_decide_eq_true (B.ex 46 (f := fun K => decide (PySem.W.kitOne K (.ref (He.ga K "Stage")) (.type "tuple") = some false)))
theorem Bk.kit_Stage_bool (B : Bk K mg) : PySem.W.kitOne K (.ref (He.ga K "Stage")) (.type "bool") = some false := of_decide_eq_true (B.ex 47 (f := fun K => decide (PySem.W.kitOne K (.ref (He.ga K "Stage")) (.type "bool") = some false)))
theorem Bk.kit_Stage_int (B : Bk K mg) : PySem.W.kitOne K (.ref (He.ga K "Stage")) (.type "int") = some false := of_decide_eq_true (B.ex 48 (f := fun K => decide (PySem.W.kitOne K (.ref (He.ga K "Stage")) (.type "int") = some false)))
theorem Bk.kit_Stage_Keys (B : Bk K mg) : PySem.W.kitOne K (.ref (He.ga K "Stage")) (.ref (He.ga K "Keys")) = some false := of_decide_eq_true (B.ex 49 (f := fun K => decide (PySem.W.kitOne K (.ref (He.ga K "Stage")) (.ref (He.ga K "Keys")) = some false)))
theorem Bk.kit_Stage_Stage (B : Bk K mg) : PySem.W.kitOne K (.ref (He.ga K "Stage")) (.ref (He.ga K "Stage")) = some true := of_decide_eq_true (B.ex 50 (f := fun K => decide (PySem.W.kitOne K (.ref (He.ga K "Stage")) (.ref (He.ga K "Stage")) = some true)))
theorem Bk.sfst_Stage (B : Bk K mg) : PySem.W.selfFirst K (He.ga K "Stage") = true := (B.ex 51 (f := fun K => PySem.W.selfFirst K (He.ga K "Stage")))
theorem Bk.fin_Stage_getitem (B : Bk K mg) : PySem.W.fnIn K (He.ma K (He.ga K "Stage") "__getitem__") = true := (B.ex 52 (f := fun K => PySem.W.fnIn K (He.ma K (He.ga K "Stage") "__getitem__")))
theorem Bk.nfst_Keys_tuple (B : Bk K mg) : PySem.W.notFirst K (He.ga K "Keys") (.type "tuple") = true := (B.ex 53 (f := fun K => PySem.W.notFirst K (He.ga K "Keys") (.type "tuple")))
theorem Bk.kit_tuple_Keys (B : Bk K mg) : PySem.W.kitOne K (.type "tuple") (.ref (He.ga K "Keys")) = some false := of_decide_eq_true (B.ex 54 (f := fun K => decide (PySem.W.kitOne K (.type "tuple") (.ref (He.ga K "Keys")) = some false)))
theorem Bk.nfst_Keys_list (B : Bk K mg) : PySem.W.notFirst K (He.ga K "Keys") (.type "list") = true := (B.ex 55 (f := fun K => PySem.W.notFirst K (He.ga K "Keys") (.type "list")))
theorem Bk.kit_list_Keys (B : Bk K mg) : PySem.W.kitOne K (.type "list") (.ref (He.ga K "Keys")) = some false := of_decide_eq_true (B.ex 56 (f := fun K => decide (PySem.W.kitOne K (.type "list") (.ref (He.ga K "Keys")) = some false)))
theorem Bk.nfst_Stage_tuple (B : Bk K mg) : PySem.W.notFirst K (He.ga K "Stage") (.type "tuple") = true := (B.ex 57 (f := fun K => PySem.W.notFirst K (He.ga K "Stage") (.type "tuple")))
theorem Bk.kit_tuple_Stage (B : Bk K mg) : PySem.W.kitOne K (.type "tuple") (.ref (He.ga K "Stage")) = some false := of_decide_eq_true (B.ex 58 (f := fun K => decide (PySem.W.kitOne K (.type "tuple") (.ref (He.ga K "Stage")) = some false)))
theorem Bk.nfst_Stage_list (B : Bk K mg) : PySem.W.notFirst K (He.ga K "Stage") (.type "list") = true := (B.ex 59 (f := fun K => PySem.W.notFirst K (He.ga K "Stage") (.type "list")))
theorem Bk.kit_list_Stage (B : Bk K mg) : PySem.W.kitOne K (.type "list") (.ref (He.ga K "Stage")) = some false := of_decide_eq_true (B.ex 60 (f := fun K => decide (PySem.W.kitOne K (.type "list") (.ref (He.ga K "Stage")) = some false)))
theorem Bk.ty_Keys (B : Bk K mg) : PySem.W.findIn K (.ref (He.ga K "Keys")) "__class__" = some (some (.builtin "object.__class__")) ∧ PySem.W.specialIn K (.builtin "object.__class__") "__get__" = some (some (.builtin "getset_descriptor.__get__")) ∧ PySem.W.takesIn K (.builtin "object.__class__") = some true ∧ PySem.W.mroIn K (He.ga K "Keys") (.type "object") = some true := tyB_ok (B.ex 61 (f := fun K => tyB K (He.ga K "Keys")))
theorem Bk.ty_Stage (B : Bk K mg) : PySem.W.findIn K (.ref (He.ga K "Stage")) "__class__" = some (some (.builtin "object.__class__")) ∧ PySem.W.specialIn K (.builtin "object.__class__") "__get__" = some (some (.builtin "getset_descriptor.__get__")) ∧ PySem.W.takesIn K (.builtin "object.__class__") = some true ∧ PySem.W.mroIn K (He.ga K "Stage") (.type "object") = some true := tyB_ok (B.ex 62 (f := fun K => tyB K (He.ga K "Stage")))
theorem Bk.nf_Keys___bool__ (B : Bk K mg) : PySem.W.findIn K (.ref (He.ga K "Keys")) "__bool__" = some none := He.eqO_ok (B.ex 63 (f := fun K => He.eqO (PySem.W.findIn K (.ref (He.ga K "Keys")) "__bool__") (some none)))
theorem Bk.df_Keys_init (B : Bk K mg) (H : Hp) : SqT K H (dflA (fun K => He.ma K (He.ga K "Keys") "__init__") 0 K) [] := tup0B_ok (B.ex 64 (f := fun K => tup0B K (dflA (fun K => He.ma K (He.ga K "Keys") "__init__") 0 K))) H
theorem Bk.exm_NoName_NoName (B : Bk K mg) : PySem.W.exmOne K (.ref (He.ga K "NoName")) (.ref (He.ga K "NoName")) = some true := of_decide_eq_true (B.ex 65 (f := fun K => decide (PySem.W.exmOne K (.ref (He.ga K "NoName")) (.ref (He.ga K "NoName")) = some true)))
theorem Bk.exm_NoName_BadField (B : Bk K mg) : PySem.W.exmOne K (.ref (He.ga K "NoName")) (.ref (He.ga K "BadField")) = some false := of_decide_eq_true (B.ex 66 (f := fun K => decide (PySem.W.exmOne K (.ref (He.ga K "NoName")) (.ref (He.ga K "BadField")) = some false)))
theorem Bk.exm_NoName_BadLine (B : Bk K mg) : PySem.W.exmOne K (.ref (He.ga K "NoName")) (.ref (He.ga K "BadLine")) = some false := of_decide_eq_true (B.ex 67 (f := fun K => decide (PySem.W.exmOne K (.ref (He.ga K "NoName")) (.ref (He.ga K "BadLine")) = some false)))
theorem Bk.exm_NoName_Ringed (B : Bk K mg) : PySem.W.exmOne K (.ref (He.ga K "NoName")) (.ref (He.ga K "Ringed")) = some false := of_decide_eq_true (B.ex 68 (f := fun K => decide (PySem.W.exmOne K (.ref (He.ga K "NoName")) (.ref (He.ga K "Ringed")) = some false)))
theorem Bk.exm_NoName_MixedKeys (B : Bk K mg) : PySem.W.exmOne K (.ref (He.ga K "NoName")) (.ref (He.ga K "MixedKeys")) = some false := of_decide_eq_true (B.ex 69 (f := fun K => decide (PySem.W.exmOne K (.ref (He.ga K "NoName")) (.ref (He.ga K "MixedKeys")) = some false)))
theorem Bk.exm_BadField_NoName (B : Bk K mg) : PySem.W.exmOne K (.ref (He.ga K "BadField")) (.ref (He.ga K "NoName")) = some false := of_decide_eq_true (B.ex 70 (f := fun K => decide (PySem.W.exmOne K (.ref (He.ga K "BadField")) (.ref (He.ga K "NoName")) = some false)))
theorem Bk.exm_BadField_BadField (B : Bk K mg) : PySem.W.exmOne K (.ref (He.ga K "BadField")) (.ref (He.ga K "BadField")) = some true := of_decide_eq_true (B.ex 71 (f := fun K => decide (PySem.W.exmOne K (.ref (He.ga K "BadField")) (.ref (He.ga K "BadField")) = some true)))
theorem Bk.exm_BadField_BadLine (B : Bk K mg) : PySem.W.exmOne K (.ref (He.ga K "BadField")) (.ref (He.ga K "BadLine")) = some false := of_decide_eq_true (B.ex 72 (f := fun K => decide (PySem.W.exmOne K (.ref (He.ga K "BadField")) (.ref (He.ga K "BadLine")) = some false)))
theorem Bk.exm_BadField_Ringed (B : Bk K mg) : PySem.W.exmOne K (.ref (He.ga K "BadField")) (.ref (He.ga K "Ringed")) = some false := of_decide_eq_true (B.ex 73 (f := fun K => decide (PySem.W.exmOne K (.ref (He.ga K "BadField")) (.ref (He.ga K "Ringed")) = some false)))
theorem Bk.exm_BadField_MixedKeys (B : Bk K mg) : PySem.W.exmOne K (.ref (He.ga K "BadField")) (.ref (He.ga K "MixedKeys")) = some false := of_decide_eq_true (B.ex 74 (f := fun K => decide (PySem.W.exmOne K (.ref (He.ga K "BadField")) (.ref (He.ga K "MixedKeys")) = some false)))
theorem Bk.exm_BadLine_NoName (B : Bk K mg) : PySem.W.exmOne K (.ref (He.ga K "BadLine")) (.ref (He.ga K "NoName")) = some false := of_decide_eq_true (B.ex 75 (f := fun K => decide (PySem.W.exmOne K (.ref (He.ga K "BadLine")) (.ref (He.ga K "NoName")) = some false)))
theorem Bk.exm_BadLine_BadField (B : Bk K mg) : PySem.W.exmOne K (.ref (He.ga K "BadLine")) (.ref (He.ga K "BadField")) = some false := of_decide_eq_true (B.ex 76 (f := fun K => decide (PySem.W.exmOne K (.ref (He.ga K "BadLine")) (.ref (He.ga K "BadField")) = some false)))
theorem Bk.exm_BadLine_BadLine (B : Bk K mg) : PySem.W.exmOne K (.ref (He.ga K "BadLine")) (.ref (He.ga K "BadLine")) = some true := of_decide_eq_true (B.ex 77 (f := fun K => decide (PySem.W.exmOne K (.ref (He.ga K "BadLine")) (.ref (He.ga K "BadLine")) = some true)))
theorem Bk.exm_BadLine_Ringed (B : Bk K mg) : PySem.W.exmOne K (.ref (He.ga K "BadLine")) (.ref (He.ga K "Ringed")) = some false := of_decide_eq_true (B.ex 78 (f := fun K => decide (PySem.W.exmOne K (.ref (He.ga K "BadLine")) (.ref (He.ga K "Ringed")) = some false)))
theorem Bk.exm_BadLine_MixedKeys (B : Bk K mg) : PySem.W.exmOne K (.ref (He.ga K "BadLine")) (.ref (He.ga K "MixedKeys")) = some false := of_decide_eq_true (B.ex 79 (f := fun K => decide (PySem.W.exmOne K (.ref (He.ga K "BadLine")) (.ref (He.ga K "MixedKeys")) = some false)))
theorem Bk.exm_Ringed_NoName (B : Bk K mg) : PySem.W.exmOne K (.ref (He.ga K "Ringed")) (.ref (He.ga K "NoName")) = some false := of_decide_eq_true (B.ex 80 (f := fun K => decide (PySem.W.exmOne K (.ref (He.ga K "Ringed")) (.ref (He.ga K "NoName")) = some false)))
theorem Bk.exm_Ringed_BadField (B : Bk K mg) : PySem.W.exmOne K (.ref (He.ga K "Ringed")) (.ref (He.ga K "BadField")) = some false := of_decide_eq_true (B.ex 81 (f := fun K => decide (PySem.W.exmOne K (.ref (He.ga K "Ringed")) (.ref (He.ga K "BadField")) = some false)))
theorem Bk.exm_Ringed_BadLine (B : Bk K mg) : PySem.W.exmOne K (.ref (He.ga K "Ringed")) (.ref (He.ga K "BadLine")) = some false := of_decide_eq_true (B.ex 82 (f := fun K => decide (PySem.W.exmOne K (.ref (He.ga K "Ringed")) (.ref (He.ga K "BadLine")) = some false)))
theorem Bk.exm_Ringed_Ringed (B : Bk K mg) : PySem.W.exmOne K (.ref (He.ga K "Ringed")) (.ref (He.ga K "Ringed")) = some true := of_decide_eq_true (B.ex 83 (f := fun K => decide (PySem.W.exmOne K (.ref (He.ga K "Ringed")) (.ref (He.ga K "Ringed")) = some true)))
theorem Bk.exm_Ringed_MixedKeys (B : Bk K mg) : PySem.W.exmOne K (.ref (He.ga K "Ringed")) (.ref (He.ga K "MixedKeys")) = some false := of_decide_eq_true (B.ex 84 (f := fun K => decide (PySem.W.exmOne K (.ref (He.ga K "Ringed")) (.ref (He.ga K "MixedKeys")) = some false)))
theorem Bk.exm_MixedKeys_NoName (B : Bk K mg) : PySem.W.exmOne K (.ref (He.ga K "MixedKeys")) (.ref (He.ga K "NoName")) = some false := of_decide_eq_true (B.ex 85 (f := fun K => decide (PySem.W.exmOne K (.ref (He.ga K "MixedKeys")) (.ref (He.ga K "NoName")) = some false)))
theorem Bk.exm_MixedKeys_BadField (B : Bk K mg) : PySem.W.exmOne K (.ref (He.ga K "MixedKeys")) (.ref (He.ga K "BadField")) = some false := of_decide_eq_true (B.ex 86 (f := fun K => decide (PySem.W.exmOne K (.ref (He.ga K "MixedKeys")) (.ref (He.ga K "BadField")) = some false)))
theorem Bk.exm_MixedKeys_BadLine (B : Bk K mg) : PySem.W.exmOne K (.ref (He.ga K "MixedKeys")) (.ref (He.ga K "BadLine")) = some false := of_decide_eq_true (B.ex 87 (f := fun K => decide (PySem.W.exmOne K (.ref (He.ga K "MixedKeys")) (.ref (He.ga K "BadLine")) = some false)))
theorem Bk.exm_MixedKeys_Ringed (B : Bk K mg) : PySem.W.exmOne K (.ref (He.ga K "MixedKeys")) (.ref (He.ga K "Ringed")) = some false := of_decide_eq_true (B.ex 88 (f := fun K => decide (PySem.W.exmOne K (.ref (He.ga K "MixedKeys")) (.ref (He.ga K "Ringed")) = some false)))
theorem Bk.exm_MixedKeys_MixedKeys (B : Bk K mg) : PySem.W.exmOne K (.ref (He.ga K "MixedKeys")) (.ref (He.ga K "MixedKeys")) = some true := of_decide_eq_true (B.ex 89 (f := fun K => decide (PySem.W.exmOne K (.ref (He.ga K "MixedKeys")) (.ref (He.ga K "MixedKeys")) = some true)))
theorem Bk.F_is_name (B : Bk K mg) : ∃ fd, Fun K "is_name" "is_name" s_is_name (He.ga K "is_name") fd := let ⟨fd, h⟩ := B.fn_ 0 (d := d_is_name); ⟨fd, He5.fun_of h⟩
theorem Bk.F_is_field (B : Bk K mg) : ∃ fd, Fun K "is_field" "is_field" s_is_field (He.ga K "is_field") fd := let ⟨fd, h⟩ := B.fn_ 1 (d := d_is_field); ⟨fd, He5.fun_of h⟩
theorem Bk.F_field_of (B : Bk K mg) : ∃ fd, Fun K "field_of" "field_of" s_field_of (He.ga K "field_of") fd := let ⟨fd, h⟩ := B.fn_ 2 (d := d_field_of); ⟨fd, He5.fun_of h⟩
theorem Bk.F_field_text (B : Bk K mg) : ∃ fd, Fun K "field_text" "field_text" s_field_text (He.ga K "field_text") fd := let ⟨fd, h⟩ := B.fn_ 3 (d := d_field_text); ⟨fd, He5.fun_of h⟩
theorem Bk.F_Keys___init (B : Bk K mg) : ∃ fd, FunD K "__init__" "Keys.__init__" (defArgs s_Keys___init__) (defBody s_Keys___init__) (defScope s_Keys___init__) (d_Keys___init__.dvs K) [] (He.ma K (He.ga K "Keys") "__init__") fd := B.fn_ 4 (d := d_Keys___init__)
theorem Bk.F_Keys_p_names (B : Bk K mg) : ∃ fd, Fun K "names" "Keys.names" s_Keys_p_names (propG K "Keys" "names") fd := let ⟨fd, h⟩ := B.fn_ 5 (d := d_Keys_p_names); ⟨fd, He5.fun_of h⟩
theorem Bk.F_Keys_p_pairs (B : Bk K mg) : ∃ fd, Fun K "pairs" "Keys.pairs" s_Keys_p_pairs (propG K "Keys" "pairs") fd := let ⟨fd, h⟩ := B.fn_ 6 (d := d_Keys_p_pairs); ⟨fd, He5.fun_of h⟩
theorem Bk.F_Keys_tells (B : Bk K mg) : ∃ fd, Fun K "tells" "Keys.tells" s_Keys_tells (He.ma K (He.ga K "Keys") "tells") fd := let ⟨fd, h⟩ := B.fn_ 7 (d := d_Keys_tells); ⟨fd, He5.fun_of h⟩
theorem Bk.F_Keys_told (B : Bk K mg) : ∃ fd, Fun K "told" "Keys.told" s_Keys_told (He.ma K (He.ga K "Keys") "told") fd := let ⟨fd, h⟩ := B.fn_ 8 (d := d_Keys_told); ⟨fd, He5.fun_of h⟩
theorem Bk.F_Keys__check (B : Bk K mg) : ∃ fd, Fun K "_check" "Keys._check" s_Keys__check (He.ma K (He.ga K "Keys") "_check") fd := let ⟨fd, h⟩ := B.fn_ 9 (d := d_Keys__check); ⟨fd, He5.fun_of h⟩
theorem Bk.F_Keys___contains (B : Bk K mg) : ∃ fd, Fun K "__contains__" "Keys.__contains__" s_Keys___contains__ (He.ma K (He.ga K "Keys") "__contains__") fd := let ⟨fd, h⟩ := B.fn_ 10 (d := d_Keys___contains__); ⟨fd, He5.fun_of h⟩
theorem Bk.F_Keys___len (B : Bk K mg) : ∃ fd, Fun K "__len__" "Keys.__len__" s_Keys___len__ (He.ma K (He.ga K "Keys") "__len__") fd := let ⟨fd, h⟩ := B.fn_ 11 (d := d_Keys___len__); ⟨fd, He5.fun_of h⟩
theorem Bk.F_Keys___eq (B : Bk K mg) : ∃ fd, Fun K "__eq__" "Keys.__eq__" s_Keys___eq__ (He.ma K (He.ga K "Keys") "__eq__") fd := let ⟨fd, h⟩ := B.fn_ 12 (d := d_Keys___eq__); ⟨fd, He5.fun_of h⟩
theorem Bk.F_all_told (B : Bk K mg) : ∃ fd, Fun K "_all_told" "_all_told" s__all_told (He.ga K "_all_told") fd := let ⟨fd, h⟩ := B.fn_ 13 (d := d__all_told); ⟨fd, He5.fun_of h⟩
theorem Bk.F_is_numeral (B : Bk K mg) : ∃ fd, Fun K "is_numeral" "is_numeral" s_is_numeral (He.ga K "is_numeral") fd := let ⟨fd, h⟩ := B.fn_ 14 (d := d_is_numeral); ⟨fd, He5.fun_of h⟩
theorem Bk.F_number_of (B : Bk K mg) : ∃ fd, Fun K "number_of" "number_of" s_number_of (He.ga K "number_of") fd := let ⟨fd, h⟩ := B.fn_ 15 (d := d_number_of); ⟨fd, He5.fun_of h⟩
theorem Bk.F_written (B : Bk K mg) : ∃ fd, Fun K "written" "written" s_written (He.ga K "written") fd := let ⟨fd, h⟩ := B.fn_ 16 (d := d_written); ⟨fd, He5.fun_of h⟩
theorem Bk.F_Stage___init (B : Bk K mg) : ∃ fd, Fun K "__init__" "Stage.__init__" s_Stage___init__ (He.ma K (He.ga K "Stage") "__init__") fd := let ⟨fd, h⟩ := B.fn_ 17 (d := d_Stage___init__); ⟨fd, He5.fun_of h⟩
theorem Bk.F_Stage_p_schema (B : Bk K mg) : ∃ fd, Fun K "schema" "Stage.schema" s_Stage_p_schema (propG K "Stage" "schema") fd := let ⟨fd, h⟩ := B.fn_ 18 (d := d_Stage_p_schema); ⟨fd, He5.fun_of h⟩
theorem Bk.F_Stage_lane (B : Bk K mg) : ∃ fd, Fun K "lane" "Stage.lane" s_Stage_lane (He.ma K (He.ga K "Stage") "lane") fd := let ⟨fd, h⟩ := B.fn_ 19 (d := d_Stage_lane); ⟨fd, He5.fun_of h⟩
theorem Bk.F_Stage_same (B : Bk K mg) : ∃ fd, Fun K "same" "Stage.same" s_Stage_same (He.ma K (He.ga K "Stage") "same") fd := let ⟨fd, h⟩ := B.fn_ 20 (d := d_Stage_same); ⟨fd, He5.fun_of h⟩
theorem Bk.F_Stage___getitem (B : Bk K mg) : ∃ fd, Fun K "__getitem__" "Stage.__getitem__" s_Stage___getitem__ (He.ma K (He.ga K "Stage") "__getitem__") fd := let ⟨fd, h⟩ := B.fn_ 21 (d := d_Stage___getitem__); ⟨fd, He5.fun_of h⟩
theorem Bk.F_Stage___eq (B : Bk K mg) : ∃ fd, Fun K "__eq__" "Stage.__eq__" s_Stage___eq__ (He.ma K (He.ga K "Stage") "__eq__") fd := let ⟨fd, h⟩ := B.fn_ 22 (d := d_Stage___eq__); ⟨fd, He5.fun_of h⟩
theorem Bk.F_Stage___le (B : Bk K mg) : ∃ fd, Fun K "__le__" "Stage.__le__" s_Stage___le__ (He.ma K (He.ga K "Stage") "__le__") fd := let ⟨fd, h⟩ := B.fn_ 23 (d := d_Stage___le__); ⟨fd, He5.fun_of h⟩
theorem Bk.F_Stage___lt (B : Bk K mg) : ∃ fd, Fun K "__lt__" "Stage.__lt__" s_Stage___lt__ (He.ma K (He.ga K "Stage") "__lt__") fd := let ⟨fd, h⟩ := B.fn_ 24 (d := d_Stage___lt__); ⟨fd, He5.fun_of h⟩
theorem Bk.F_Stage___or (B : Bk K mg) : ∃ fd, Fun K "__or__" "Stage.__or__" s_Stage___or__ (He.ma K (He.ga K "Stage") "__or__") fd := let ⟨fd, h⟩ := B.fn_ 25 (d := d_Stage___or__); ⟨fd, He5.fun_of h⟩
theorem Bk.F_Stage___and (B : Bk K mg) : ∃ fd, Fun K "__and__" "Stage.__and__" s_Stage___and__ (He.ma K (He.ga K "Stage") "__and__") fd := let ⟨fd, h⟩ := B.fn_ 26 (d := d_Stage___and__); ⟨fd, He5.fun_of h⟩
theorem Bk.F_Stage___xor (B : Bk K mg) : ∃ fd, Fun K "__xor__" "Stage.__xor__" s_Stage___xor__ (He.ma K (He.ga K "Stage") "__xor__") fd := let ⟨fd, h⟩ := B.fn_ 27 (d := d_Stage___xor__); ⟨fd, He5.fun_of h⟩
theorem Bk.F_all_names (B : Bk K mg) : ∃ fd, Fun K "all_names" "all_names" s_all_names (He.ga K "all_names") fd := let ⟨fd, h⟩ := B.fn_ 28 (d := d_all_names); ⟨fd, He5.fun_of h⟩
theorem Bk.F_joined (B : Bk K mg) : ∃ fd, Fun K "_joined" "_joined" s__joined (He.ga K "_joined") fd := let ⟨fd, h⟩ := B.fn_ 29 (d := d__joined); ⟨fd, He5.fun_of h⟩
theorem Bk.F_closed (B : Bk K mg) : ∃ fd, Fun K "_closed" "_closed" s__closed (He.ga K "_closed") fd := let ⟨fd, h⟩ := B.fn_ 30 (d := d__closed); ⟨fd, He5.fun_of h⟩
theorem Bk.F_stage_of_numbers (B : Bk K mg) : ∃ fd, Fun K "stage_of_numbers" "stage_of_numbers" s_stage_of_numbers (He.ga K "stage_of_numbers") fd := let ⟨fd, h⟩ := B.fn_ 31 (d := d_stage_of_numbers); ⟨fd, He5.fun_of h⟩
theorem Bk.F_divides (B : Bk K mg) : ∃ fd, Fun K "_divides" "_divides" s__divides (He.ga K "_divides") fd := let ⟨fd, h⟩ := B.fn_ 32 (d := d__divides); ⟨fd, He5.fun_of h⟩
theorem Bk.F_check_same_keys (B : Bk K mg) : ∃ fd, Fun K "check_same_keys" "check_same_keys" s_check_same_keys (He.ga K "check_same_keys") fd := let ⟨fd, h⟩ := B.fn_ 33 (d := d_check_same_keys); ⟨fd, He5.fun_of h⟩
theorem Bk.F_parted (B : Bk K mg) : ∃ fd, Fun K "_parted" "_parted" s__parted (He.ga K "_parted") fd := let ⟨fd, h⟩ := B.fn_ 34 (d := d__parted); ⟨fd, He5.fun_of h⟩
theorem Bk.F_is_int (B : Bk K mg) : ∃ fd, Fun K "is_int" "is_int" s_is_int (He.ga K "is_int") fd := let ⟨fd, h⟩ := B.fn_ 35 (d := d_is_int); ⟨fd, He5.fun_of h⟩
theorem Bk.F_is_row (B : Bk K mg) : ∃ fd, Fun K "is_row" "is_row" s_is_row (He.ga K "is_row") fd := let ⟨fd, h⟩ := B.fn_ 36 (d := d_is_row); ⟨fd, He5.fun_of h⟩
theorem Bk.F_lanes (B : Bk K mg) : ∃ fd, Fun K "lanes" "lanes" s_lanes (He.ga K "lanes") fd := let ⟨fd, h⟩ := B.fn_ 37 (d := d_lanes); ⟨fd, He5.fun_of h⟩
theorem Bk.F_is_record (B : Bk K mg) : ∃ fd, Fun K "_is_record" "_is_record" s__is_record (He.ga K "_is_record") fd := let ⟨fd, h⟩ := B.fn_ 38 (d := d__is_record); ⟨fd, He5.fun_of h⟩
theorem Bk.F_tuples (B : Bk K mg) : ∃ fd, Fun K "_tuples" "_tuples" s__tuples (He.ga K "_tuples") fd := let ⟨fd, h⟩ := B.fn_ 39 (d := d__tuples); ⟨fd, He5.fun_of h⟩
theorem Bk.F_first_doubled (B : Bk K mg) : ∃ fd, Fun K "_first_doubled" "_first_doubled" s__first_doubled (He.ga K "_first_doubled") fd := let ⟨fd, h⟩ := B.fn_ 40 (d := d__first_doubled); ⟨fd, He5.fun_of h⟩
theorem Bk.F_first_clash (B : Bk K mg) : ∃ fd, Fun K "_first_clash" "_first_clash" s__first_clash (He.ga K "_first_clash") fd := let ⟨fd, h⟩ := B.fn_ 41 (d := d__first_clash); ⟨fd, He5.fun_of h⟩
theorem Bk.F_clashing_name (B : Bk K mg) : ∃ fd, Fun K "_clashing_name" "_clashing_name" s__clashing_name (He.ga K "_clashing_name") fd := let ⟨fd, h⟩ := B.fn_ 42 (d := d__clashing_name); ⟨fd, He5.fun_of h⟩
theorem Bk.F_queues (B : Bk K mg) : ∃ fd, Fun K "_queues" "_queues" s__queues (He.ga K "_queues") fd := let ⟨fd, h⟩ := B.fn_ 43 (d := d__queues); ⟨fd, He5.fun_of h⟩
theorem Bk.F_NoName___init (B : Bk K mg) : ∃ fd, Fun K "__init__" "NoName.__init__" s_NoName___init__ (He.ma K (He.ga K "NoName") "__init__") fd := let ⟨fd, h⟩ := B.fn_ 44 (d := d_NoName___init__); ⟨fd, He5.fun_of h⟩
theorem Bk.F_BadField___init (B : Bk K mg) : ∃ fd, Fun K "__init__" "BadField.__init__" s_BadField___init__ (He.ma K (He.ga K "BadField") "__init__") fd := let ⟨fd, h⟩ := B.fn_ 45 (d := d_BadField___init__); ⟨fd, He5.fun_of h⟩
theorem Bk.F_BadLine___init (B : Bk K mg) : ∃ fd, Fun K "__init__" "BadLine.__init__" s_BadLine___init__ (He.ma K (He.ga K "BadLine") "__init__") fd := let ⟨fd, h⟩ := B.fn_ 46 (d := d_BadLine___init__); ⟨fd, He5.fun_of h⟩
theorem Bk.F_Ringed___init (B : Bk K mg) : ∃ fd, Fun K "__init__" "Ringed.__init__" s_Ringed___init__ (He.ma K (He.ga K "Ringed") "__init__") fd := let ⟨fd, h⟩ := B.fn_ 47 (d := d_Ringed___init__); ⟨fd, He5.fun_of h⟩
theorem Bk.F_MixedKeys___init (B : Bk K mg) : ∃ fd, Fun K "__init__" "MixedKeys.__init__" s_MixedKeys___init__ (He.ma K (He.ga K "MixedKeys") "__init__") fd := let ⟨fd, h⟩ := B.fn_ 48 (d := d_MixedKeys___init__); ⟨fd, He5.fun_of h⟩
theorem Bk.F_law_box (B : Bk K mg) : ∃ fd, Fun K "_law_box" "_law_box" s__law_box (He.ga K "_law_box") fd := let ⟨fd, h⟩ := B.fn_ 49 (d := d__law_box); ⟨fd, He5.fun_of h⟩
theorem Bk.F_law_take (B : Bk K mg) : ∃ fd, Fun K "_law_take" "_law_take" s__law_take (He.ga K "_law_take") fd := let ⟨fd, h⟩ := B.fn_ 50 (d := d__law_take); ⟨fd, He5.fun_of h⟩
theorem Bk.F_law_cells (B : Bk K mg) : ∃ fd, Fun K "_law_cells" "_law_cells" s__law_cells (He.ga K "_law_cells") fd := let ⟨fd, h⟩ := B.fn_ 51 (d := d__law_cells); ⟨fd, He5.fun_of h⟩
theorem Bk.F_law_of (B : Bk K mg) : ∃ fd, Fun K "_law_of" "_law_of" s__law_of (He.ga K "_law_of") fd := let ⟨fd, h⟩ := B.fn_ 52 (d := d__law_of); ⟨fd, He5.fun_of h⟩
theorem Bk.F_law_same (B : Bk K mg) : ∃ fd, Fun K "_law_same" "_law_same" s__law_same (He.ga K "_law_same") fd := let ⟨fd, h⟩ := B.fn_ 53 (d := d__law_same); ⟨fd, He5.fun_of h⟩
theorem Bk.F_law_mixed (B : Bk K mg) : ∃ fd, Fun K "_law_mixed" "_law_mixed" s__law_mixed (He.ga K "_law_mixed") fd := let ⟨fd, h⟩ := B.fn_ 54 (d := d__law_mixed); ⟨fd, He5.fun_of h⟩
theorem Bk.F_law_gcd (B : Bk K mg) : ∃ fd, Fun K "_law_gcd" "_law_gcd" s__law_gcd (He.ga K "_law_gcd") fd := let ⟨fd, h⟩ := B.fn_ 55 (d := d__law_gcd); ⟨fd, He5.fun_of h⟩
theorem Bk.F_law_lcm (B : Bk K mg) : ∃ fd, Fun K "_law_lcm" "_law_lcm" s__law_lcm (He.ga K "_law_lcm") fd := let ⟨fd, h⟩ := B.fn_ 56 (d := d__law_lcm); ⟨fd, He5.fun_of h⟩
theorem Bk.F_law_book (B : Bk K mg) : ∃ fd, Fun K "_law_book" "_law_book" s__law_book (He.ga K "_law_book") fd := let ⟨fd, h⟩ := B.fn_ 57 (d := d__law_book); ⟨fd, He5.fun_of h⟩
theorem Bk.F_law_told (B : Bk K mg) : ∃ fd, Fun K "_law_told" "_law_told" s__law_told (He.ga K "_law_told") fd := let ⟨fd, h⟩ := B.fn_ 58 (d := d__law_told); ⟨fd, He5.fun_of h⟩
theorem Bk.F_law_field (B : Bk K mg) : ∃ fd, Fun K "_law_field" "_law_field" s__law_field (He.ga K "_law_field") fd := let ⟨fd, h⟩ := B.fn_ 59 (d := d__law_field); ⟨fd, He5.fun_of h⟩
theorem Bk.F_law_split (B : Bk K mg) : ∃ fd, Fun K "_law_split" "_law_split" s__law_split (He.ga K "_law_split") fd := let ⟨fd, h⟩ := B.fn_ 60 (d := d__law_split); ⟨fd, He5.fun_of h⟩
theorem Bk.F_law_mods (B : Bk K mg) : ∃ fd, Fun K "_law_mods" "_law_mods" s__law_mods (He.ga K "_law_mods") fd := let ⟨fd, h⟩ := B.fn_ 61 (d := d__law_mods); ⟨fd, He5.fun_of h⟩
theorem Bk.F_law_lane (B : Bk K mg) : ∃ fd, Fun K "_law_lane" "_law_lane" s__law_lane (He.ga K "_law_lane") fd := let ⟨fd, h⟩ := B.fn_ 62 (d := d__law_lane); ⟨fd, He5.fun_of h⟩
theorem Bk.F_law_log (B : Bk K mg) : ∃ fd, Fun K "_law_log" "_law_log" s__law_log (He.ga K "_law_log") fd := let ⟨fd, h⟩ := B.fn_ 63 (d := d__law_log); ⟨fd, He5.fun_of h⟩
theorem Bk.F_law_due (B : Bk K mg) : ∃ fd, Fun K "_law_due" "_law_due" s__law_due (He.ga K "_law_due") fd := let ⟨fd, h⟩ := B.fn_ 64 (d := d__law_due); ⟨fd, He5.fun_of h⟩
theorem Bk.F_law_pair_right (B : Bk K mg) : ∃ fd, Fun K "_law_pair_right" "_law_pair_right" s__law_pair_right (He.ga K "_law_pair_right") fd := let ⟨fd, h⟩ := B.fn_ 65 (d := d__law_pair_right); ⟨fd, He5.fun_of h⟩
theorem Bk.F_law_within_right (B : Bk K mg) : ∃ fd, Fun K "_law_within_right" "_law_within_right" s__law_within_right (He.ga K "_law_within_right") fd := let ⟨fd, h⟩ := B.fn_ 66 (d := d__law_within_right); ⟨fd, He5.fun_of h⟩
theorem Bk.F_law_right (B : Bk K mg) : ∃ fd, Fun K "_law_right" "_law_right" s__law_right (He.ga K "_law_right") fd := let ⟨fd, h⟩ := B.fn_ 67 (d := d__law_right); ⟨fd, He5.fun_of h⟩
theorem Bk.F_law (B : Bk K mg) : ∃ fd, Fun K "law" "law" s_law (He.ga K "law") fd := let ⟨fd, h⟩ := B.fn_ 68 (d := d_law); ⟨fd, He5.fun_of h⟩
end
end Jd
namespace Jd
open PySem PySem.Spec PyProof.Rows L2
/-! ### words -/
/-- a def that stands behind the top, its promise -/
structure Df (P : Program) (w : World) (K : PySem.W.Frag) (mg : Str → Option Value) (base : Heap) (CX : CXT) (k : Nat) (x : Str) (ps : List Str) (sp : Sp) : Prop where
  ex : ∃ fd, FnOk P w K mg base CX k (He.ga K x) fd ps sp ∧ Binds K fd ps []
  g : mg x = some (.ref (He.ga K x))
  kp : PySem.W.keepIn K (.ref (He.ga K x)) = true
/-- the codes of a text -/
abbrev cd (z : Str) : List Nat := z.cps.toList
theorem len_cd (z : Str) : z.length = (cd z).length := by
  show z.cps.size = z.cps.toList.length
  rw [Array.length_toList]
theorem cd_ext {a b : Str} (h : cd a = cd b) : a = b := by
  obtain ⟨x⟩ := a
  obtain ⟨y⟩ := b
  congr 1
  exact Array.toList_inj.mp h
theorem cd_at {z : Str} {i c : Nat} (h : z.cps[i]? = some c) : (cd z)[i]? = some c := by
  rw [Array.getElem?_toList]
  exact h
/-- both ways of a test -/
theorem two {c : Bool} {A B : Prop} (h1 : c = true → A) (h2 : c = false → B) : if c = true then A else B := by
  cases c with
  | true => exact iteT (h1 rfl)
  | false => exact iteF (h2 rfl)
theorem one_lt (a b : Nat) : decide ([a] < [b]) = decide (a < b) := by
  have e : ([a] < [b]) ↔ a < b := by
    constructor
    · intro h
      cases h with
      | rel h => exact h
      | cons h => cases h
    · exact fun h => .rel h
  exact decide_eq_decide.mpr e
/-! ### heaps -/
theorem Same_upd {H H' : Hp} {a : Addr} {o : HO} (s : Same H H') (n : H a = none) : Same H (upd H' a o) := fun b u q => by
  rw [upd_ne (ne_of_none q n)]
  exact s b u q
theorem Same_new {H : Hp} {a : Addr} {o : HO} (n : H a = none) : Same H (upd H a o) := Same_upd (Same.refl H) n
theorem Same_lay {H H' : Hp} {a : Addr} {o : HO} (s : Same H H') (n : H' a = none) : Same H (upd H' a o) := fun b u q => by
  rw [upd_ne (ne_of_none (s b u q) n)]
  exact s b u q
theorem Same_seqT {K : PySem.W.Frag} {H H' : Hp} {a : Addr} {xs : List V} (e : Same H H') (h : SqT K H a xs) : SqT K H' a xs := by
  rcases h with (h | ⟨o, h⟩) | h
  · exact .inl (.inl (e _ _ h))
  · exact .inl (.inr ⟨o, e _ _ h⟩)
  · exact .inr h
/-! ### a comprehension that only lays new objects -/
theorem fm_step {f : Nat → Option V} (i : Nat) : (List.range (i + 1)).filterMap f = (List.range i).filterMap f ++ (match f i with
    | some y => [y]
    | none => []) := by
  rw [List.range_succ, List.filterMap_append]
  congr 1
  cases e : f i with
  | none => simp [e]
  | some y => simp [e]
theorem fm_len {f : Nat → Option V} (i : Nat) : ((List.range i).filterMap f).length ≤ i := by
  have q := List.length_filterMap_le f (List.range i)
  rw [List.length_range] at q
  exact q
section
variable {J : It} {n : Nat} {G : Hp → Prop} {Y : Nat → Hp → V → Hp → Prop}
theorem lc_fm (w : Walk J n G Y) {g : TG} {tt : TT} {te : TE} {vs : List Nat} {σ : L2.St} {H1 : Hp} {D : Addr} {Qd : Hp → Prop} (f : Nat → Option V) (hD : H1 D = none) (hn : n ≤ sizeLine) (hG : ∀ H, Same H1 H → G H)
    (hs : ∀ i x H H' (Kt : VK) (Kf : Hp → Prop), i < n → Same H1 H → Y i H x H' → (∀ y H4, f i = some y → Same H H4 → Kt y H4) → (∀ H4, f i = none → Same H H4 → Kf H4) →
      g x (wipe σ vs) H' fun σ2 H2 => wipe σ2 vs = wipe σ vs ∧ tt σ2 H2 fun b H3 => if b = true then te σ2 H3 Kt else Kf H3)
    (hd : ∀ H, Same H1 H → H D = some (.lst ((List.range n).filterMap f)) → Qd H) :
    ∃ W : Nat → Nat → Hp → Prop, (∃ m, W 0 m (upd H1 D (.lst []))) ∧ ∀ i m H, W i m H →
      (J.stop i H ∧ Qd H) ∨ (J.go i H ∧ ∃ Nx : Hp → Prop, (∀ H', Nx H' → ∃ m', m' < m ∧ W (i + 1) m' H') ∧ ∀ x H', J.yld i H x H' → g x (wipe σ vs) H' fun σ2 H2 => wipe σ2 vs = wipe σ vs ∧ tt σ2 H2 fun b H3 =>
        if b = true then te σ2 H3 fun y H4 => ∃ acc, H4 D = some (.lst acc) ∧ acc.length < sizeLine ∧ Nx (upd H4 D (.lst (acc ++ [y]))) else Nx H3) := by
  refine lc_it w (fun i H => Same H1 H ∧ H D = some (.lst ((List.range i).filterMap f))) ⟨Same_new hD, upd_same⟩ (fun i H _ p => hG H p.1) (fun i x H H' hi p y => ?_) (fun H p => hd H p.1 p.2)
  refine hs i x H H' _ _ hi p.1 y (fun y H4 e s4 => ⟨_, s4 _ _ p.2, Nat.lt_of_le_of_lt (fm_len i) (Nat.lt_of_lt_of_le hi hn), Same_upd (p.1.trans s4) hD, ?_⟩) (fun H4 e s4 => ⟨p.1.trans s4, ?_⟩)
  · rw [upd_same, fm_step, e]
  · rw [fm_step, e, List.append_nil]
    exact s4 _ _ p.2
end
theorem fm_some {α : Type} {l : List α} {g : α → V} {f : Nat → Option V} (h : ∀ i x, l[i]? = some x → f i = some (g x)) : (List.range l.length).filterMap f = l.map g := by
  have key : ∀ k, k ≤ l.length → (List.range k).filterMap f = (l.take k).map g := by
    intro k
    induction k with
    | zero => intro _; rfl
    | succ k ih =>
      intro hk
      have hl : k < l.length := hk
      have e : l[k]? = some l[k] := List.getElem?_eq_getElem hl
      rw [fm_step, ih (Nat.le_of_lt hl), h k _ e, List.take_add_one, e, List.map_append]
      rfl
  have q := key l.length (Nat.le_refl _)
  rw [List.take_length] at q
  exact q
end Jd
namespace Jd
open PySem PySem.Spec PyProof.Rows L2
/-! ### is_name -/
def letterB (c : Nat) : Bool := !decide (c < 97) && !decide (122 < c)
def isName (l : List Nat) : Bool := decide (1 ≤ l.length) && (decide (l.length ≤ 8) && l.all letterB)
def spName : Sp := fun vs H Q _ => ∃ z : Str, vs = [.str z] ∧ z.length ≤ sizeLine ∧ ∀ H', Same H H' → Q (.bl (isName (cd z))) H'
section
variable {P : Program} {w : World} {K : PySem.W.Frag} {mg : Str → Option Value} {base : Heap}
theorem sc_is_name : FnScope ["thing", "letter"] ["thing"] (defScope s_is_name) := ⟨rfl, rfl, rfl, by decide +kernel, rfl, by decide +kernel, by decide +kernel⟩
theorem kit_str : PySem.W.kitOne K (.type "str") (.type "str") = some true := by
  unfold PySem.W.kitOne
  rw [if_pos (by decide)]
theorem ok_is_name (B : Bk K mg) : Df P w K mg base CX0 1 "is_name" ["thing"] spName := by
  obtain ⟨fd, F⟩ := B.F_is_name
  refine ⟨⟨fd, ?_, F.binds fun _ _ _ _ _ _ us hl => match us, hl with | [_], _ => rfl⟩, B.g_is_name, F.kp⟩
  refine F.ok sc_is_name (fun vs H Q E h => ?_) (fun cdv A outer s H vs Q E hr h => ?_)
  · obtain ⟨z, rfl, _⟩ := h
    rfl
  · obtain ⟨z, rfl, hz, k⟩ := h
    refine ⟨_, pss_cons (ps_if (pt_not (pt_val (pe_callB call_isi (by rfl) B.b_isinstance (by decide +kernel) (pa_cons (pv 0) (pa_cons (pe_bltn (by rfl) B.b_str (by decide +kernel) (show RelV (.ty "str") (.type "str") from rfl)) pa_nil))))) (pss_one (ps_ret pe_bl)) pss_nil)
      (pss_one (ps_ret (pe_and (pe_chain op_le op_le pe_int (pe_callB call_len (by rfl) B.b_len (by decide +kernel) (pa_cons (pv 0) pa_nil)) pe_int)
        (pe_one (pe_callB (cr_all rfl) (by rfl) B.b_all (by decide +kernel) (pa_cons (pe_lc (own := [("letter", 1)]) (g := gName 1) (tt := tYes) rfl sc_is_name.nd (pi_str (pv 0)) (blkOk_by (N := ["thing", "letter"]) (sc := defScope s_is_name) (by decide +kernel))
          (fun _ _ _ _ _ => pg_name (i := 1) sc_is_name.nd rfl (Or.inl rfl)) (fun _ _ _ _ _ => pts_nil) (fun _ _ _ _ _ => pe_chain op_le_str op_le_str pe_str (pv 1) pe_str)) pa_nil)))))), ?_⟩
    refine ⟨_, rfl, _, _, _, _, _, rfl, .ty "str", .base (.str z), kit_str, _, rfl, iteF ?_⟩
    refine ⟨_, rfl, _, _, rfl, ⟨hz, rfl⟩, _, _, rfl, rfl, _, rfl, two (fun h1 => ?_) (fun h1 => ⟨_, rfl, iteF ?_⟩)⟩
    · refine ⟨_, _, rfl, rfl, _, rfl, two (fun h2 => ?_) (fun h2 => ?_)⟩
      · refine ⟨_, rfl, _, rfl, fun D hD => lc_fm walk_str (fun i => ((cd z)[i]?).map fun c => V.bl (letterB c)) hD (by rw [← show z.length = z.cps.size from rfl]; exact hz) (fun _ _ => trivial) (fun i x H1 H' Kt Kf hi s1 y kt kf => ?_) (fun H1 s1 hL => ?_)⟩
        · obtain ⟨rfl, c, hc, rfl⟩ := y
          have e : ((cd z)[i]?).map (fun c => V.bl (letterB c)) = some (V.bl (letterB c)) := by rw [cd_at hc]; rfl
          refine ⟨rfl, iteT (B := Kf H') ?_⟩
          refine ⟨_, rfl, _, _, rfl, rfl, _, rfl, two (fun h3 => ⟨_, _, rfl, rfl, ?_⟩) (fun h3 => ?_)⟩
          · have q := kt _ _ e (Same.refl _)
            have h3' : (!decide (([c] : List Nat) < [97])) = true := h3
            rw [one_lt] at h3'
            unfold letterB at q
            rw [h3', Bool.true_and] at q
            show Kt (V.bl (!decide (([122] : List Nat) < [c]))) _
            rw [one_lt]
            exact q
          · have q := kt _ _ e (Same.refl _)
            have h3' : (!decide (([c] : List Nat) < [97])) = false := h3
            rw [one_lt] at h3'
            unfold letterB at q
            rw [h3', Bool.false_and] at q
            exact q
        · refine ⟨_, (cd z).map letterB, rfl, SqL.of (hL.trans ?_), ?_⟩
          · congr 2
            rw [show z.cps.size = (cd z).length from len_cd z]
            rw [fm_some (l := cd z) (g := fun c => V.bl (letterB c)) (fun i c hc => by rw [hc]; rfl), List.map_map]
            rfl
          · have q := k H1 s1
            have h1' : decide (1 ≤ (cd z).length) = true := by
              rw [← h1]
              exact decide_eq_decide.mpr (by rw [len_cd z]; omega)
            have h2' : decide ((cd z).length ≤ 8) = true := by
              rw [← h2]
              exact decide_eq_decide.mpr (by rw [len_cd z]; omega)
            unfold isName at q
            rw [h1', h2', Bool.true_and, Bool.true_and] at q
            rw [List.all_map]
            exact q
      · have q := k H (Same.refl _)
        have h2' : decide ((cd z).length ≤ 8) = false := by
          rw [← h2]
          exact decide_eq_decide.mpr (by rw [len_cd z]; omega)
        unfold isName at q
        rw [h2', Bool.false_and, Bool.and_false] at q
        exact q
    · have q := k H (Same.refl _)
      have h1' : decide (1 ≤ (cd z).length) = false := by
        rw [← h1]
        exact decide_eq_decide.mpr (by rw [len_cd z]; omega)
      unfold isName at q
      rw [h1', Bool.false_and] at q
      exact q
end
end Jd
namespace Jd
open PySem PySem.Spec PyProof.Rows L2
/-! ### _is_modulus, is_field -/
def digitB (c : Nat) : Bool := decide (c ∈ cd "0123456789")
def isMod (z : Str) : Bool := if (inV (.str z) [.str "", .str "1"] || Txt.startswith z "0") = true then false else (cd z).all digitB
def isFieldB (z : Str) : Bool :=
  if (!decide (V.str (Txt.partition z "/").1 = V.str "#") && !isName (cd (Txt.partition z "/").1)) = true then false
  else decide (V.str (Txt.partition z "/").2.1 = V.str "") || isMod (Txt.partition z "/").2.2
theorem part_len (x y : Str) : (Txt.partition x y).1.length ≤ x.length ∧ (Txt.partition x y).2.2.length ≤ x.length := by
  unfold Txt.partition
  split
  · exact ⟨strSub_length_le .., strSub_length_le ..⟩
  · exact ⟨Nat.le_refl _, Nat.zero_le _⟩
def isNum (z : Str) : Bool := if (decide (V.str z = V.str "") || (Txt.startswith z "0" && !decide (V.str z = V.str "0"))) = true then false else (cd z).all digitB
def spNml : Sp := fun vs H Q _ => ∃ z : Str, vs = [.str z] ∧ z.length ≤ sizeLine ∧ ∀ H', Same H H' → Q (.bl (isNum z)) H'
def spField (K : PySem.W.Frag) : Sp := fun vs H Q _ => ∃ x : V, vs = [x] ∧ ((∃ z : Str, x = .str z ∧ z.length ≤ sizeLine ∧ ∀ H', Same H H' → Q (.bl (isFieldB z)) H') ∨
  (∃ t, TyX K H x t ∧ PySem.W.kitOne K t (.type "str") = some false ∧ Q (.bl false) H))
section
variable {P : Program} {w : World} {K : PySem.W.Frag} {mg : Str → Option Value} {base : Heap}
theorem sc_is_num : FnScope ["text", "digit"] ["text"] (defScope s_is_numeral) := ⟨rfl, rfl, rfl, by decide +kernel, rfl, by decide +kernel, by decide +kernel⟩
theorem ok_is_numeral (B : Bk K mg) : Df P w K mg base CX0 1 "is_numeral" ["text"] spNml := by
  obtain ⟨fd, F⟩ := B.F_is_numeral
  obtain ⟨tD, gD⟩ := B.c_DIGITS
  refine ⟨⟨fd, ?_, F.binds fun _ _ _ _ _ _ us hl => match us, hl with | [_], _ => rfl⟩, B.g_is_numeral, F.kp⟩
  refine F.ok sc_is_num (fun vs H Q E h => ?_) (fun cdv A outer s H vs Q E hr h => ?_)
  · obtain ⟨z, rfl, _⟩ := h
    rfl
  · obtain ⟨z, rfl, hz, k⟩ := h
    refine ⟨_, pss_cons (ps_if (PW.pt (pw_or (pt_cmpR op_eq (pv 0) pe_str (nomark _)) (pw_or1 (PW.pt (pw_and (pt_val (pe_m1 PySem.F.slot_str_startswith PySem.F.type_str_startswith mt_startswith (pv 0) pe_str)) (pw_and1 (pt_cmpR op_ne (pv 0) pe_str (nomark _)))))))) (pss_one (ps_ret pe_bl)) pss_nil)
      (pss_one (ps_ret (pe_callB (cr_all rfl) (by rfl) B.b_all (by decide +kernel) (pa_cons (pe_lc (own := [("digit", 1)]) (g := gName 1) (tt := tYes) rfl sc_is_num.nd (pi_str (pv 0)) (blkOk_by (N := ["text", "digit"]) (sc := defScope s_is_numeral) (by decide +kernel))
          (fun _ _ _ _ _ => pg_name (i := 1) sc_is_num.nd rfl (Or.inl rfl)) (fun _ _ _ _ _ => pts_nil) (fun _ _ _ _ _ => pe_cmpR op_in_sign (pv 1) (pe_glob (v := .str "0123456789") rfl gD ⟨_, rfl⟩) rfl)) pa_nil)))), ?_⟩
    have q := k
    unfold isNum at q
    refine ⟨_, rfl, rfl, _, rfl, two (fun h1 => ?_) (fun h1 => ?_)⟩
    · rw [h1, Bool.true_or, if_pos rfl] at q
      exact iteT (q H (Same.refl _))
    · rw [h1, Bool.false_or] at q
      refine ⟨_, rfl, ⟨_, rfl⟩, _, _, rfl, rfl, _, rfl, two (fun h2 => ?_) (fun h2 => ?_)⟩
      · rw [h2, Bool.true_and] at q
        refine ⟨_, rfl, rfl, _, rfl, two (fun h3 => ?_) (fun h3 => ?_)⟩
        · rw [h3, if_pos rfl] at q
          exact q H (Same.refl _)
        · rw [h3, if_neg (by decide)] at q
          refine ⟨_, rfl, _, rfl, fun D hD => lc_fm walk_str (fun i => ((cd z)[i]?).map fun c => V.bl (digitB c)) hD hz (fun _ _ => trivial) (fun i x H1 H' Kt Kf hi s1 y kt kf => ?_) (fun H1 s1 hL => ?_)⟩
          · obtain ⟨rfl, c, hc, rfl⟩ := y
            have e : ((cd z)[i]?).map (fun c => V.bl (digitB c)) = some (V.bl (digitB c)) := by rw [cd_at hc]; rfl
            refine ⟨rfl, iteT (B := Kf H') ?_⟩
            exact ⟨_, rfl, _, _, rfl, rfl, kt _ _ e (Same.refl _)⟩
          · refine ⟨_, (cd z).map digitB, rfl, SqL.of (hL.trans ?_), ?_⟩
            · congr 2
              rw [show z.cps.size = (cd z).length from len_cd z]
              rw [fm_some (l := cd z) (g := fun c => V.bl (digitB c)) (fun i c hc => by rw [hc]; rfl), List.map_map]
              rfl
            · rw [List.all_map]
              exact q _ s1
      · rw [h2, Bool.false_and, if_neg (by decide)] at q
        refine iteF ?_
        refine ⟨_, rfl, _, rfl, fun D hD => lc_fm walk_str (fun i => ((cd z)[i]?).map fun c => V.bl (digitB c)) hD hz (fun _ _ => trivial) (fun i x H1 H' Kt Kf hi s1 y kt kf => ?_) (fun H1 s1 hL => ?_)⟩
        · obtain ⟨rfl, c, hc, rfl⟩ := y
          have e : ((cd z)[i]?).map (fun c => V.bl (digitB c)) = some (V.bl (digitB c)) := by rw [cd_at hc]; rfl
          refine ⟨rfl, iteT (B := Kf H') ?_⟩
          exact ⟨_, rfl, _, _, rfl, rfl, kt _ _ e (Same.refl _)⟩
        · refine ⟨_, (cd z).map digitB, rfl, SqL.of (hL.trans ?_), ?_⟩
          · congr 2
            rw [show z.cps.size = (cd z).length from len_cd z]
            rw [fm_some (l := cd z) (g := fun c => V.bl (digitB c)) (fun i c hc => by rw [hc]; rfl), List.map_map]
            rfl
          · rw [List.all_map]
            exact q _ s1
theorem isMod_num (z : Str) : (isNum z && !inV (.str z) [.str "0", .str "1"]) = isMod z := by
  unfold isNum isMod
  by_cases h0 : z = ""
  · subst h0
    decide +kernel
  by_cases h1 : z = "1"
  · subst h1
    decide +kernel
  by_cases h2 : z = "0"
  · subst h2
    decide +kernel
  have e0 : decide (V.str z = V.str "") = false := decide_eq_false fun e => h0 (by injection e)
  have e2 : decide (V.str z = V.str "0") = false := decide_eq_false fun e => h2 (by injection e)
  have i0 : inV (.str z) [.str "", .str "1"] = false := by
    show ((("" : Str) == z) || ((("1" : Str) == z) || false)) = false
    rw [beq_eq_false_iff_ne.mpr (Ne.symm h0), beq_eq_false_iff_ne.mpr (Ne.symm h1)]
    rfl
  have i1 : inV (.str z) [.str "0", .str "1"] = false := by
    show ((("0" : Str) == z) || ((("1" : Str) == z) || false)) = false
    rw [beq_eq_false_iff_ne.mpr (Ne.symm h2), beq_eq_false_iff_ne.mpr (Ne.symm h1)]
    rfl
  rw [e0, e2, i0, i1, Bool.not_false, Bool.and_true, Bool.and_true]
theorem sc_is_field : FnScope ["thing", "name", "slash", "digits"] ["thing"] (defScope s_is_field) := ⟨rfl, rfl, rfl, by decide +kernel, rfl, by decide +kernel, by decide +kernel⟩
theorem ok_is_field (B : Bk K mg) : Df P w K mg base CX0 2 "is_field" ["thing"] (spField K) := by
  obtain ⟨fd, F⟩ := B.F_is_field
  obtain ⟨fdN, GN, bN⟩ := (ok_is_name (P := P) (w := w) (base := base) B).ex
  obtain ⟨fdM, GM, bM⟩ := (ok_is_numeral (P := P) (w := w) (base := base) B).ex
  have kN := (ok_is_name (P := P) (w := w) (base := base) B).kp
  have kM := (ok_is_numeral (P := P) (w := w) (base := base) B).kp
  refine ⟨⟨fd, ?_, F.binds fun _ _ _ _ _ _ us hl => match us, hl with | [_], _ => rfl⟩, B.g_is_field, F.kp⟩
  refine F.ok sc_is_field (fun vs H Q E h => ?_) (fun cdv A outer s H vs Q E hr h => ?_)
  · obtain ⟨x, rfl, _⟩ := h
    rfl
  · obtain ⟨x, rfl, h⟩ := h
    refine ⟨_, pss_cons (ps_if (pt_not (pt_val (pe_callB call_isi (by rfl) B.b_isinstance (by decide +kernel) (pa_cons (pv 0) (pa_cons (pe_bltn (by rfl) B.b_str (by decide +kernel) (show RelV (.ty "str") (.type "str") from rfl)) pa_nil))))) (pss_one (ps_ret pe_bl)) pss_nil)
      (pss_cons (ps_asg (pe_partition (pv 0) pe_str) (pg_tup (by rfl) (pgs_cons (pg_name (i := 1) sc_is_field.nd rfl (.inl rfl)) (pgs_cons (pg_name (i := 2) sc_is_field.nd rfl (.inl rfl)) (pgs_cons (pg_name (i := 3) sc_is_field.nd rfl (.inl rfl)) pgs_nil)))))
      (pss_cons (ps_if (PW.pt (pw_and (pt_cmpR op_ne (pv 1) pe_str (nomark _)) (pw_and1 (pt_not (pt_val (pe_call GN hr rfl B.g_is_name kN bN .nil pass0 (pa_cons (pv 1) pa_nil))))))) (pss_one (ps_ret pe_bl)) pss_nil)
      (pss_one (ps_ret (pe_or (pe_cmpR op_eq (pv 2) pe_str (nomark _)) (pe_one (pe_and (pe_call GM hr rfl B.g_is_numeral kM bM .nil pass0 (pa_cons (pv 3) pa_nil)) (pe_one (pe_cmpR op_notIn_seq (pv 3) (pe_tup (pa_cons pe_str (pa_cons pe_str pa_nil))) (by rfl)))))))))), ?_⟩
    rcases h with ⟨z, rfl, hz, k⟩ | ⟨t, ht, hk, k⟩
    · refine ⟨_, rfl, _, _, _, _, _, rfl, .ty "str", .base (.str z), kit_str, _, rfl, iteF ?_⟩
      refine ⟨_, rfl, ⟨_, rfl⟩, _, _, rfl, rfl, by decide, hz, fun p hp => ?_⟩
      have s0 : Same H (upd H p (.tup [.str (Txt.partition z "/").1, .str (Txt.partition z "/").2.1, .str (Txt.partition z "/").2.2])) := Same_new hp
      have hl := part_len z "/"
      refine ⟨_, _, rfl, SqT.of upd_same, rfl, _, _, rfl, _, _, rfl, _, _, rfl, rfl, ?_⟩
      have rest : ∀ H', Same H H' → (!decide (V.str (Txt.partition z "/").1 = V.str "#") && !isName (cd (Txt.partition z "/").1)) = false →
          tRet (tOrV (tOp rEq (tVar 2) (tC (.str ""))) (tAndV (tCall spNml [] E0 (tCons (tVar 3) tNil)) (tOp (rIn K true) (tVar 3) (tTup (tCons (tC (.str "0")) (tCons (tC (.str "1")) tNil)))))) { nx := fun _ H' => Q .non H', rt := Q } [some (V.str z), some (V.str (Txt.partition z "/").1), some (V.str (Txt.partition z "/").2.1), some (V.str (Txt.partition z "/").2.2)] H' := by
        intro H' s1 hb
        refine ⟨_, rfl, rfl, _, rfl, two (fun h3 => ?_) (fun h3 => ?_)⟩
        · have q := k H' s1
          unfold isFieldB at q
          rw [if_neg (by rw [hb]; decide), h3, Bool.true_or] at q
          exact q
        · refine ⟨_, rfl, _, rfl, Nat.le_trans hl.2 hz, fun H2 s2 => ⟨_, rfl, two (fun h4 => ?_) (fun h4 => ?_)⟩⟩
          · refine ⟨_, rfl, (by show 2 ≤ sizeLine; decide), fun p hp => ⟨_, _, rfl, .inr (SqT.of upd_same), rfl, rfl, ?_⟩⟩
            have q := k _ ((s1.trans s2).trans (Same_new (o := .tup [.str "0", .str "1"]) hp))
            unfold isFieldB at q
            rw [if_neg (by rw [hb]; decide), h3, Bool.false_or, ← isMod_num, h4, Bool.true_and] at q
            exact q
          · have q := k H2 (s1.trans s2)
            unfold isFieldB at q
            rw [if_neg (by rw [hb]; decide), h3, Bool.false_or, ← isMod_num, h4, Bool.false_and] at q
            exact q
      refine ⟨_, rfl, rfl, _, rfl, two (fun h1 => ?_) (fun h1 => ?_)⟩
      · refine ⟨_, rfl, _, rfl, Nat.le_trans hl.1 hz, fun H1 s1 => ⟨_, rfl, two (fun h2 => ?_) (fun h2 => ?_)⟩⟩
        · have q := k H1 (s0.trans s1)
          unfold isFieldB at q
          rw [if_pos (by rw [h1, h2]; rfl)] at q
          exact q
        · exact rest H1 (s0.trans s1) (by rw [h2, Bool.and_false])
      · exact iteF (rest _ s0 (by rw [h1, Bool.false_and]))
    · refine ⟨_, rfl, _, _, _, _, _, rfl, .ty "str", ht, hk, _, rfl, iteT ?_⟩
      exact k
end
end Jd
namespace Jd
open PySem PySem.Spec PyProof.Rows L2
/-! ### _number_of -/
def dig (c : Nat) : Int := (c : Int) - 48
def numOf (l : List Nat) : Int := l.foldl (fun n c => n * 10 + dig c) 0
theorem int_sign {c : Nat} (h : digitB c = true) : PySem.intText? ⟨#[c]⟩ = some (dig c) := by
  have m : c ∈ [48, 49, 50, 51, 52, 53, 54, 55, 56, 57] := of_decide_eq_true h
  simp only [List.mem_cons, List.not_mem_nil, or_false] at m
  rcases m with rfl | rfl | rfl | rfl | rfl | rfl | rfl | rfl | rfl | rfl <;> decide +kernel
def spNum : Sp := fun vs H Q _ => ∃ z : Str, vs = [.str z] ∧ (cd z).all digitB = true ∧ ∀ H', Same H H' → Q (.int (numOf (cd z))) H'
def spBF (C : Addr) : Sp := fun vs H Q _ => ∃ (a : Addr) (v : V), vs = [.ref a, v] ∧ H a = some (exo a C none) ∧ ∀ dx, H dx = none → dx ≠ a → Q .non (upd (upd H dx (exd dx [("field", v)])) a (exo a C (some dx)))
def fieldName (z : Str) : Str := (Txt.partition z "/").1
def fieldNum (z : Str) : Int := numOf (cd (Txt.partition z "/").2.2)
def spFieldOf (C : Addr) : Sp := fun vs H Q E => ∃ z : Str, vs = [.str z] ∧ z.length ≤ sizeLine ∧
  (isFieldB z = false → ∀ H' d, Same H H' → H' d = some (.xd [("field", .str z)]) → E (.ref C) (some d) H') ∧
  (isFieldB z = true → ∀ H' p, Same H H' → H' p = some (.tup [.str (fieldName z), .int (fieldNum z)]) → Q (.ref p) H')
theorem digits_of_field {z : Str} (h : isFieldB z = true) : (cd (Txt.partition z "/").2.2).all digitB = true := by
  unfold isFieldB at h
  split at h
  · cases h
  · rcases Bool.or_eq_true_iff.mp h with h | h
    · have e : (Txt.partition z "/").2.1 = "" := by
        have q := of_decide_eq_true h
        injection q
      unfold Txt.partition at e ⊢
      split
      · rename_i i _ ho
        rw [ho] at e
        have e' : ("/" : Str) = "" := e
        exact absurd e' (by decide)
      · rfl
    · unfold isMod at h
      split at h
      · cases h
      · exact h
section
variable {P : Program} {w : World} {K : PySem.W.Frag} {mg : Str → Option Value} {base : Heap}
theorem sc_number : FnScope ["digits", "number", "digit"] ["digits"] (defScope s_number_of) := ⟨rfl, rfl, rfl, by decide +kernel, rfl, by decide +kernel, by decide +kernel⟩
theorem num_step {l : List Nat} {i c : Nat} (h : l[i]? = some c) : numOf (l.take (i + 1)) = numOf (l.take i) * 10 + dig c := by
  unfold numOf
  rw [List.take_add_one, h, List.foldl_append]
  rfl
theorem ok_number_of (B : Bk K mg) : Df P w K mg base CX0 1 "number_of" ["digits"] spNum := by
  obtain ⟨fd, F⟩ := B.F_number_of
  refine ⟨⟨fd, ?_, F.binds fun _ _ _ _ _ _ us hl => match us, hl with | [_], _ => rfl⟩, B.g_number_of, F.kp⟩
  refine F.ok sc_number (fun vs H Q E h => ?_) (fun cdv A outer s H vs Q E hr h => ?_)
  · obtain ⟨z, rfl, _⟩ := h
    rfl
  · obtain ⟨z, rfl, hz, k⟩ := h
    refine ⟨_, pss_cons (ps_set (i := 1) sc_number.nd rfl (Or.inl rfl) pe_int)
      (pss_cons (ps_for PassesOwn.never rfl (pi_str (pv 0)) (pg_name (i := 2) sc_number.nd rfl (Or.inl rfl))
        (pss_one (ps_set (i := 1) sc_number.nd rfl (Or.inl rfl) (pe_op op_add (pe_op op_mul (pv 1) pe_int) (pe_callTy call_int_str (by rfl) B.b_int (by decide +kernel) (pa_cons (pv 2) pa_nil))))))
      (pss_one (ps_ret (pv 1)))), ?_⟩
    refine ⟨_, rfl, _, rfl, for_it walk_str (fun i σ H' => ∃ v, σ = [some (.str z), some (.int (numOf ((cd z).take i))), v] ∧ Same H H') ⟨none, rfl, Same.refl _⟩ (fun _ _ _ _ _ => trivial) (fun i x σ H1 H' hi ⟨v, e, s1⟩ y => ?_) (fun σ H1 ⟨v, e, s1⟩ => ?_)⟩
    · obtain ⟨rfl, c, hc, rfl⟩ := y
      subst e
      have hd : digitB c = true := List.all_eq_true.mp hz c (List.mem_of_getElem? (cd_at hc))
      refine ⟨_, rfl, _, _, rfl, rfl, .inr ⟨by decide, by decide⟩, _, rfl, _, _, rfl, int_sign hd, (by show 1 ≤ 640; decide), _, _, rfl, rfl, ?_⟩
      refine ⟨some (.str ⟨#[c]⟩), ?_, s1⟩
      rw [num_step (cd_at hc)]
      rfl
    · subst e
      refine ⟨_, rfl, ?_⟩
      have q := k H1 s1
      rw [← List.take_length (l := cd z)] at q
      exact q
/-! ### BadField's __init__, field_of -/
theorem sc_bf : FnScope ["self", "field"] ["self", "field"] (defScope s_BadField___init__) := ⟨rfl, rfl, rfl, by decide +kernel, rfl, by decide +kernel, by decide +kernel⟩
theorem ok_bf (B : Bk K mg) : ∃ fd, FnOk P w K mg base CX0 1 (He.ma K (He.ga K "BadField") "__init__") fd ["self", "field"] (spBF (He.ga K "BadField")) ∧ Binds K fd ["self", "field"] [] := by
  obtain ⟨fd, F⟩ := B.F_BadField___init
  refine ⟨fd, ?_, F.binds fun _ _ _ _ _ _ us hl => match us, hl with | [_, _], _ => rfl⟩
  refine F.ok sc_bf (fun vs H Q E h => ?_) (fun cdv A outer s H vs Q E hr h => ?_)
  · obtain ⟨a, v, rfl, _⟩ := h
    rfl
  · obtain ⟨a, v, rfl, ha, k⟩ := h
    refine ⟨_, pss_cons (ps_expr (pe_veinit (by rfl) B.b_ValueError (by rfl) (pa_cons (pv 0) (pa_cons (pv 1) pa_nil)))) (pss_one (ps_ost (pv 0) (pv 1))), ?_⟩
    refine ⟨_, rfl, _, rfl, a, _, [v], rfl, (by show 1 ≤ 1000; decide), B.ox_BadField.1, ha, ?_⟩
    exact ⟨_, rfl, _, rfl, a, _, rfl, B.ox_BadField.1, B.nf_BadField_field, .inl ⟨ha, fun dx n ne => k dx n ne⟩⟩
theorem sc_fo : FnScope ["text", "name", "_", "digits"] ["text"] (defScope s_field_of) := ⟨rfl, rfl, rfl, by decide +kernel, rfl, by decide +kernel, by decide +kernel⟩
theorem del_same_of {H : Hp} {a : Addr} {b : Addr} {o : HO} (h : H b = some o) (n : b ≠ a) : del H a b = some o := by rw [del_ne n]; exact h
theorem ok_field_of (B : Bk K mg) : Df P w K mg base (L2.CX P w) 3 "field_of" ["text"] (spFieldOf (He.ga K "BadField")) := by
  obtain ⟨fd, F⟩ := B.F_field_of
  obtain ⟨fdF, GF, bF⟩ := (ok_is_field (P := P) (w := w) (base := base) B).ex
  have kF := (ok_is_field (P := P) (w := w) (base := base) B).kp
  obtain ⟨fdN, GN, bN⟩ := (ok_number_of (P := P) (w := w) (base := base) B).ex
  have kN := (ok_number_of (P := P) (w := w) (base := base) B).kp
  obtain ⟨fdE, GE, bE⟩ := ok_bf (P := P) (w := w) (base := base) B
  obtain ⟨oxc, oi, ot⟩ := B.ox_BadField
  refine ⟨⟨fd, ?_, F.binds fun _ _ _ _ _ _ us hl => match us, hl with | [_], _ => rfl⟩, B.g_field_of, F.kp⟩
  refine F.okX sc_fo (fun vs H Q E h => ?_) (fun cdv A outer s H vs Q E hr h => ?_)
  · obtain ⟨x, rfl, _⟩ := h
    rfl
  · obtain ⟨z, rfl, hz, kE, kQ⟩ := h
    have hr1 : Room 1 _ := hr.mono (by decide)
    refine ⟨_, pss_cons (ps_if (pt_not (pt_val (pe_call GF hr rfl B.g_is_field kF bF .nil pass0 (pa_cons (pv 0) pa_nil)))) (pss_one (ps_raise rfl (takes_of rfl rfl rfl rfl) (pmk_oex oxc oi ot GE hr bE .nil pass0 (by rfl) B.g_BadField (pa_cons (pv 0) pa_nil)))) pss_nil)
      (pss_cons (ps_asg (pe_partition (pv 0) pe_str) (pg_tup (by rfl) (pgs_cons (pg_name (i := 1) sc_fo.nd rfl (.inl rfl)) (pgs_cons (pg_name (i := 2) sc_fo.nd rfl (.inl rfl)) (pgs_cons (pg_name (i := 3) sc_fo.nd rfl (.inl rfl)) pgs_nil)))))
      (pss_one (ps_ret (pe_tup (pa_cons (pv 1) (pa_cons (pe_call GN hr1 rfl B.g_number_of kN bN .nil pass0 (pa_cons (pv 3) pa_nil)) pa_nil)))))), ?_⟩
    refine ⟨_, rfl, _, rfl, .inl ⟨z, rfl, hz, fun H1 s1 => ⟨_, rfl, two (fun h1 => ?_) (fun h1 => ?_)⟩⟩⟩
    · have hf : isFieldB z = false := by
        cases e : isFieldB z with
        | false => rfl
        | true => rw [e] at h1; cases h1
      refine ⟨_, rfl, (by show 1 ≤ 1000; decide), fun a na => ⟨a, _, rfl, upd_same, fun dx nd ne => ⟨rfl, dx, [("field", .str z)], upd_same, ?_, ?_, ?_⟩⟩⟩
      · rw [upd_ne ne, upd_same]
      · rw [upd_ne ne] at nd
        exact nd
      · have nd' : H1 dx = none := by
          rw [upd_ne ne] at nd
          exact nd
        refine kE hf _ dx (fun b o q => ?_) upd_same
        have q1 := s1 b o q
        have nb : b ≠ a := ne_of_none q1 na
        rw [upd_ne (ne_of_none q1 nd'), del_ne nb, upd_ne nb, upd_ne (ne_of_none q1 nd'), upd_ne nb]
        exact q1
    · have hf : isFieldB z = true := by
        cases e : isFieldB z with
        | true => rfl
        | false => rw [e] at h1; cases h1
      refine ⟨_, rfl, ⟨_, rfl⟩, _, _, rfl, rfl, by decide, hz, fun p hp => ?_⟩
      have s2 : Same H1 (upd H1 p (.tup [.str (Txt.partition z "/").1, .str (Txt.partition z "/").2.1, .str (Txt.partition z "/").2.2])) := Same_new hp
      refine ⟨_, _, rfl, SqT.of upd_same, rfl, _, _, rfl, _, _, rfl, _, _, rfl, rfl, ?_⟩
      refine ⟨_, rfl, _, rfl, _, rfl, digits_of_field hf, fun H3 s3 => ⟨(by show 2 ≤ sizeLine; decide), fun t ht => ?_⟩⟩
      exact kQ hf _ t (((s1.trans s2).trans s3).trans (Same_new ht)) upd_same
end
end Jd
namespace Jd
open PySem PySem.Spec PyProof.Rows L2
/-! ### _digits_of, field_text -/
theorem int_eq {a b : Int} : decide (V.int a = V.int b) = decide (a = b) := decide_eq_decide.mpr ⟨fun e => by injection e, fun e => by rw [e]⟩
def iV (n : Nat) : V := .int (n : Int)
def zf60 (n : Nat) : Str := Txt.zfill (toString (n : Int)) 60
def dig60 (n : Nat) : Str := Txt.lstripChars (zf60 n ++ Str.empty) "0"
/-- what a number must be for _digits_of -/
def numOk (n : Nat) : Prop := 0 < n ∧ n < 1000000000000000000 ∧ (zf60 n ++ Str.empty).length ≤ 1000 ∧ (zf60 n).length ≤ 1000 ∧ ((dig60 n).length ≤ 1000 ∧ (dig60 n).length ≠ 0)
def spDig : Sp := fun vs H Q _ => ∃ n : Nat, vs = [iV n] ∧ numOk n ∧ ∀ H', Same H H' → Q (.str (dig60 n)) H'
def ftext (name : Str) (n : Nat) : Str := Str.empty ++ name ++ "/" ++ dig60 n
def spFt : Sp := fun vs H Q _ => ∃ (name : Str) (n : Nat), vs = [.str name, iV n] ∧ numOk n ∧ name.length ≤ 1000 ∧ ∀ H', Same H H' → Q (.str (ftext name n)) H'
theorem app_len (a b : Str) : (a ++ b).length = a.length + b.length := by
  show (a.cps ++ b.cps).size = a.cps.size + b.cps.size
  exact Array.size_append
theorem log_ok {n : Nat} (h : n < 1000000000000000000) : (n : Int).natAbs.log2 < 1920 := by
  have e : (n : Int).natAbs = n := by omega
  rw [e]
  by_cases h0 : n = 0
  · subst h0
    decide
  · have q : n.log2 < 60 := (Nat.log2_lt h0).mpr (by omega)
    omega
section
variable {P : Program} {w : World} {K : PySem.W.Frag} {mg : Str → Option Value} {base : Heap}
theorem sc_dig : FnScope ["number", "digits", "rest", "piece"] ["number"] (defScope s_written) := ⟨rfl, rfl, rfl, by decide +kernel, rfl, by decide +kernel, by decide +kernel⟩
theorem ok_written (B : Bk K mg) : Df P w K mg base CX0 1 "written" ["number"] spDig := by
  obtain ⟨fd, F⟩ := B.F_written
  refine ⟨⟨fd, ?_, F.binds fun _ _ _ _ _ _ us hl => match us, hl with | [_], _ => rfl⟩, B.g_written, F.kp⟩
  refine F.ok sc_dig (fun vs H Q E h => ?_) (fun cdv A outer s H vs Q E hr h => ?_)
  · obtain ⟨n, rfl, _⟩ := h
    rfl
  · obtain ⟨n, rfl, ⟨hn, hb, hl, hl2, hl3, hl4⟩, k⟩ := h
    refine ⟨_, pss_cons (ps_set (i := 1) sc_dig.nd rfl (Or.inl rfl) pe_str)
      (pss_cons (ps_set (i := 2) sc_dig.nd rfl (Or.inl rfl) (pe_callB call_abs (by rfl) B.b_abs (by decide +kernel) (pa_cons (pv 0) pa_nil)))
      (pss_cons (ps_while PassesOwn.never (pt_cmpR op_gt (pv 2) pe_int (nomark _))
        (pss_cons (ps_asg (pe_callB call_divmodW (by rfl) B.b_divmod (by decide +kernel) (pa_cons (pv 2) (pa_cons (pe_op op_pow pe_int pe_int) pa_nil))) (pg_tup (by rfl) (pgs_cons (pg_name (i := 2) sc_dig.nd rfl (.inl rfl)) (pgs_cons (pg_name (i := 3) sc_dig.nd rfl (.inl rfl)) pgs_nil))))
        (pss_one (ps_set (i := 1) sc_dig.nd rfl (Or.inl rfl) (pe_op op_add_str (pe_m1 PySem.F.slot_str_zfill PySem.F.type_str_zfill mt_zfill (pe_callTy call_str_int (by rfl) B.b_str (by decide +kernel) (pa_cons (pv 3) pa_nil)) pe_int) (pv 1))))))
      (pss_cons (ps_set (i := 1) sc_dig.nd rfl (Or.inl rfl) (pe_orT (pe_m1 PySem.F.slot_str_lstrip PySem.F.type_str_lstrip mt_lstripChars (pv 1) pe_str) (pe_one pe_str)))
      (pss_one (ps_ret (pe_ifExp (pt_cmpR op_lt (pv 0) pe_int (nomark _)) (pe_op op_add_str pe_str (pv 1)) (pv 1))))))), ?_⟩
    have ea : (if (n : Int) < 0 then -(n : Int) else (n : Int)) = (n : Int) := if_neg (by omega)
    refine ⟨_, rfl, _, rfl, ?_⟩
    rw [ea]
    refine ⟨fun m σ H' => (m = 1 ∧ σ = [some (iV n), some (.str ""), some (iV n), none] ∧ Same H H') ∨ (m = 0 ∧ σ = [some (iV n), some (.str (zf60 n ++ Str.empty)), some (.int 0), some (iV n)] ∧ Same H H'), ⟨1, .inl ⟨rfl, rfl, Same.refl _⟩⟩, ?_⟩
    rintro m σ H1 (⟨rfl, rfl, s1⟩ | ⟨rfl, rfl, s1⟩)
    · refine ⟨_, rfl, _, _, rfl, rfl, _, rfl, ?_⟩
      have c1 : decide ((0 : Int) < (n : Int)) = true := decide_eq_true (by omega)
      show if decide ((0 : Int) < (n : Int)) = true then _ else _
      rw [c1]
      refine iteT ?_
      refine ⟨fun σ' H' => (0 = 0 ∧ σ' = [some (iV n), some (.str (zf60 n ++ Str.empty)), some (.int 0), some (iV n)] ∧ Same H H'), fun σ' H' q => ⟨0, by omega, .inr q⟩, ?_⟩
      have hbits : Builtin.Int.intBits (n : Int) ≤ 60 := intBits_le_iff.mpr (by omega)
      refine ⟨_, rfl, _, _, rfl, rfl, ⟨by decide, by decide, by decide⟩, _, _, rfl, divp_ok (by decide) (Nat.le_trans hbits (Nat.le_trans (by decide) (Nat.le_add_left _ _))), fun p hp => ?_⟩
      have e1 : (n : Int) / (10 : Int) ^ (60 : Int).toNat = 0 := Int.ediv_eq_zero_of_lt (by omega) (by
        have q : (1000000000000000000 : Int) ≤ 10 ^ (60 : Int).toNat := by decide
        omega)
      have e2 : (n : Int) % (10 : Int) ^ (60 : Int).toNat = (n : Int) := Int.emod_eq_of_lt (by omega) (by
        have q : (1000000000000000000 : Int) ≤ 10 ^ (60 : Int).toNat := by decide
        omega)
      refine ⟨_, _, rfl, SqT.of upd_same, rfl, _, _, rfl, _, _, rfl, rfl, ?_⟩
      refine ⟨_, rfl, _, rfl, by (show ((n : Int) % (10 : Int) ^ (60 : Int).toNat).natAbs.log2 < 1920); rw [e2]; exact log_ok hb, ⟨_, rfl⟩, _, _, rfl, rfl, rfl, _, rfl, _, _, rfl, rfl, ?_, rfl, ?_, Same_upd s1 (s1.free hp)⟩
      · show (Txt.zfill (toString ((n : Int) % (10 : Int) ^ (60 : Int).toNat)) 60).length + ("" : Str).length ≤ sizeLine
        rw [e2]
        exact Nat.le_trans (Nat.add_le_add hl2 (Nat.le_refl _)) (by decide)
      · show [some (iV n), some (V.str (Txt.zfill (toString ((n : Int) % (10 : Int) ^ (60 : Int).toNat)) 60 ++ "")), some (V.int ((n : Int) / (10 : Int) ^ (60 : Int).toNat)), some (V.int ((n : Int) % (10 : Int) ^ (60 : Int).toNat))] = _
        rw [e1, e2]
        rfl
    · refine ⟨_, rfl, _, _, rfl, rfl, _, rfl, iteF ?_⟩
      refine ⟨_, rfl, ⟨_, rfl⟩, _, _, rfl, rfl, Nat.le_trans hl (by decide), true, ⟨Nat.le_trans hl3 (by decide), (bne_iff_ne.mpr (by intro e; exact hl4 (by exact_mod_cast e))).symm⟩, ?_⟩
      refine ⟨_, rfl, _, _, rfl, rfl, _, rfl, ?_⟩
      have c2 : decide ((n : Int) < 0) = false := decide_eq_false (by omega)
      show if decide ((n : Int) < 0) = true then _ else _
      rw [c2]
      exact iteF ⟨_, rfl, k H1 s1⟩
theorem sc_ft : FnScope ["name", "m"] ["name", "m"] (defScope s_field_text) := ⟨rfl, rfl, rfl, by decide +kernel, rfl, by decide +kernel, by decide +kernel⟩
theorem ok_field_text (B : Bk K mg) : Df P w K mg base CX0 2 "field_text" ["name", "m"] spFt := by
  obtain ⟨fd, F⟩ := B.F_field_text
  obtain ⟨fdD, GD, bD⟩ := (ok_written (P := P) (w := w) (base := base) B).ex
  have kD := (ok_written (P := P) (w := w) (base := base) B).kp
  refine ⟨⟨fd, ?_, F.binds fun _ _ _ _ _ _ us hl => match us, hl with | [_, _], _ => rfl⟩, B.g_field_text, F.kp⟩
  refine F.ok sc_ft (fun vs H Q E h => ?_) (fun cdv A outer s H vs Q E hr h => ?_)
  · obtain ⟨name, n, rfl, _⟩ := h
    rfl
  · obtain ⟨name, n, rfl, hn, hl, k⟩ := h
    refine ⟨_, pss_cons (ps_if (pt_cmpR op_eq (pv 1) pe_int (nomark _)) (pss_one (ps_ret (pv 0))) pss_nil)
      (pss_one (ps_ret (pe_joined (.cons (pe_fmt (pv 0)) (.cons pe_str (.cons (pe_fmt (pe_call GD hr rfl B.g_written kD bD .nil pass0 (pa_cons (pv 1) pa_nil))) .nil)))))), ?_⟩
    refine ⟨_, rfl, rfl, _, rfl, ?_⟩
    have c1 : decide (V.int (n : Int) = V.int 0) = false := by
      rw [int_eq]
      exact decide_eq_false (by have := hn.1; omega)
    show if decide (V.int (n : Int) = V.int 0) = true then _ else _
    rw [c1]
    refine iteF ?_
    have z1 : (Str.empty ++ name).length ≤ 1000 := by rw [app_len]; show 0 + name.length ≤ 1000; omega
    have z2 : (Str.empty ++ name ++ "/").length ≤ 1001 := by rw [app_len]; exact Nat.add_le_add z1 (Nat.le_refl 1)
    refine ⟨_, rfl, .inl ⟨_, rfl, Nat.le_trans hl (by decide), _, rfl, Nat.le_trans z1 (by decide), _, rfl, Nat.le_trans z2 (by decide), ?_⟩⟩
    refine ⟨_, rfl, n, rfl, hn, fun H1 s1 => .inl ⟨_, rfl, Nat.le_trans hn.2.2.2.2.1 (by decide), _, rfl, ?_, k H1 s1⟩⟩
    rw [app_len]
    exact Nat.le_trans (Nat.add_le_add z2 hn.2.2.2.2.1) (by decide)
end
end Jd
namespace Jd
open PySem PySem.Spec PyProof.Rows L2
/-! ### lists and tuples alike -/
def Sq (K : PySem.W.Frag) (H : Hp) (a : Addr) (xs : List V) : Prop := SqL K H a xs ∨ SqT K H a xs
theorem sm_seqT {K : PySem.W.Frag} {H H' : Hp} {a : Addr} {xs : List V} (e : ∀ b o, H b = some o → H' b = some o) (h : SqT K H a xs) : SqT K H' a xs := by
  rcases h with (h | ⟨o, h⟩) | h
  · exact .inl (.inl (e _ _ h))
  · exact .inl (.inr ⟨o, e _ _ h⟩)
  · exact .inr h
theorem sm_seqL {K : PySem.W.Frag} {H H' : Hp} {a : Addr} {xs : List V} (e : ∀ b o, H b = some o → H' b = some o) (h : SqL K H a xs) : SqL K H' a xs := by
  rcases h with (h | ⟨o, h⟩) | h
  · exact .inl (.inl (e _ _ h))
  · exact .inl (.inr ⟨o, e _ _ h⟩)
  · exact .inr h
theorem Sq.same {K : PySem.W.Frag} {H H' : Hp} {a : Addr} {xs : List V} (e : ∀ b o, H b = some o → H' b = some o) (h : Sq K H a xs) : Sq K H' a xs := h.elim (fun h => .inl (sm_seqL e h)) fun h => .inr (sm_seqT e h)
/-- all but the instance at u is as it was -/
theorem Sq.keep {K : PySem.W.Frag} {u : Addr} {H H' : Hp} {a : Addr} {xs : List V} {C dx : Addr} {fs : List (Str × V)} (hu : H u = some (.ins C dx fs)) (k : ∀ b o, b ≠ u → H b = some o → H' b = some o) (h : Sq K H a xs) : Sq K H' a xs := by
  rcases h with ((h | ⟨o, h⟩) | h) | ((h | ⟨o, h⟩) | h)
  · exact .inl (.inl (.inl (k _ _ (ne_of h hu (by intro z; cases z)) h)))
  · exact .inl (.inl (.inr ⟨o, k _ _ (ne_of h hu (by intro z; cases z)) h⟩))
  · exact .inl (.inr h)
  · exact .inr (.inl (.inl (k _ _ (ne_of h hu (by intro z; cases z)) h)))
  · exact .inr (.inl (.inr ⟨o, k _ _ (ne_of h hu (by intro z; cases z)) h⟩))
  · exact .inr (.inr h)
/-- a list or a tuple, walked -/
def iSq (K : PySem.W.Frag) (te : TE) : TI := fun σ H R => te σ H fun x H1 => ∃ (a : Addr) (xs : List V), x = .ref a ∧ Sq K H1 a xs ∧
  ∀ (J : It) (G : Hp → Prop), Walk J xs.length G (YAt xs) → (∀ H', (∀ b o, H1 b = some o → H' b = some o) → G H') → R J H1
section
variable {X : Cx} {tg : Expr}
theorem pi_seq {l : Expr} {te : TE} (hl : PE X l te) : PI X tg l (iSq X.K te) := by
  refine ⟨fun pins s σ H R I h => ?_⟩
  refine thn (hl.run pins s σ H _ I h) fun v s1 ⟨x, H1, I1, r1, q1⟩ => ?_
  obtain ⟨a, xs, e, hq, q⟩ := q1
  subst e
  cases r1
  rcases hq with hq | hq
  · obtain ⟨its, rv, p, hz⟩ := I1.list hq
    refine wpAny_pyIter_list p.isList ?_
    refine ⟨s1.heap.objs.size, [s1.heap.objs.size], _, _, H1, rfl, I1.kept (t' := s1.toks) fun b o e => Heap.get?_push_of_some _ e, turn_list a _, ⟨_, Heap.get?_push_size _ rfl, rfl, rfl⟩, fun b hb => ?_,
      q (Itl X.K a) _ walk_list fun H' e => sm_seqL e hq⟩
    have e : b = s1.heap.objs.size := by simpa using hb
    subst e
    exact I1.fpOk (Nat.le_refl _) (I1.hok.fresh (Nat.le_refl _))
  · obtain ⟨its, rv, p, hz⟩ := I1.tuple hq
    refine wpAny_pyIter_tuple (show s1.heap.IsTuple a its.toArray from p) ?_
    refine ⟨s1.heap.objs.size, [s1.heap.objs.size], _, _, H1, rfl, I1.kept (t' := s1.toks) fun b o e => Heap.get?_push_of_some _ e, turn_tuple a _, ⟨_, Heap.get?_push_size _ rfl, rfl, rfl⟩, fun b hb => ?_,
      q (Itt X.K a) _ walk_tup fun H' e => sm_seqT e hq⟩
    have e : b = s1.heap.objs.size := by simpa using hb
    subst e
    exact I1.fpOk (Nat.le_refl _) (I1.hok.fresh (Nat.le_refl _))
/-- unpacked, a list or a tuple -/
def gSq (K : PySem.W.Frag) (n : Nat) (t : TGs) : TG := fun v σ H Q => ∃ (a : Addr) (xs : List V), v = .ref a ∧ Sq K H a xs ∧ xs.length = n ∧ t xs σ H Q
theorem pg_sq {es : List Expr} {kk : Nat} {pos : Pos} {n : Nat} {t : TGs} (h1 : PG X (.Tuple es kk pos) (gTup X.K n t)) (h2 : PG X (.Tuple es kk pos) (gLst X.K n t)) : PG X (.Tuple es kk pos) (gSq X.K n t) := by
  refine ⟨fun pins s σ H v u Q I r h => ?_⟩
  obtain ⟨a, xs, e, hq, hl, q⟩ := h
  rcases hq with hq | hq
  · exact h2.run pins s σ H v u Q I r ⟨a, xs, e, hq, hl, q⟩
  · exact h1.run pins s σ H v u Q I r ⟨a, xs, e, hq, hl, q⟩
end
end Jd
namespace Jd
/-! ### what follows from tellings -/
section
variable {α : Type} [DecidableEq α]
/-- reached by pairs, what lies between being among M -/
inductive Via (R : List (α × α)) (M : List α) : α → α → Prop
  | one {a b : α} : (a, b) ∈ R → Via R M a b
  | two {a m b : α} : Via R M a m → m ∈ M → Via R M m b → Via R M a b
theorem Via.mono {R : List (α × α)} {M M' : List α} (h : ∀ x, x ∈ M → x ∈ M') {a b : α} (v : Via R M a b) : Via R M' a b := by
  induction v with
  | one q => exact .one q
  | two _ m _ ih1 ih2 => exact .two ih1 (h _ m) ih2
theorem via_step {R : List (α × α)} {M : List α} {m a b : α} : Via R (M ++ [m]) a b ↔ Via R M a b ∨ (Via R M a m ∧ Via R M m b) := by
  constructor
  · intro v
    induction v with
    | one q => exact .inl (.one q)
    | @two a k b _ hk _ ih1 ih2 =>
      have hk' : k ∈ M ∨ k = m := by
        rcases List.mem_append.mp hk with h | h
        · exact .inl h
        · exact .inr (List.mem_singleton.mp h)
      rcases ih1 with l1 | ⟨l1, l2⟩
      · rcases ih2 with r1 | ⟨r1, r2⟩
        · rcases hk' with h | h
          · exact .inl (.two l1 h r1)
          · exact .inr ⟨h ▸ l1, h ▸ r1⟩
        · rcases hk' with h | h
          · exact .inr ⟨.two l1 h r1, r2⟩
          · exact .inr ⟨h ▸ l1, r2⟩
      · rcases ih2 with r1 | ⟨r1, r2⟩
        · rcases hk' with h | h
          · exact .inr ⟨l1, .two l2 h r1⟩
          · exact .inr ⟨l1, h ▸ r1⟩
        · exact .inr ⟨l1, r2⟩
  · have up : ∀ x, x ∈ M → x ∈ M ++ [m] := fun x h => List.mem_append.mpr (.inl h)
    rintro (v | ⟨v1, v2⟩)
    · exact v.mono up
    · exact .two (v1.mono up) (List.mem_append.mpr (.inr (List.mem_singleton.mpr rfl))) (v2.mono up)
/-- the table at the start: what is told at once -/
def tab0 (R : List (α × α)) (a : α) : List α := (R.filter fun p => decide (p.1 = a)).map (·.2)
theorem tab0_in {R : List (α × α)} {a b : α} : b ∈ tab0 R a ↔ (a, b) ∈ R := by
  unfold tab0
  constructor
  · intro h
    obtain ⟨⟨x, y⟩, hp, e⟩ := List.mem_map.mp h
    obtain ⟨h1, h2⟩ := List.mem_filter.mp hp
    have e1 : x = a := of_decide_eq_true h2
    have e2 : y = b := e
    exact e1 ▸ e2 ▸ h1
  · intro h
    exact List.mem_map.mpr ⟨(a, b), List.mem_filter.mpr ⟨h, decide_eq_true rfl⟩, rfl⟩
/-- one pass for one name in the middle -/
def passT (T : α → List α) (m a : α) : List α := if m ∈ T a then T a ++ (T m).filter (fun o => decide (o ∉ T a)) else T a
theorem filter_none {l : List α} : l.filter (fun o => decide (o ∉ l)) = [] := by
  rw [List.filter_eq_nil_iff]
  intro x hx h
  exact of_decide_eq_true h hx
theorem passT_self (T : α → List α) (m : α) : passT T m m = T m := by
  unfold passT
  rw [filter_none, List.append_nil]
  split <;> rfl
theorem passT_in {T : α → List α} {m a b : α} : b ∈ passT T m a ↔ b ∈ T a ∨ (m ∈ T a ∧ b ∈ T m) := by
  unfold passT
  split
  · rename_i h
    constructor
    · intro q
      rcases List.mem_append.mp q with q | q
      · exact .inl q
      · exact .inr ⟨h, (List.mem_filter.mp q).1⟩
    · rintro (q | ⟨_, q⟩)
      · exact List.mem_append.mpr (.inl q)
      · by_cases hb : b ∈ T a
        · exact List.mem_append.mpr (.inl hb)
        · exact List.mem_append.mpr (.inr (List.mem_filter.mpr ⟨q, decide_eq_true hb⟩))
  · rename_i h
    exact ⟨.inl, fun q => q.elim id fun q => absurd q.1 h⟩
theorem passT_len {T : α → List α} {m : α} {n : Nat} (h : ∀ a, (T a).length ≤ n) (a : α) : (passT T m a).length ≤ 2 * n := by
  unfold passT
  split
  · rw [List.length_append]
    have h1 := h a
    have h2 := h m
    have h3 := List.length_filter_le (fun o => decide (o ∉ T a)) (T m)
    omega
  · have h1 := h a
    omega
def closeT (R : List (α × α)) (ns : List α) : α → List α := ns.foldl (fun T m => passT T m) (tab0 R)
theorem close_via (R : List (α × α)) : ∀ (ns M : List α) (T : α → List α), (∀ a b, b ∈ T a ↔ Via R M a b) → ∀ a b, b ∈ (ns.foldl (fun T m => passT T m) T) a ↔ Via R (M ++ ns) a b
  | [], M, T, h, a, b => by rw [List.append_nil]; exact h a b
  | m :: ns, M, T, h, a, b => by
    have q := close_via R ns (M ++ [m]) (passT T m) (fun a b => by rw [passT_in, via_step, h, h, h]) a b
    rw [List.append_assoc] at q
    exact q
theorem via_nil {R : List (α × α)} {a b : α} : Via R [] a b ↔ (a, b) ∈ R := by
  constructor
  · intro v
    cases v with
    | one q => exact q
    | two _ h _ => cases h
  · exact .one
theorem close_in {R : List (α × α)} {ns : List α} {a b : α} : b ∈ closeT R ns a ↔ Via R ns a b := by
  have q := close_via R ns [] (tab0 R) (fun a b => by rw [tab0_in, via_nil]) a b
  rw [List.nil_append] at q
  exact q
theorem tab0_len (R : List (α × α)) (a : α) : (tab0 R a).length ≤ R.length := by
  unfold tab0
  rw [List.length_map]
  exact List.length_filter_le _ _
theorem close_len (R : List (α × α)) : ∀ (ns : List α) (T : α → List α) (n : Nat), (∀ a, (T a).length ≤ n) → ∀ a, ((ns.foldl (fun T m => passT T m) T) a).length ≤ 2 ^ ns.length * n
  | [], T, n, h, a => by simpa using h a
  | m :: ns, T, n, h, a => by
    have q := close_len R ns (passT T m) (2 * n) (passT_len h) a
    rw [List.length_cons, Nat.pow_succ, Nat.mul_assoc]
    exact q
/-- what a name tells, in the order of the names -/
def toldOf (R : List (α × α)) (ns : List α) (a : α) : List α := ns.filter fun b => decide (b ∈ closeT R ns a)
theorem told_in {R : List (α × α)} {ns : List α} {a b : α} : b ∈ toldOf R ns a ↔ b ∈ ns ∧ Via R ns a b := by
  unfold toldOf
  rw [List.mem_filter]
  constructor
  · rintro ⟨h1, h2⟩
    exact ⟨h1, close_in.mp (of_decide_eq_true h2)⟩
  · rintro ⟨h1, h2⟩
    exact ⟨h1, decide_eq_true (close_in.mpr h2)⟩
/-! steps one behind the other -/
inductive Steps (R : List (α × α)) : Nat → α → α → Prop
  | one {a b : α} : (a, b) ∈ R → Steps R 1 a b
  | more {a m b : α} {k : Nat} : (a, m) ∈ R → Steps R k m b → Steps R (k + 1) a b
theorem Steps.app {R : List (α × α)} {k l : Nat} {a m b : α} (h : Steps R k a m) (g : Steps R l m b) : Steps R (k + l) a b := by
  induction h with
  | one q => rw [Nat.add_comm]; exact .more q g
  | more q _ ih =>
    rw [Nat.add_right_comm]
    exact .more q (ih g)
theorem via_steps {R : List (α × α)} {M : List α} {a b : α} (v : Via R M a b) : ∃ k, Steps R k a b := by
  induction v with
  | one q => exact ⟨1, .one q⟩
  | two _ _ _ ih1 ih2 =>
    obtain ⟨k, h⟩ := ih1
    obtain ⟨l, g⟩ := ih2
    exact ⟨k + l, h.app g⟩
theorem steps_via {R : List (α × α)} {M : List α} (hM : ∀ p ∈ R, p.2 ∈ M) {k : Nat} {a b : α} (h : Steps R k a b) : Via R M a b := by
  induction h with
  | one q => exact .one q
  | more q _ ih => exact .two (.one q) (hM _ q) ih
theorem steps_rank {R : List (α × α)} {rk : α → Nat} (hr : ∀ p ∈ R, rk p.1 < rk p.2) {k : Nat} {a b : α} (h : Steps R k a b) : rk a + k ≤ rk b := by
  induction h with
  | one q => exact hr _ q
  | more q _ ih =>
    have := hr _ q
    dsimp only at this
    omega
theorem via_pos {R : List (α × α)} {k : Nat} {a b : α} (h : Steps R k a b) : 1 ≤ k := by
  cases h <;> omega
/-- without a ring nobody tells itself -/
theorem no_ring {R : List (α × α)} {M : List α} {rk : α → Nat} (hr : ∀ p ∈ R, rk p.1 < rk p.2) (a : α) : ¬ Via R M a a := fun v => by
  obtain ⟨k, h⟩ := via_steps v
  have h1 := steps_rank hr h
  have h2 := via_pos h
  omega
theorem via_any {R : List (α × α)} {M M' : List α} (hM : ∀ p ∈ R, p.2 ∈ M') {a b : α} (v : Via R M a b) : Via R M' a b := by
  obtain ⟨k, h⟩ := via_steps v
  exact steps_via hM h
/-! the law's own table -/
def updT (T : α → List α) (o : α) (l : List α) : α → List α := fun a => if a = o then l else T a
/-- one far name for one own -/
def farT (o : α) (T : α → List α) (far : α) : α → List α := updT T o (T o ++ (T far).filter fun b => decide (b ∉ T o))
def ownT (T : α → List α) (o : α) : α → List α := (T o).foldl (farT o) T
def roundT (ns : List α) (T : α → List α) : α → List α := ns.foldl ownT T
def lawT (R : List (α × α)) (ns : List α) (k : Nat) : α → List α := (List.range k).foldl (fun T _ => roundT ns T) (tab0 R)
def lawTold (R : List (α × α)) (ns : List α) (a : α) : List α := ns.filter fun b => decide (b ∈ lawT R ns ns.length a)
theorem farT_ne {o a : α} {T : α → List α} {far : α} (h : a ≠ o) : farT o T far a = T a := if_neg h
theorem farT_in {o : α} {T : α → List α} {far b : α} : b ∈ farT o T far o ↔ b ∈ T o ∨ b ∈ T far := by
  show b ∈ (if o = o then _ else _) ↔ _
  rw [if_pos rfl, List.mem_append]
  constructor
  · rintro (h | h)
    · exact .inl h
    · exact .inr (List.mem_filter.mp h).1
  · rintro (h | h)
    · exact .inl h
    · by_cases q : b ∈ T o
      · exact .inl q
      · exact .inr (List.mem_filter.mpr ⟨h, decide_eq_true q⟩)
theorem farT_up {o : α} {T : α → List α} {far a b : α} (h : b ∈ T a) : b ∈ farT o T far a := by
  by_cases e : a = o
  · subst e
    exact farT_in.mpr (.inl h)
  · rw [farT_ne e]
    exact h
theorem fars_up {o : α} : ∀ (l : List α) {T : α → List α} {a b : α}, b ∈ T a → b ∈ (l.foldl (farT o) T) a
  | [], _, _, _, h => h
  | f :: l, T, a, b, h => fars_up l (farT_up h)
theorem fars_ne {o a : α} (h : a ≠ o) : ∀ (l : List α) {T : α → List α}, (l.foldl (farT o) T) a = T a
  | [], _ => rfl
  | f :: l, T => by
    show (l.foldl (farT o) (farT o T f)) a = T a
    rw [fars_ne h l, farT_ne h]
theorem fars_all {o : α} : ∀ (l : List α) {T : α → List α} {far b : α}, far ∈ l → b ∈ T far → b ∈ (l.foldl (farT o) T) o
  | [], _, _, _, h, _ => by cases h
  | f :: l, T, far, b, h, hb => by
    show b ∈ (l.foldl (farT o) (farT o T f)) o
    rcases List.mem_cons.mp h with e | h
    · subst e
      exact fars_up l (farT_in.mpr (.inr hb))
    · exact fars_all l h (farT_up hb)
theorem ownT_up {o a b : α} {T : α → List α} (h : b ∈ T a) : b ∈ ownT T o a := fars_up _ h
theorem round_up : ∀ (ns : List α) {T : α → List α} {a b : α}, b ∈ T a → b ∈ roundT ns T a
  | [], _, _, _, h => h
  | o :: ns, T, a, b, h => round_up ns (ownT_up h)
theorem round_all : ∀ (ns : List α) {T : α → List α} {a m b : α}, a ∈ ns → m ∈ T a → b ∈ T m → b ∈ roundT ns T a
  | [], _, _, _, _, h, _, _ => by cases h
  | o :: ns, T, a, m, b, h, hm, hb => by
    show b ∈ roundT ns (ownT T o) a
    rcases List.mem_cons.mp h with e | h
    · subst e
      exact round_up ns (fars_all _ hm hb)
    · exact round_all ns h (ownT_up hm) (ownT_up hb)
/-- what the table holds follows -/
def Sound (R : List (α × α)) (M : List α) (T : α → List α) : Prop := ∀ a b, b ∈ T a → Via R M a b
theorem far_sound {R : List (α × α)} {M : List α} {T : α → List α} {o far : α} (s : Sound R M T) (hv : Via R M o far) (hf : far ∈ M) : Sound R M (farT o T far) := fun a b h => by
  by_cases e : a = o
  · subst e
    rcases farT_in.mp h with h | h
    · exact s _ _ h
    · exact .two hv hf (s _ _ h)
  · rw [farT_ne e] at h
    exact s _ _ h
theorem via_snd {R : List (α × α)} {M : List α} (hM : ∀ p ∈ R, p.2 ∈ M) {a b : α} (v : Via R M a b) : b ∈ M := by
  induction v with
  | one q => exact hM _ q
  | two _ _ _ _ ih => exact ih
theorem fars_sound {R : List (α × α)} {M : List α} (hM : ∀ p ∈ R, p.2 ∈ M) {o : α} : ∀ (l : List α) {T : α → List α}, Sound R M T → (∀ f ∈ l, Via R M o f) → Sound R M (l.foldl (farT o) T)
  | [], _, s, _ => s
  | f :: l, T, s, h => fars_sound hM l (far_sound s (h f List.mem_cons_self) (via_snd hM (h f List.mem_cons_self))) fun g hg => h g (List.mem_cons_of_mem _ hg)
theorem own_sound {R : List (α × α)} {M : List α} (hM : ∀ p ∈ R, p.2 ∈ M) {T : α → List α} {o : α} (s : Sound R M T) : Sound R M (ownT T o) := fars_sound hM _ s fun f h => s _ _ h
theorem round_sound {R : List (α × α)} {M : List α} (hM : ∀ p ∈ R, p.2 ∈ M) : ∀ (ns : List α) {T : α → List α}, Sound R M T → Sound R M (roundT ns T)
  | [], _, s => s
  | o :: ns, T, s => round_sound hM ns (own_sound hM s)
theorem law_sound {R : List (α × α)} {ns : List α} (hM : ∀ p ∈ R, p.2 ∈ ns) : ∀ k, Sound R ns (lawT R ns k)
  | 0 => fun a b h => .one (tab0_in.mp h)
  | k + 1 => by
    unfold lawT
    rw [List.range_succ, List.foldl_append]
    exact round_sound hM ns (law_sound hM k)
theorem law_all {R : List (α × α)} {ns : List α} (h1 : ∀ p ∈ R, p.1 ∈ ns) : ∀ (k l : Nat) (a b : α), l ≤ k + 1 → Steps R l a b → b ∈ lawT R ns k a
  | 0, l, a, b, hl, h => by
    cases h with
    | one q => exact tab0_in.mpr q
    | more q g =>
      have := via_pos g
      omega
  | k + 1, l, a, b, hl, h => by
    have e : lawT R ns (k + 1) = roundT ns (lawT R ns k) := by
      unfold lawT
      rw [List.range_succ, List.foldl_append]
      rfl
    rw [e]
    cases h with
    | one q => exact round_up ns (law_all h1 k 1 a b (by omega) (.one q))
    | @more a m b l' q g => exact round_all ns (h1 _ q) (law_all h1 k 1 a m (by omega) (.one q)) (law_all h1 k l' m b (by omega) g)
/-- the law's table and the program's tell the same -/
theorem law_told {R : List (α × α)} {ns : List α} {rk : α → Nat} (h1 : ∀ p ∈ R, p.1 ∈ ns) (h2 : ∀ p ∈ R, p.2 ∈ ns) (hr : ∀ p ∈ R, rk p.1 < rk p.2) (hb : ∀ p ∈ R, rk p.2 ≤ ns.length) (a : α) : lawTold R ns a = toldOf R ns a := by
  unfold lawTold toldOf
  refine List.filter_congr fun b _ => decide_eq_decide.mpr ?_
  rw [close_in]
  constructor
  · exact law_sound h2 ns.length a b
  · intro v
    obtain ⟨k, g⟩ := via_steps v
    refine law_all h1 ns.length k a b ?_ g
    have q := steps_rank hr g
    have : rk b ≤ ns.length := by
      have key : ∀ {k : Nat} {a b : α}, Steps R k a b → rk b ≤ ns.length := by
        intro k a b g
        induction g with
        | one q => exact hb _ q
        | more _ _ ih => exact ih
      exact key g
    omega
/-- lists with two of a kind at most in the law's table -/
def Fine (ns : List α) (T : α → List α) : Prop := ∀ a, (∀ b, (T a).count b ≤ 2) ∧ ∀ b ∈ T a, b ∈ ns
theorem fine_far {ns : List α} {T : α → List α} {o far : α} (f : Fine ns T) : Fine ns (farT o T far) := fun a => by
  by_cases e : a = o
  · subst e
    refine ⟨fun b => ?_, fun b h => ?_⟩
    · show (if a = a then _ else _ : List α).count b ≤ 2
      rw [if_pos rfl, List.count_append]
      by_cases hb : b ∈ T a
      · have z : List.count b (List.filter (fun c => decide (c ∉ T a)) (T far)) = 0 := List.count_eq_zero.mpr fun h => absurd hb (of_decide_eq_true (List.mem_filter.mp h).2)
        rw [z]
        exact (f a).1 b
      · rw [List.count_eq_zero.mpr hb, Nat.zero_add]
        exact Nat.le_trans (List.Sublist.count_le _ List.filter_sublist) ((f far).1 b)
    · rcases farT_in.mp h with h | h
      · exact (f _).2 b h
      · exact (f _).2 b h
  · rw [farT_ne e]
    exact f a
theorem len_cut (n : α) : ∀ l : List α, l.length = l.count n + (l.filter fun x => decide (x ≠ n)).length
  | [] => rfl
  | x :: l => by
    have q := len_cut n l
    by_cases e : x = n
    · subst e
      rw [List.filter_cons, if_neg (by simp), List.count_cons_self, List.length_cons]
      omega
    · rw [List.filter_cons, if_pos (decide_eq_true e), List.count_cons_of_ne e, List.length_cons, List.length_cons]
      omega
theorem two_len : ∀ (m l : List α), (∀ b, l.count b ≤ 2) → (∀ x ∈ l, x ∈ m) → l.length ≤ 2 * m.length
  | [], l, _, h => by
    cases l with
    | nil => exact Nat.le_refl _
    | cons x l => exact absurd (h x List.mem_cons_self) List.not_mem_nil
  | n :: m, l, c, h => by
    have q := two_len m (l.filter fun x => decide (x ≠ n)) (fun b => Nat.le_trans (List.Sublist.count_le _ List.filter_sublist) (c b)) fun x hx => by
      obtain ⟨h1, h2⟩ := List.mem_filter.mp hx
      exact (List.mem_cons.mp (h x h1)).resolve_left (of_decide_eq_true h2)
    have e := len_cut n l
    have k := c n
    rw [List.length_cons]
    omega
theorem fine_len {ns : List α} {T : α → List α} (f : Fine ns T) (a : α) : (T a).length ≤ 2 * ns.length := two_len _ _ (f a).1 (f a).2
theorem fine_tab0 {R : List (α × α)} {ns : List α} (nd : ∀ a b, (tab0 R a).count b ≤ 2) (h2 : ∀ p ∈ R, p.2 ∈ ns) : Fine ns (tab0 R) := fun a => ⟨nd a, fun b h => h2 _ (tab0_in.mp h)⟩
theorem tab0_nd {R : List (α × α)} (nd : R.Nodup) (a : α) : (tab0 R a).Nodup := by
  unfold tab0
  induction R with
  | nil => exact List.nodup_nil
  | cons p R ih =>
    obtain ⟨n1, n2⟩ := List.nodup_cons.mp nd
    have q := ih n2
    rw [List.filter_cons]
    split
    · rename_i hp
      rw [List.map_cons]
      refine List.nodup_cons.mpr ⟨fun hm => ?_, q⟩
      obtain ⟨p', h1, h3⟩ := List.mem_map.mp hm
      obtain ⟨h4, h5⟩ := List.mem_filter.mp h1
      have e1 : p.1 = a := of_decide_eq_true hp
      have e2 : p'.1 = a := of_decide_eq_true h5
      have e3 : p' = p := Prod.ext (e2.trans e1.symm) h3
      exact n1 (e3 ▸ h4)
    · exact q
theorem told_len (R : List (α × α)) (ns : List α) (a : α) : (toldOf R ns a).length ≤ ns.length := List.length_filter_le _ _
end
end Jd
namespace Jd
open PySem PySem.Spec PyProof.Rows L2
/-! ### tables: dicts by names -/
theorem fl_str {xs : List Str} : (xs.map V.str).all flatV = true := by
  rw [List.all_eq_true]
  intro x hx
  obtain ⟨z, _, rfl⟩ := List.mem_map.mp hx
  rfl
theorem inV_str (z : Str) (xs : List Str) : inV (.str z) (xs.map V.str) = decide (z ∈ xs) := by
  unfold inV
  induction xs with
  | nil => rfl
  | cons x xs ih =>
    rw [List.map_cons, List.any_cons, ih]
    show ((x == z) || _) = _
    by_cases h : x = z
    · subst h
      simp
    · have h' : ¬ z = x := fun q => h q.symm
      have hb : (x == z) = false := by
        cases e : (x == z) with
        | false => rfl
        | true => exact absurd (eq_of_beq e) h
      rw [hb, Bool.false_or]
      exact decide_eq_decide.mpr (by simp [h'])
theorem fm_bind {α : Type} {l : List α} (h : α → Option V) : (List.range l.length).filterMap (fun i => (l[i]?).bind h) = l.filterMap h := by
  have key : ∀ k, k ≤ l.length → (List.range k).filterMap (fun i => (l[i]?).bind h) = (l.take k).filterMap h := by
    intro k
    induction k with
    | zero => intro _; rfl
    | succ k ih =>
      intro hk
      have hl : k < l.length := hk
      have e : l[k]? = some l[k] := List.getElem?_eq_getElem hl
      rw [fm_step, ih (Nat.le_of_lt hl), e, List.take_add_one, e, List.filterMap_append]
      congr 1
      show (match h l[k] with
        | some y => [y]
        | none => []) = List.filterMap h [l[k]]
      cases q : h l[k] with
      | none => rw [List.filterMap_cons_none q]; rfl
      | some y => rw [List.filterMap_cons_some q]; rfl
  have q := key l.length (Nat.le_refl _)
  rw [List.take_length] at q
  exact q
theorem fm_filter {l : List Str} {p : Str → Bool} : l.filterMap (fun o => if p o = true then some (V.str o) else none) = (l.filter p).map V.str := by
  induction l with
  | nil => rfl
  | cons x l ih =>
    by_cases h : p x = true
    · rw [List.filterMap_cons_some (by rw [if_pos h]), List.filter_cons_of_pos h, List.map_cons, ih]
    · rw [List.filterMap_cons_none (by rw [if_neg h]), List.filter_cons_of_neg h, ih]
theorem fm_tab0 {R : List (Str × Str)} {n : Str} : R.filterMap (fun pr => if pr.1 = n then some (V.str pr.2) else none) = (tab0 R n).map V.str := by
  unfold tab0
  induction R with
  | nil => rfl
  | cons x l ih =>
    by_cases h : x.1 = n
    · rw [List.filterMap_cons_some (by rw [if_pos h]), List.filter_cons_of_pos (by rw [decide_eq_true h]), List.map_cons, List.map_cons, ih]
    · rw [List.filterMap_cons_none (by rw [if_neg h]), List.filter_cons_of_neg (by rw [decide_eq_false h]; decide), ih]
def kvT (ns : List Str) (A : Str → Addr) : List (Key × V) := ns.map fun n => (Sum.inr n, V.ref (A n))
theorem kvT_len (ns : List Str) (A : Str → Addr) : (kvT ns A).length = ns.length := List.length_map ..
theorem valV_kvT {n : Str} {A : Str → Addr} : ∀ {ns : List Str}, n ∈ ns → valV (kvT ns A) (Sum.inr n) = some (.ref (A n))
  | [], h => by cases h
  | m :: ns, h => by
    show valV ((Sum.inr m, V.ref (A m)) :: kvT ns A) (Sum.inr n) = _
    by_cases e : m = n
    · subst e
      exact valV_pos rfl
    · rw [valV_neg (fun q => e (Sum.inr.inj q))]
      exact valV_kvT ((List.mem_cons.mp h).resolve_left fun q => e q.symm)
theorem valV_kvN {n : Str} {A : Str → Addr} : ∀ {ns : List Str}, n ∉ ns → valV (kvT ns A) (Sum.inr n) = none
  | [], h => rfl
  | m :: ns, h => by
    show valV ((Sum.inr m, V.ref (A m)) :: kvT ns A) (Sum.inr n) = _
    have e : m ≠ n := fun q => h (q ▸ List.mem_cons_self)
    rw [valV_neg (fun q => e (Sum.inr.inj q))]
    exact valV_kvN fun q => h (List.mem_cons_of_mem _ q)
/-- A changed at n -/
def atA (A : Str → Addr) (n : Str) (p : Addr) : Str → Addr := fun m => if m = n then p else A m
theorem atA_at {A : Str → Addr} {n : Str} {p : Addr} : atA A n p n = p := if_pos rfl
theorem atA_ne {A : Str → Addr} {n m : Str} {p : Addr} (h : m ≠ n) : atA A n p m = A m := if_neg h
theorem putK_old {n : Str} {A : Str → Addr} {p : Addr} {ns : List Str} (h : n ∈ ns) : putK (kvT ns A) (Sum.inr n) (.ref p) = kvT ns (atA A n p) := by
  unfold putK
  have e : ((kvT ns A).any fun kv => decide (kv.1 = Sum.inr n)) = true := by
    rw [List.any_eq_true]
    exact ⟨(Sum.inr n, V.ref (A n)), List.mem_map.mpr ⟨n, h, rfl⟩, decide_eq_true rfl⟩
  rw [if_pos e]
  unfold kvT
  rw [List.map_map]
  refine List.map_congr_left fun m _ => ?_
  show (if (Sum.inr m : Key) = Sum.inr n then ((Sum.inr m : Key), V.ref p) else (Sum.inr m, V.ref (A m))) = (Sum.inr m, V.ref (atA A n p m))
  by_cases q : m = n
  · subst q
    rw [if_pos rfl, atA_at]
  · rw [if_neg (fun z => q (Sum.inr.inj z)), atA_ne q]
theorem putK_new {n : Str} {A : Str → Addr} {p : Addr} {ns : List Str} (h : n ∉ ns) : putK (kvT ns A) (Sum.inr n) (.ref p) = kvT (ns ++ [n]) (atA A n p) := by
  unfold putK
  have e : ((kvT ns A).any fun kv => decide (kv.1 = Sum.inr n)) = false := by
    rw [List.any_eq_false]
    intro kv hk q
    obtain ⟨m, hm, rfl⟩ := List.mem_map.mp hk
    exact h (Sum.inr.inj (of_decide_eq_true q) ▸ hm)
  rw [e, if_neg Bool.false_ne_true]
  unfold kvT
  rw [List.map_append]
  congr 1
  · refine List.map_congr_left fun m hm => ?_
    rw [atA_ne (fun (q : m = n) => h (q ▸ hm))]
  · show [((Sum.inr n : Key), V.ref p)] = [((Sum.inr n : Key), V.ref (atA A n p n))]
    rw [atA_at]
/-- a dict of lists -/
structure TabA (H : Hp) (d : Addr) (ns : List Str) (A : Str → Addr) (T : Str → List Str) : Prop where
  at_ : H d = some (.dK (kvT ns A))
  lst : ∀ n ∈ ns, H (A n) = some (.lst ((T n).map V.str))
theorem TabA.same {H H' : Hp} {d : Addr} {ns : List Str} {A : Str → Addr} {T : Str → List Str} (s : Same H H') (t : TabA H d ns A T) : TabA H' d ns A T := ⟨s _ _ t.at_, fun n h => s _ _ (t.lst n h)⟩
theorem TabA.congr {H : Hp} {d : Addr} {ns : List Str} {A : Str → Addr} {T T' : Str → List Str} (t : TabA H d ns A T) (e : ∀ n ∈ ns, T n = T' n) : TabA H d ns A T' := ⟨t.at_, fun n h => by rw [← e n h]; exact t.lst n h⟩
theorem TabA.get {H : Hp} {d : Addr} {ns : List Str} {A : Str → Addr} {T : Str → List Str} (t : TabA H d ns A T) {n : Str} (h : n ∈ ns) : DGet H d (.str n) (some (.ref (A n))) := by
  have q := DGet.k (k := Sum.inr n) t.at_
  rw [valV_kvT h] at q
  exact q
theorem TabA.put_old {H : Hp} {d D : Addr} {ns : List Str} {A : Str → Addr} {T : Str → List Str} (t : TabA H d ns A T) {n : Str} {l : List Str} (h : n ∈ ns) (hD : H D = some (.lst (l.map V.str))) :
    TabA (upd H d (.dK (putK (kvT ns A) (Sum.inr n) (.ref D)))) d ns (atA A n D) (fun m => if m = n then l else T m) := by
  refine ⟨by rw [upd_same, putK_old h], fun m hm => ?_⟩
  by_cases e : m = n
  · subst e
    rw [atA_at, if_pos rfl, upd_ne (ne_of hD t.at_ (by intro z; cases z))]
    exact hD
  · rw [atA_ne e, if_neg e, upd_ne (ne_of (t.lst m hm) t.at_ (by intro z; cases z))]
    exact t.lst m hm
theorem TabA.put_new {H : Hp} {d D : Addr} {ns : List Str} {A : Str → Addr} {T : Str → List Str} (t : TabA H d ns A T) {n : Str} (h : n ∉ ns) (hD : H D = some (.lst ((T n).map V.str))) :
    TabA (upd H d (.dK (putK (kvT ns A) (Sum.inr n) (.ref D)))) d (ns ++ [n]) (atA A n D) T := by
  refine ⟨by rw [upd_same, putK_new h], fun m hm => ?_⟩
  by_cases e : m = n
  · subst e
    rw [atA_at, upd_ne (ne_of hD t.at_ (by intro z; cases z))]
    exact hD
  · have hm' : m ∈ ns := (List.mem_append.mp hm).resolve_right fun q => e (List.mem_singleton.mp q)
    rw [atA_ne e, upd_ne (ne_of (t.lst m hm') t.at_ (by intro z; cases z))]
    exact t.lst m hm'
/-- the i-th name is none of those ahead -/
theorem nd_take {ns : List Str} (nd : ns.Nodup) {i : Nat} {n : Str} (h : ns[i]? = some n) : n ∉ ns.take i := fun q => by
  obtain ⟨j, hj, e⟩ := List.mem_iff_getElem.mp q
  obtain ⟨hi, e2⟩ := List.getElem?_eq_some_iff.mp h
  rw [List.length_take] at hj
  rw [List.getElem_take] at e
  have := (List.getElem_inj nd).mp (e.trans e2.symm)
  omega
theorem take_next {ns : List Str} {i : Nat} {n : Str} (h : ns[i]? = some n) : ns.take (i + 1) = ns.take i ++ [n] := by
  rw [List.take_add_one, h]
  rfl
theorem at_str {ns : List Str} {i : Nat} {x : V} (h : (ns.map V.str)[i]? = some x) : ∃ n, ns[i]? = some n ∧ x = .str n := by
  rw [List.getElem?_map] at h
  cases q : ns[i]? with
  | none => rw [q] at h; cases h
  | some n => rw [q] at h; exact ⟨n, rfl, (Option.some.inj h).symm⟩
theorem at_ref {ps : List Addr} {i : Nat} {x : V} (h : (ps.map V.ref)[i]? = some x) : ∃ p, ps[i]? = some p ∧ x = .ref p := by
  rw [List.getElem?_map] at h
  cases q : ps[i]? with
  | none => rw [q] at h; cases h
  | some n => rw [q] at h; exact ⟨n, rfl, (Option.some.inj h).symm⟩
/-- tellings as they are handed in -/
def Tells (K : PySem.W.Frag) (H : Hp) (te : Addr) (R : List (Str × Str)) : Prop := ∃ ps : List Addr, Sq K H te (ps.map V.ref) ∧ ps.length = R.length ∧
  ∀ (i : Nat) (p : Addr), ps[i]? = some p → ∃ pr, R[i]? = some pr ∧ Sq K H p [.str pr.1, .str pr.2]
theorem Tells.same {K : PySem.W.Frag} {H H' : Hp} {te : Addr} {R : List (Str × Str)} (s : Same H H') (t : Tells K H te R) : Tells K H' te R := by
  obtain ⟨ps, h1, h2, h3⟩ := t
  exact ⟨ps, h1.same s, h2, fun i p hp => let ⟨pr, e, q⟩ := h3 i p hp; ⟨pr, e, q.same s⟩⟩
theorem Tells.keep {K : PySem.W.Frag} {u : Addr} {H H' : Hp} {te : Addr} {R : List (Str × Str)} {C dx : Addr} {fs : List (Str × V)} (hu : H u = some (.ins C dx fs)) (k : ∀ b o, b ≠ u → H b = some o → H' b = some o) (t : Tells K H te R) : Tells K H' te R := by
  obtain ⟨ps, h1, h2, h3⟩ := t
  exact ⟨ps, h1.keep hu k, h2, fun i p hp => let ⟨pr, e, q⟩ := h3 i p hp; ⟨pr, e, q.keep hu k⟩⟩
theorem Tells.nil {K : PySem.W.Frag} {H : Hp} {te : Addr} (h : Sq K H te []) : Tells K H te [] := ⟨[], h, rfl, fun i p hp => by cases hp⟩
end Jd
namespace Jd
open PySem PySem.Spec PyProof.Rows L2
/-! ### _all_told -/
theorem Same_lay2 {H H' : Hp} {a : Addr} {o : HO} (s : Same H H') (n : H' a = none) : Same H (upd H' a o) := fun b u q => by
  rw [upd_ne (ne_of_none (s b u q) n)]
  exact s b u q
def retScope : List Stmt → Scope
  | [.Return (some (.DictComp _ _ _ sc _)) _] => sc
  | _ :: r => retScope r
  | [] => { kind := .function, names := [], isGenerator := false, isCoroutine := false }
def retVal : List Stmt → Expr
  | [.Return (some (.DictComp _ v _ _ _)) _] => v
  | _ :: r => retVal r
  | [] => .Name "" ⟨0, 0, 0, 0⟩
def argScope : Expr → Scope
  | .Call _ [.ListComp _ _ sc _] _ _ => sc
  | _ => { kind := .function, names := [], isGenerator := false, isCoroutine := false }
abbrev N7 : List Str := ["names", "tells", "told", "name", "teller", "other", "middle"]
/-- tuple(a sequence) -/
def rTupOf (K : PySem.W.Frag) : List V → Hp → VK → Prop := fun xs H Q => ∃ p ys, xs = [V.ref p] ∧ ((SqL K H p ys ∧ ∀ l, H l = none → Q (.ref l) (upd H l (.tup ys))) ∨ (SqT K H p ys ∧ Q (.ref p) H))
/-- the row of one name -/
def tRow (K : PySem.W.Frag) : TE := tCB (rTupOf K) (tCons (tLc (iTup K (tVar 0)) (gName 5) (tTest (tOp (rIn K false) (tVar 5) (tDGet (tVar 2) (tVar 3)))) (tVar 5) [5]) tNil)
def spAT (K : PySem.W.Frag) : Sp := fun vs H Q _ => ∃ (t te : Addr) (ns : List Str) (R : List (Str × Str)), vs = [.ref t, .ref te] ∧ SqT K H t (ns.map V.str) ∧ ns.Nodup ∧ ns.length ≤ 7 ∧ Tells K H te R ∧ R.length ≤ 64 ∧
  ∀ H' d A, Same H H' → H' d = some (.dK (kvT ns A)) → (∀ n ∈ ns, H' (A n) = some (.tup ((toldOf R ns n).map V.str))) → Q (.ref d) H'
def stT (R : List (Str × Str)) (M : List Str) : Str → List Str := M.foldl (fun T m => passT T m) (tab0 R)
theorem stT_len {R : List (Str × Str)} {M : List Str} (h1 : M.length ≤ 7) (h2 : R.length ≤ 64) (a : Str) : (stT R M a).length ≤ 8192 := by
  have q := close_len R M (tab0 R) R.length (tab0_len R) a
  have p : 2 ^ M.length ≤ 2 ^ 7 := Nat.pow_le_pow_right (by decide) h1
  have q2 : 2 ^ M.length * R.length ≤ 2 ^ 7 * 64 := Nat.mul_le_mul p h2
  exact Nat.le_trans q q2
theorem stT_next {R : List (Str × Str)} {M : List Str} {m : Str} : stT R (M ++ [m]) = passT (stT R M) m := by
  unfold stT
  rw [List.foldl_append]
  rfl
section
variable {P : Program} {w : World} {K : PySem.W.Frag} {mg : Str → Option Value} {base : Heap}
theorem sc_at : FnScope ["names", "tells", "told", "name", "teller", "other", "middle"] ["names", "tells"] (defScope s__all_told) := ⟨rfl, rfl, rfl, by decide +kernel, rfl, by decide +kernel, by decide +kernel⟩
theorem ok_all_told (B : Bk K mg) : Df P w K mg base CX0 1 "_all_told" ["names", "tells"] (spAT K) := by
  obtain ⟨fd, F⟩ := B.F_all_told
  refine ⟨⟨fd, ?_, F.binds fun _ _ _ _ _ _ us hl => match us, hl with | [_, _], _ => rfl⟩, B.g_all_told, F.kp⟩
  refine F.ok sc_at (fun vs H Q E h => ?_) (fun cdv A outer s H vs Q E hr h => ?_)
  · obtain ⟨_, _, _, _, rfl, _⟩ := h
    rfl
  · obtain ⟨t, te, ns, R, rfl, ht, nd, h7, hte, h64, k⟩ := h
    have hu := hu_of hr
    have inner := fun (s' : Shared) (H' : Hp) (C : Addr) (cl : List (Str × Addr)) (fp : List Addr) => (show PE ((cxOf CX0 P w K mg base N7 "_all_told" (defScope s__all_told) (He.ga K "_all_told") cdv A outer s H E).nox.blk s' H' (retScope (defBody s__all_told)) (compEnvC (retScope (defBody s__all_told)) cl C (cxOf CX0 P w K mg base N7 "_all_told" (defScope s__all_told) (He.ga K "_all_told") cdv A outer s H E).nox.env) fp) (retVal (defBody s__all_told)) (tRow K) from
      pe_callTy call_tuple_of (by rfl) B.b_tuple (by decide +kernel) (pa_cons (pe_lc (own := [("other", 5)]) (g := gName 5) (tt := tTest (tOp (rIn K false) (tVar 5) (tDGet (tVar 2) (tVar 3)))) rfl sc_at.nd (pi_tup (pv 0)) (blkOk_by (N := N7) (sc := relS (retScope (defBody s__all_told)) (defScope s__all_told)) (scope := argScope (retVal (defBody s__all_told))) (own := [("other", 5)]) (by decide +kernel)) (fun _ _ _ _ _ => pg_name (i := 5) sc_at.nd rfl (Or.inl rfl)) (fun _ _ _ _ _ => pts_one (pt_cmpR op_in_seq (pv 5) (pe_dget hu (pv 2) (pv 3) (fun _ _ => rfl)) (by rfl))) (fun _ _ _ _ _ => pv 5)) pa_nil))
    refine ⟨_, pss_cons (ps_set (i := 2) sc_at.nd rfl (Or.inr rfl) pe_dnewK)
      (pss_cons (ps_for PassesOwn.never rfl (pi_tup (pv 0)) (pg_name (i := 3) sc_at.nd rfl (Or.inr rfl))
        (pss_one (ps_dput hu (pv 2) (pv 3) (pe_lc (own := [("teller", 4), ("other", 5)]) (g := gSq K 2 (gCons (gName 4) (gCons (gName 5) gNil))) (tt := tTest (tOp rEq (tVar 4) (tVar 3))) rfl sc_at.nd (pi_seq (pv 1)) (blkOk_by (N := ["names", "tells", "told", "name", "teller", "other", "middle"]) (sc := defScope s__all_told) (by decide +kernel))
          (fun _ _ _ _ _ => pg_sq (pg_tup rfl (pgs_cons (pg_name (i := 4) sc_at.nd rfl (Or.inl rfl)) (pgs_cons (pg_name (i := 5) sc_at.nd rfl (Or.inl rfl)) pgs_nil))) (pg_lst rfl (pgs_cons (pg_name (i := 4) sc_at.nd rfl (Or.inl rfl)) (pgs_cons (pg_name (i := 5) sc_at.nd rfl (Or.inl rfl)) pgs_nil)))) (fun _ _ _ _ _ => pts_one (pt_cmpR op_eq (pv 4) (pv 3) (nomark _))) (fun _ _ _ _ _ => pv 5)) rfl)))
      (pss_cons (ps_for PassesOwn.never rfl (pi_tup (pv 0)) (pg_name (i := 6) sc_at.nd rfl (Or.inl rfl))
        (pss_one (ps_for PassesOwn.never rfl (pi_tup (pv 0)) (pg_name (i := 3) sc_at.nd rfl (Or.inr rfl))
          (pss_one (ps_if (pt_cmpR op_in_seq (pv 6) (pe_dget hu (pv 2) (pv 3) (fun _ _ => rfl)) (by rfl))
            (pss_one (ps_dput hu (pv 2) (pv 3) (pe_op op_cat (pe_dget hu (pv 2) (pv 3) (fun _ _ => rfl))
              (pe_lc (own := [("other", 5)]) (g := gName 5) (tt := tTest (tOp (rIn K true) (tVar 5) (tDGet (tVar 2) (tVar 3)))) rfl sc_at.nd (pi_list (pe_dget hu (pv 2) (pv 6) (fun _ _ => rfl))) (blkOk_by (N := ["names", "tells", "told", "name", "teller", "other", "middle"]) (sc := defScope s__all_told) (by decide +kernel))
                (fun _ _ _ _ _ => pg_name (i := 5) sc_at.nd rfl (Or.inl rfl)) (fun _ _ _ _ _ => pts_one (pt_cmpR op_notIn_seq (pv 5) (pe_dget hu (pv 2) (pv 3) (fun _ _ => rfl)) (by rfl))) (fun _ _ _ _ _ => pv 5))) rfl)) pss_nil)))))
      (pss_one (ps_ret (pe_dc (own := [("name", 3)]) (g := gName 3) (tt := tYes) rfl sc_at.nd (pi_tup (pv 0)) (blkOk_by (N := ["names", "tells", "told", "name", "teller", "other", "middle"]) (sc := defScope s__all_told) (by decide +kernel))
          (fun _ _ _ _ _ => pg_name (i := 3) sc_at.nd rfl (Or.inr rfl)) (fun _ _ _ _ _ => pts_nil) (fun _ _ _ _ _ => pv 3)
          inner))))), ?_⟩
    refine fun d hd => ?_
    have s0 : Same H (upd H d (.dK [])) := Same_new hd
    obtain ⟨ps, hps, pl, hpp⟩ := hte
    refine ⟨_, rfl, t, rfl, ⟨_, Same_seqT s0 ht⟩, ?_⟩
    refine for_it (walk_tup (xs := ns.map V.str)) (fun i σ H' => ∃ (v3 v4 v5 v6 : Option V) (A : Str → Addr), σ = [some (.ref t), some (.ref te), some (.ref d), v3, v4, v5, v6] ∧ Same H H' ∧ TabA H' d (ns.take i) A (tab0 R))
      ⟨Option.none, Option.none, Option.none, Option.none, fun _ => 0, rfl, s0, upd_same, fun n h => by cases h⟩ (fun i σ H' _ ⟨_, _, _, _, _, _, s1, _⟩ => Same_seqT s1 ht)
      (fun i x σ H1 H2 hi ⟨v3, v4, v5, v6, A, e, s1, ta⟩ y => ?_) (fun σ H1 ⟨v3, v4, v5, v6, A, e, s1, ta⟩ => ?_)
    · obtain ⟨rfl, hx⟩ := y
      subst e
      obtain ⟨n, hn, rfl⟩ := at_str hx
      refine ⟨_, rfl, te, _, rfl, hps.same s1, fun J G wk hG D hD => ?_⟩
      have hl : (ps.map V.ref).length ≤ sizeLine := by
        rw [List.length_map, pl]
        exact Nat.le_trans h64 (by decide)
      refine lc_fm wk (fun i => (R[i]?).bind fun pr => if pr.1 = n then some (V.str pr.2) else Option.none) hD hl (fun H' s' => hG H' s') (fun j v H3 H4 Kt Kf hj s3 y kt kf => ?_) (fun H3 s3 hD3 => ?_)
      · obtain ⟨rfl, hv⟩ := y
        obtain ⟨p, hp, rfl⟩ := at_ref hv
        obtain ⟨pr, hpr, hq⟩ := hpp j p hp
        refine ⟨p, _, rfl, hq.same (s1.trans s3), rfl, _, _, rfl, _, _, rfl, rfl, rfl, _, rfl, _, rfl, rfl, _, rfl, two (fun h1 => ?_) (fun h1 => ?_)⟩
        · have e1 : pr.1 = n := V.str.inj (of_decide_eq_true h1)
          exact ⟨_, rfl, kt _ _ (by rw [hpr]; show (if pr.1 = n then _ else _) = _; rw [if_pos e1]) (Same.refl _)⟩
        · have e1 : ¬ pr.1 = n := fun q => of_decide_eq_false h1 (by rw [q])
          exact kf _ (by rw [hpr]; show (if pr.1 = n then _ else _) = _; rw [if_neg e1]) (Same.refl _)
      · have eD : (List.range (ps.map V.ref).length).filterMap (fun i => (R[i]?).bind fun pr => if pr.1 = n then some (V.str pr.2) else Option.none) = (tab0 R n).map V.str := by
          rw [List.length_map, pl, fm_bind, fm_tab0]
        rw [eD] at hD3
        have ta3 := ta.same s3
        refine ⟨_, rfl, _, rfl, d, _, rfl, DPut.k (k := Sum.inr n) ta3.at_ (by rw [kvT_len, List.length_take]; exact Nat.lt_of_le_of_lt (Nat.le_trans (Nat.min_le_right _ _) h7) (by decide)), ?_⟩
        have q := ta3.put_new (nd_take nd hn) hD3
        rw [← take_next hn] at q
        exact ⟨_, _, _, _, _, rfl, fun b o q => by
          rw [upd_ne (ne_of_none q hd)]
          exact s3 _ _ (s1 _ _ q), q⟩
    · subst e
      have ta1 : TabA H1 d ns A (tab0 R) := by
        have q := ta
        rw [List.length_map, List.take_length] at q
        exact q
      clear ta
      refine ⟨_, rfl, t, rfl, ⟨_, Same_seqT s1 ht⟩, ?_⟩
      refine for_it (walk_tup (xs := ns.map V.str)) (fun i σ H' => ∃ (v3 v4 v5 v6 : Option V) (A : Str → Addr), σ = [some (.ref t), some (.ref te), some (.ref d), v3, v4, v5, v6] ∧ Same H H' ∧ TabA H' d ns A (stT R (ns.take i)))
        ⟨_, _, _, _, A, rfl, s1, ta1⟩ (fun i σ H' _ ⟨_, _, _, _, _, _, s1, _⟩ => Same_seqT s1 ht)
        (fun i x σ H3 H2 hi ⟨w3, w4, w5, w6, A2, e, s2, ta2⟩ y => ?_) (fun σ H3 ⟨w3, w4, w5, w6, A2, e, s2, ta2⟩ => ?_)
      · obtain ⟨rfl, hx⟩ := y
        subst e
        obtain ⟨m, hm, rfl⟩ := at_str hx
        have hmi : m ∈ ns := List.mem_of_getElem? hm
        have hT : ∀ a, (stT R (ns.take i) a).length ≤ 8192 := stT_len (by rw [List.length_take]; exact Nat.le_trans (Nat.min_le_right _ _) h7) h64
        generalize hTe : stT R (ns.take i) = T at ta2 hT
        refine ⟨_, rfl, t, rfl, ⟨_, Same_seqT s2 ht⟩, ?_⟩
        refine for_it (walk_tup (xs := ns.map V.str)) (fun j σ H' => ∃ (v3 v4 v5 : Option V) (A : Str → Addr), σ = [some (.ref t), some (.ref te), some (.ref d), v3, v4, v5, some (.str m)] ∧ Same H H' ∧ TabA H' d ns A (fun a => if a ∈ ns.take j then passT T m a else T a))
          ⟨_, _, _, A2, rfl, s2, ta2.congr fun n _ => by rw [List.take_zero, if_neg List.not_mem_nil]⟩ (fun i σ H' _ ⟨_, _, _, _, _, s1, _⟩ => Same_seqT s1 ht)
          (fun j x σ H4 H5 hj ⟨u3, u4, u5, A3, e, s4, ta4⟩ y => ?_) (fun σ H4 ⟨u3, u4, u5, A3, e, s4, ta4⟩ => ?_)
        · obtain ⟨rfl, hx⟩ := y
          subst e
          obtain ⟨n, hn, rfl⟩ := at_str hx
          have hni : n ∈ ns := List.mem_of_getElem? hn
          have nn := nd_take nd hn
          have hAn := ta4.lst n hni
          have hAm := ta4.lst m hmi
          rw [if_neg nn] at hAn
          rw [passT_self, ite_self] at hAm
          refine ⟨_, rfl, _, rfl, _, rfl, d, _, rfl, ta4.get hni, _, _, rfl, .inl (SqL.of hAn), rfl, fl_str, _, rfl, two (fun h1 => ?_) (fun h1 => ?_)⟩
          · have h1' : inV (.str m) ((T n).map V.str) = true := h1
            rw [inV_str] at h1'
            have hin : m ∈ T n := of_decide_eq_true h1'
            refine ⟨_, rfl, _, rfl, d, _, rfl, ta4.get hni, _, rfl, _, rfl, d, _, rfl, ta4.get hmi, _, rfl, ⟨_, SqL.of hAm⟩, fun D hD => ?_⟩
            have hl : ((T m).map V.str).length ≤ sizeLine := by
              rw [List.length_map]
              exact Nat.le_trans (hT m) (by decide)
            refine lc_fm (walk_list (xs := (T m).map V.str)) (fun q => ((T m)[q]?).bind fun o => if decide (o ∉ T n) = true then some (V.str o) else Option.none) hD hl (fun H' s' => sm_seqL s' (SqL.of hAm)) (fun q v H6 H7 Kt Kf hq s6 y kt kf => ?_) (fun H6 s6 hD6 => ?_)
            · obtain ⟨rfl, hv⟩ := y
              obtain ⟨o, ho, rfl⟩ := at_str hv
              refine ⟨rfl, _, rfl, _, rfl, _, rfl, d, _, rfl, (ta4.same s6).get hni, _, _, rfl, .inl (SqL.of (s6 _ _ hAn)), rfl, fl_str, _, rfl, two (fun h2 => ?_) (fun h2 => ?_)⟩
              · have h2' : (!inV (.str o) ((T n).map V.str)) = true := h2
                rw [inV_str] at h2'
                have e1 : decide (o ∉ T n) = true := by
                  rw [decide_not]
                  exact h2'
                exact ⟨_, rfl, kt _ _ (by rw [ho]; show (if decide (o ∉ T n) = true then _ else _) = _; rw [if_pos e1]) (Same.refl _)⟩
              · have h2' : (!inV (.str o) ((T n).map V.str)) = false := h2
                rw [inV_str] at h2'
                have e1 : decide (o ∉ T n) = false := by
                  rw [decide_not]
                  exact h2'
                exact kf _ (by rw [ho]; show (if decide (o ∉ T n) = true then _ else _) = _; rw [e1, if_neg Bool.false_ne_true]) (Same.refl _)
            · have eD : (List.range ((T m).map V.str).length).filterMap (fun q => ((T m)[q]?).bind fun o => if decide (o ∉ T n) = true then some (V.str o) else Option.none) = ((T m).filter fun o => decide (o ∉ T n)).map V.str := by
                rw [List.length_map, fm_bind, fm_filter]
              rw [eD] at hD6
              have lF : ((T m).filter fun o => decide (o ∉ T n)).length ≤ 8192 := Nat.le_trans (List.length_filter_le _ _) (hT m)
              refine ⟨_, _, _, _, rfl, rfl, s6 _ _ hAn, hD6, ?_, fun p hp => ?_⟩
              · rw [List.length_map, List.length_map]
                have := hT n
                have : (16384 : Nat) ≤ sizeLine := by decide
                omega
              · have ta6 := (ta4.same s6).same (Same_new (o := HO.lst ((T n).map V.str ++ ((T m).filter fun o => decide (o ∉ T n)).map V.str)) hp)
                have hP : (upd H6 p (.lst ((T n).map V.str ++ ((T m).filter fun o => decide (o ∉ T n)).map V.str))) p = some (.lst ((T n ++ (T m).filter fun o => decide (o ∉ T n)).map V.str)) := by
                  rw [upd_same, List.map_append]
                have sp : Same H (upd H6 p (.lst ((T n).map V.str ++ ((T m).filter fun o => decide (o ∉ T n)).map V.str))) := Same_lay2 (s4.trans s6) hp
                refine ⟨_, rfl, _, rfl, d, _, rfl, DPut.k (k := Sum.inr n) ta6.at_ (by rw [kvT_len]; exact Nat.lt_of_le_of_lt h7 (by decide)), ?_⟩
                have q := ta6.put_old hni hP
                refine ⟨_, _, _, _, rfl, fun b o q => by
                  rw [upd_ne (ne_of_none q hd)]
                  exact sp _ _ q, q.congr fun a ha => ?_⟩
                rw [take_next hn]
                by_cases ea : a = n
                · subst ea
                  rw [if_pos rfl, if_pos (List.mem_append.mpr (.inr (List.mem_singleton.mpr rfl)))]
                  unfold passT
                  rw [if_pos hin]
                · rw [if_neg ea]
                  by_cases eb : a ∈ ns.take j
                  · rw [if_pos eb, if_pos (List.mem_append.mpr (.inl eb))]
                  · rw [if_neg eb, if_neg fun z => (List.mem_append.mp z).elim eb fun z => ea (List.mem_singleton.mp z)]
          · have h1' : inV (.str m) ((T n).map V.str) = false := h1
            rw [inV_str] at h1'
            have hin : m ∉ T n := of_decide_eq_false h1'
            refine ⟨_, _, _, A3, rfl, s4, ta4.congr fun a ha => ?_⟩
            rw [take_next hn]
            by_cases ea : a = n
            · subst ea
              rw [if_neg nn, if_pos (List.mem_append.mpr (.inr (List.mem_singleton.mpr rfl)))]
              unfold passT
              rw [if_neg hin]
            · by_cases eb : a ∈ ns.take j
              · rw [if_pos eb, if_pos (List.mem_append.mpr (.inl eb))]
              · rw [if_neg eb, if_neg fun z => (List.mem_append.mp z).elim eb fun z => ea (List.mem_singleton.mp z)]
        · subst e
          refine ⟨_, _, _, _, A3, rfl, s4, ta4.congr fun a ha => ?_⟩
          rw [take_next hm, stT_next, hTe, List.length_map, List.take_length]
          rw [if_pos ha]
      · subst e
        have ta3 : TabA H3 d ns A2 (closeT R ns) := by
          have q := ta2
          rw [List.length_map, List.take_length] at q
          exact q
        have hT : ∀ a, (closeT R ns a).length ≤ 8192 := stT_len h7 h64
        refine ⟨_, rfl, t, rfl, ⟨_, Same_seqT s2 ht⟩, fun D hD => ?_⟩
        refine dc_tup (xs := ns.map V.str) (fun i H' => Same H3 H' ∧ ∃ A4 : Str → Addr, H' D = some (.dK (kvT (ns.take i) A4)) ∧ ∀ n ∈ ns.take i, H' (A4 n) = some (.tup ((toldOf R ns n).map V.str)))
          ⟨Same_new hD, fun _ => 0, upd_same, fun n h => by cases h⟩ (fun i H' _ ⟨s', _⟩ => Same_seqT (s2.trans s') ht) (fun i x H4 hx ⟨s4, A4, hD4, hr4⟩ => ?_) (fun H4 ⟨s4, A4, hD4, hr4⟩ => ?_)
        · obtain ⟨n, hn, rfl⟩ := at_str hx
          have hni : n ∈ ns := List.mem_of_getElem? hn
          refine ⟨rfl, ?_⟩
          refine iteT (B := ∃ z : Nat, z = 0) ?_
          have hAn := s4 _ _ (ta3.lst n hni)
          refine ⟨_, rfl, _, rfl, t, rfl, ⟨_, Same_seqT (s2.trans s4) ht⟩, fun D2 hD2 => ?_⟩
          refine lc_fm (walk_tup (xs := ns.map V.str)) (fun q => (ns[q]?).bind fun o => if decide (o ∈ closeT R ns n) = true then some (V.str o) else Option.none) hD2 (by rw [List.length_map]; exact Nat.le_trans h7 (by decide)) (fun H' s' => Same_seqT ((s2.trans s4).trans s') ht) (fun q v H5 H6 Kt Kf hq s5 y kt kf => ?_) (fun H5 s5 hD5 => ?_)
          · obtain ⟨rfl, hv⟩ := y
            obtain ⟨o, ho, rfl⟩ := at_str hv
            refine ⟨rfl, _, rfl, _, rfl, _, rfl, d, _, rfl, ((ta3.same s4).same s5).get hni, _, _, rfl, .inl (SqL.of (s5 _ _ hAn)), rfl, fl_str, _, rfl, two (fun h2 => ?_) (fun h2 => ?_)⟩
            · have h2' : inV (.str o) ((closeT R ns n).map V.str) = true := h2
              rw [inV_str] at h2'
              exact ⟨_, rfl, kt _ _ (by rw [ho]; show (if decide (o ∈ closeT R ns n) = true then _ else _) = _; rw [if_pos h2']) (Same.refl _)⟩
            · have h2' : inV (.str o) ((closeT R ns n).map V.str) = false := h2
              rw [inV_str] at h2'
              exact kf _ (by rw [ho]; show (if decide (o ∈ closeT R ns n) = true then _ else _) = _; rw [h2', if_neg Bool.false_ne_true]) (Same.refl _)
          · have eD : (List.range (ns.map V.str).length).filterMap (fun q => (ns[q]?).bind fun o => if decide (o ∈ closeT R ns n) = true then some (V.str o) else Option.none) = (toldOf R ns n).map V.str := by
              rw [List.length_map, fm_bind, fm_filter]
              rfl
            rw [eD] at hD5
            refine ⟨D2, _, rfl, .inl ⟨SqL.of hD5, fun L hL => ?_⟩⟩
            have hDL := s5 _ _ hD4
            have nDL : D ≠ L := ne_of_none hDL hL
            refine ⟨_, Sum.inr n, rfl, by rw [upd_ne nDL]; exact hDL, by rw [kvT_len, List.length_take]; exact Nat.lt_of_le_of_lt (Nat.le_trans (Nat.min_le_right _ _) h7) (by decide), ?_, atA A4 n L, ?_, ?_⟩
            · exact fun b o q => by
                have q4 := s4 _ _ q
                rw [upd_ne (ne_of_none q hD)]
                exact Same_new hL _ _ (s5 _ _ q4)
            · rw [upd_same, putK_new (nd_take nd hn), ← take_next hn]
            · intro m hm
              rw [take_next hn] at hm
              by_cases e : m = n
              · subst e
                rw [atA_at, upd_ne nDL.symm, upd_same]
              · have hm' := (List.mem_append.mp hm).resolve_right fun q => e (List.mem_singleton.mp q)
                have q4 := s5 _ _ (hr4 m hm')
                rw [atA_ne e, upd_ne (ne_of q4 hDL (by intro z; cases z)), upd_ne (ne_of_none q4 hL)]
                exact q4
        · rw [List.length_map, List.take_length] at hD4 hr4
          exact k _ _ _ (s2.trans s4) hD4 hr4
end
end Jd
namespace Jd
open PySem PySem.Spec PyProof.Rows L2
/-! ### sorted texts are told by their order -/
theorem rising_le : ∀ (l : List Str) (p : Str), risingS p l = true → ∀ y ∈ l, cd p ≤ cd y
  | [], _, _, _, h => nomatch h
  | x :: r, p, h, y, hy => by
    have h' : (!ltCps x.cps.toList p.cps.toList && risingS x r) = true := h
    rw [Bool.and_eq_true] at h'
    obtain ⟨h1, h2⟩ := h'
    have px : cd p ≤ cd x := by
      rw [ltCps_eq] at h1
      have h3 : ¬ cd x < cd p := fun q => by
        rw [decide_eq_true (show x.cps.toList < p.cps.toList from q)] at h1
        cases h1
      exact List.not_lt.mp h3
    rcases List.mem_cons.mp hy with rfl | hy
    · exact px
    · exact List.le_trans px (rising_le r x h2 y hy)
theorem sorted_pw : ∀ (l : List Str), sortedS l = true → l.Pairwise fun a b => cd a ≤ cd b
  | [], _ => List.Pairwise.nil
  | [x], _ => List.pairwise_singleton _ _
  | x :: y :: r, h => by
    have h' : risingS x (y :: r) = true := h
    have h2 : (!ltCps y.cps.toList x.cps.toList && risingS y r) = true := h
    rw [Bool.and_eq_true] at h2
    exact List.pairwise_cons.mpr ⟨rising_le _ _ h', sorted_pw (y :: r) h2.2⟩
theorem sorted_one {xs ys : List Str} (pm : xs.Perm ys) (hx : sortedS xs = true) (hy : sortedS ys = true) : xs = ys :=
  pm.eq_of_pairwise (fun a b _ _ h1 h2 => cd_ext (List.le_antisymm h1 h2)) (sorted_pw xs hx) (sorted_pw ys hy)
theorem txAll_perm : ∀ (xs acc : List Str), (xs ++ acc).Nodup → (xs.foldl txAdd acc).Perm (xs ++ acc)
  | [], acc, _ => List.Perm.refl _
  | x :: r, acc, h => by
    have h' : (x :: (r ++ acc)).Nodup := h
    obtain ⟨h1, h2⟩ := List.nodup_cons.mp h'
    have hx : x ∉ acc := fun q => h1 (List.mem_append_right _ q)
    have e : txAdd acc x = x :: acc := by unfold txAdd; rw [if_neg hx]
    show (r.foldl txAdd (txAdd acc x)).Perm (x :: (r ++ acc))
    rw [e]
    have pm : (r ++ x :: acc).Perm (x :: (r ++ acc)) := List.perm_middle
    exact (txAll_perm r (x :: acc) (pm.nodup_iff.mpr h')).trans pm
theorem nodup_perm_map {α β : Type} {f : α → β} {ys : List β} {xs : List α} (h : ys.Perm (xs.map f)) : ∃ zs : List α, ys = zs.map f ∧ zs.Perm xs := by
  have key : ∀ (as bs : List β), as.Perm bs → ∀ xs : List α, bs = xs.map f → ∃ zs : List α, as = zs.map f ∧ zs.Perm xs := by
    intro as bs pm
    induction pm with
    | nil => intro xs e; exact ⟨[], rfl, by rw [List.map_eq_nil_iff.mp e.symm]⟩
    | cons x _ ih =>
      intro xs e
      obtain ⟨a, r, rfl, rfl, er⟩ := List.map_eq_cons_iff.mp e.symm
      obtain ⟨zs, e1, p1⟩ := ih r er.symm
      exact ⟨a :: zs, by rw [e1]; rfl, p1.cons a⟩
    | swap x y l =>
      intro xs e
      obtain ⟨a, r, rfl, rfl, er⟩ := List.map_eq_cons_iff.mp e.symm
      obtain ⟨b, r2, rfl, rfl, er2⟩ := List.map_eq_cons_iff.mp er
      subst er2
      exact ⟨b :: a :: r2, rfl, List.Perm.swap a b r2⟩
    | trans _ _ ih1 ih2 =>
      intro xs e
      obtain ⟨zs, e1, p1⟩ := ih2 xs e
      obtain ⟨ws, e2, p2⟩ := ih1 zs e1
      exact ⟨ws, e2, p2.trans p1⟩
  exact key ys _ h xs rfl
end Jd
namespace Jd
open PySem PySem.Spec PyProof.Rows L2
/-! ### NoName, Keys -/
theorem passF {P : Program} {w : World} {X : Cx} : Passes (L2.CX P w) X (fun _ _ _ => False) := fun _ _ _ _ _ _ _ ⟨_, _, _, _, _, _, _, _, _, _, _, _, h⟩ => h.elim
def spNN (C : Addr) : Sp := fun vs H Q _ => ∃ (a : Addr) (v : V), vs = [.ref a, v] ∧ H a = some (exo a C none) ∧ ∀ dx, H dx = none → dx ≠ a → Q .non (upd (upd H dx (exd dx [("name", v)])) a (exo a C (some dx)))
/-- the first name of the tellings that is none -/
def firstOut (ns : List Str) : List (Str × Str) → Option Str
  | [] => none
  | p :: R => if p.1 ∈ ns then (if p.2 ∈ ns then firstOut ns R else some p.2) else some p.1
theorem out_none {ns : List Str} : ∀ {R : List (Str × Str)}, (∀ p ∈ R, p.1 ∈ ns ∧ p.2 ∈ ns) → firstOut ns R = none
  | [], _ => rfl
  | p :: R, h => by
    have q := h p List.mem_cons_self
    unfold firstOut
    rw [if_pos q.1, if_pos q.2]
    exact out_none fun p hp => h p (List.mem_cons_of_mem _ hp)
theorem out_in {ns : List Str} : ∀ {R : List (Str × Str)}, firstOut ns R = none → ∀ p ∈ R, p.1 ∈ ns ∧ p.2 ∈ ns
  | [], _, _, hp => by cases hp
  | p :: R, h, p', hp => by
    unfold firstOut at h
    split at h
    · split at h
      · rename_i h1 h2
        rcases List.mem_cons.mp hp with rfl | hp
        · exact ⟨h1, h2⟩
        · exact out_in h p' hp
      · cases h
    · cases h
theorem out_at {ns : List Str} : ∀ {R : List (Str × Str)} {i : Nat} {pr : Str × Str}, R[i]? = some pr → (∀ p ∈ R.take i, p.1 ∈ ns ∧ p.2 ∈ ns) → firstOut ns R = (if pr.1 ∈ ns then (if pr.2 ∈ ns then firstOut ns (R.drop (i + 1)) else some pr.2) else some pr.1)
  | [], i, pr, h, _ => by cases h
  | p :: R, 0, pr, h, _ => by
    cases h
    rfl
  | p :: R, i + 1, pr, h, hi => by
    have q := hi p List.mem_cons_self
    show firstOut ns (p :: R) = _
    conv => lhs; unfold firstOut
    rw [if_pos q.1, if_pos q.2]
    exact out_at (R := R) (i := i) h fun p hp => hi p (List.mem_cons_of_mem _ hp)
def KeysO (K : PySem.W.Frag) (H : Hp) (x : Addr) (ns : List Str) (t : Str → List Str) : Prop := ∃ (dx tn d : Addr) (A : Str → Addr), H x = some (.ins (He.ga K "Keys") dx [("_names", .ref tn), ("_told", .ref d)]) ∧ H tn = some (.tup (ns.map V.str)) ∧
  H d = some (.dK (kvT ns A)) ∧ (∀ n ∈ ns, H (A n) = some (.tup ((t n).map V.str))) ∧ ns.Nodup ∧ ns.length ≤ 7 ∧ (∀ n ∈ ns, PyData.strOk n = true) ∧ ∀ n ∈ ns, (t n).length ≤ 7 ∧ ∀ z ∈ t n, z ∈ ns
theorem KeysO.same {K : PySem.W.Frag} {H H' : Hp} {x : Addr} {ns : List Str} {t : Str → List Str} (h : KeysO K H x ns t) (s : Same H H') : KeysO K H' x ns t := by
  obtain ⟨dx, tn, d, A, h1, h2, h3, h4, h5⟩ := h
  exact ⟨dx, tn, d, A, s _ _ h1, s _ _ h2, s _ _ h3, fun n hn => s _ _ (h4 n hn), h5⟩
theorem KeysO.keep {K : PySem.W.Frag} {H H' : Hp} {x u : Addr} {ns : List Str} {t : Str → List Str} {xs : List V} (h : KeysO K H x ns t) (hu : H u = some (.lst xs)) (s : ∀ b o, b ≠ u → H b = some o → H' b = some o) : KeysO K H' x ns t := by
  obtain ⟨dx, tn, d, A, h1, h2, h3, h4, h5⟩ := h
  exact ⟨dx, tn, d, A, s _ _ (ne_of h1 hu (by intro z; cases z)) h1, s _ _ (ne_of h2 hu (by intro z; cases z)) h2, s _ _ (ne_of h3 hu (by intro z; cases z)) h3, fun n hn => s _ _ (ne_of (h4 n hn) hu (by intro z; cases z)) (h4 n hn), h5⟩
/-- all but the object at u is as it was -/
abbrev KeepX (u : Addr) (H H' : Hp) : Prop := ∀ b o, b ≠ u → H b = some o → H' b = some o
def ringOf (R : List (Str × Str)) (ns : List Str) : List Str := ns.filter fun n => decide (n ∈ toldOf R ns n)
def spKI (K : PySem.W.Frag) : Sp := fun vs H Q E => ∃ (x nm te dx : Addr) (names : List Str) (R : List (Str × Str)), vs = [.ref x, .ref nm, .ref te] ∧ H x = some (.ins (He.ga K "Keys") dx []) ∧ Sq K H nm (names.map V.str) ∧ names.length < 64 ∧ (txAll names).length ≤ 7 ∧ (∀ z ∈ names, PyData.strOk z = true) ∧ Tells K H te R ∧ R.length ≤ 64 ∧
  ∀ ns : List Str, ns.Perm (txAll names) → sortedS ns = true → ns.Nodup →
    (firstOut ns R = none → (ringOf R ns = [] → ∀ H', KeysO K H' x ns (toldOf R ns) → KeepX x H H' → Q .non H') ∧
      (ringOf R ns ≠ [] → ∀ H' d r, KeepX x H H' → H' d = some (.xd [("ring", .ref r)]) → H' r = some (.tup ((ringOf R ns).map V.str)) → E (.ref (He.ga K "Ringed")) (some d) H')) ∧
    (∀ z, firstOut ns R = some z → ∀ H' d, KeepX x H H' → H' d = some (.xd [("name", .str z)]) → E (.ref (He.ga K "NoName")) (some d) H')
def spVE (C : Addr) (f : Str) : Sp := fun vs H Q _ => ∃ (a : Addr) (v : V), vs = [.ref a, v] ∧ H a = some (exo a C none) ∧ ∀ dx, H dx = none → dx ≠ a → Q .non (upd (upd H dx (exd dx [(f, v)])) a (exo a C (some dx)))
section
variable {P : Program} {w : World} {K : PySem.W.Frag} {mg : Str → Option Value} {base : Heap}
theorem sc_nn : FnScope ["self", "name"] ["self", "name"] (defScope s_NoName___init__) := ⟨rfl, rfl, rfl, by decide +kernel, rfl, by decide +kernel, by decide +kernel⟩
theorem ok_nn (B : Bk K mg) : ∃ fd, FnOk P w K mg base CX0 1 (He.ma K (He.ga K "NoName") "__init__") fd ["self", "name"] (spNN (He.ga K "NoName")) ∧ Binds K fd ["self", "name"] [] := by
  obtain ⟨fd, F⟩ := B.F_NoName___init
  refine ⟨fd, ?_, F.binds fun _ _ _ _ _ _ us hl => match us, hl with | [_, _], _ => rfl⟩
  refine F.ok sc_nn (fun vs H Q E h => ?_) (fun cdv A outer s H vs Q E hr h => ?_)
  · obtain ⟨a, v, rfl, _⟩ := h
    rfl
  · obtain ⟨a, v, rfl, ha, k⟩ := h
    refine ⟨_, pss_cons (ps_expr (pe_leinit (by rfl) B.b_LookupError (by rfl) (pa_cons (pv 0) (pa_cons (pv 1) pa_nil)))) (pss_one (ps_leF (pv 0) (pv 1))), ?_⟩
    refine ⟨_, rfl, _, rfl, a, _, [v], rfl, (by show 1 ≤ 1000; decide), B.lx_NoName.1, ha, ?_⟩
    exact ⟨_, rfl, _, rfl, a, _, rfl, B.lx_NoName.1, B.nf_NoName_name, ha, fun dx n ne => k dx n ne⟩
theorem sc_rg : FnScope ["self", "ring"] ["self", "ring"] (defScope s_Ringed___init__) := ⟨rfl, rfl, rfl, by decide +kernel, rfl, by decide +kernel, by decide +kernel⟩
theorem ok_rg (B : Bk K mg) : ∃ fd, FnOk P w K mg base CX0 1 (He.ma K (He.ga K "Ringed") "__init__") fd ["self", "ring"] (spVE (He.ga K "Ringed") "ring") ∧ Binds K fd ["self", "ring"] [] := by
  obtain ⟨fd, F⟩ := B.F_Ringed___init
  refine ⟨fd, ?_, F.binds fun _ _ _ _ _ _ us hl => match us, hl with | [_, _], _ => rfl⟩
  refine F.ok sc_rg (fun vs H Q E h => ?_) (fun cdv A outer s H vs Q E hr h => ?_)
  · obtain ⟨a, v, rfl, _⟩ := h
    rfl
  · obtain ⟨a, v, rfl, ha, k⟩ := h
    refine ⟨_, pss_cons (ps_expr (pe_veinit (by rfl) B.b_ValueError (by rfl) (pa_cons (pv 0) (pa_cons (pv 1) pa_nil)))) (pss_one (ps_ost (pv 0) (pv 1))), ?_⟩
    refine ⟨_, rfl, _, rfl, a, _, [v], rfl, (by show 1 ≤ 1000; decide), B.ox_Ringed.1, ha, ?_⟩
    exact ⟨_, rfl, _, rfl, a, _, rfl, B.ox_Ringed.1, B.nf_Ringed_ring, .inl ⟨ha, fun dx n ne => k dx n ne⟩⟩
theorem sc_bl : FnScope ["self", "number"] ["self", "number"] (defScope s_BadLine___init__) := ⟨rfl, rfl, rfl, by decide +kernel, rfl, by decide +kernel, by decide +kernel⟩
theorem ok_bl (B : Bk K mg) : ∃ fd, FnOk P w K mg base CX0 1 (He.ma K (He.ga K "BadLine") "__init__") fd ["self", "number"] (spVE (He.ga K "BadLine") "number") ∧ Binds K fd ["self", "number"] [] := by
  obtain ⟨fd, F⟩ := B.F_BadLine___init
  refine ⟨fd, ?_, F.binds fun _ _ _ _ _ _ us hl => match us, hl with | [_, _], _ => rfl⟩
  refine F.ok sc_bl (fun vs H Q E h => ?_) (fun cdv A outer s H vs Q E hr h => ?_)
  · obtain ⟨a, v, rfl, _⟩ := h
    rfl
  · obtain ⟨a, v, rfl, ha, k⟩ := h
    refine ⟨_, pss_cons (ps_expr (pe_veinit (by rfl) B.b_ValueError (by rfl) (pa_cons (pv 0) (pa_cons (pv 1) pa_nil)))) (pss_one (ps_ost (pv 0) (pv 1))), ?_⟩
    refine ⟨_, rfl, _, rfl, a, _, [v], rfl, (by show 1 ≤ 1000; decide), B.ox_BadLine.1, ha, ?_⟩
    exact ⟨_, rfl, _, rfl, a, _, rfl, B.ox_BadLine.1, B.nf_BadLine_number, .inl ⟨ha, fun dx n ne => k dx n ne⟩⟩
abbrev NK : List Str := ["self", "names", "tells", "pair", "name", "ring"]
theorem sc_ki : FnScope ["self", "names", "tells", "pair", "name", "ring"] ["self", "names", "tells"] (defScope s_Keys___init__) := ⟨rfl, rfl, rfl, by decide +kernel, rfl, by decide +kernel, by decide +kernel⟩
theorem ok_Keys_init (B : Bk K mg) : ∃ fd, FnOk P w K mg base (L2.CX P w) 3 (He.ma K (He.ga K "Keys") "__init__") fd ["self", "names", "tells"] (spKI K) ∧ (∃ ds, Vals [.ref (dflA (fun K => He.ma K (He.ga K "Keys") "__init__") 0 K)] ds ∧ Binds K fd ["self", "names", "tells"] ds) ∧ FunD K "__init__" "Keys.__init__" (defArgs s_Keys___init__) (defBody s_Keys___init__) (defScope s_Keys___init__) (d_Keys___init__.dvs K) [] (He.ma K (He.ga K "Keys") "__init__") fd := by
  obtain ⟨fd, F⟩ := B.F_Keys___init
  obtain ⟨fdA, GA, bA⟩ := (ok_all_told (P := P) (w := w) (base := base) B).ex
  have kA := (ok_all_told (P := P) (w := w) (base := base) B).kp
  obtain ⟨fdE, GE, bE⟩ := ok_nn (P := P) (w := w) (base := base) B
  obtain ⟨lxc, li, lt⟩ := B.lx_NoName
  obtain ⟨fdR, GR, bR⟩ := ok_rg (P := P) (w := w) (base := base) B
  obtain ⟨oxc, oi, ot⟩ := B.ox_Ringed
  refine ⟨fd, ?_, ?_, F⟩
  · refine F.ok (CX := L2.CX P w) sc_ki (fun vs H Q E h => ?_) (fun cdv A outer s H vs Q E hr h => ?_)
    · obtain ⟨_, _, _, _, _, _, rfl, _⟩ := h
      rfl
    · obtain ⟨x, nm, te, dx, names, R, rfl, hx, hnm, n64, n7, gN, hte, h64, kk⟩ := h
      have hu := hu_of hr
      have hr1 : Room 1 _ := hr.mono (by decide)
      refine ⟨_, (pss_cons (ps_fld (pv 0) (pe_callTy call_tuple_of (by rfl) B.b_tuple (by decide +kernel) (pa_cons (pe_callB (cr_sortTx rfl) (by rfl) B.b_sorted (by decide +kernel) (pa_cons (pe_callTy (cr_setTx rfl) (by rfl) B.b_set (by decide +kernel) (pa_cons (pv 1) pa_nil)) pa_nil)) pa_nil)) rfl)
        (pss_cons (ps_for (passes_of rfl) rfl (pi_seq (pv 2)) (pg_name (i := 3) sc_ki.nd rfl (Or.inl rfl))
          (pss_one (ps_for (passes_of rfl) rfl (pi_seq (pv 3)) (pg_name (i := 4) sc_ki.nd rfl (Or.inl rfl))
            (pss_one (ps_if (pt_cmpR op_notIn_seq (pv 4) (pe_fld (pv 0) rfl) (by rfl)) (pss_one (ps_raise rfl (takes_of rfl rfl rfl rfl) (pmk_lex lxc li lt GE hr bE .nil pass0 (by rfl) B.g_NoName (pa_cons (pv 4) pa_nil)))) pss_nil)))))
        (pss_cons (ps_fld (pv 0) (pe_call GA hr1 rfl B.g_all_told kA bA .nil pass0 (pa_cons (pe_fld (pv 0) rfl) (pa_cons (pv 2) pa_nil))) rfl)
        (pss_cons (ps_set (i := 5) sc_ki.nd rfl (Or.inl rfl) (pe_callTy call_tuple_of (by rfl) B.b_tuple (by decide +kernel) (pa_cons (pe_lc (own := [("name", 4)]) (g := gName 4) (tt := tTest (tOp (rIn K false) (tVar 4) (tDGet (tFld K (tVar 0) "_told") (tVar 4)))) rfl sc_ki.nd (pi_tup (pe_fld (pv 0) rfl)) (blkOk_by (N := ["self", "names", "tells", "pair", "name", "ring"]) (sc := defScope s_Keys___init__) (by decide +kernel))
            (fun _ _ _ _ _ => pg_name (i := 4) sc_ki.nd rfl (Or.inl rfl)) (fun _ _ _ _ _ => pts_one (pt_cmpR op_in_seq (pv 4) (pe_dget hu (pe_fld (pv 0) rfl) (pv 4) (fun _ _ => rfl)) (by rfl))) (fun _ _ _ _ _ => pv 4)) pa_nil)))
        (pss_one (ps_if (pt_cmpR op_gt (pe_callB call_len_seq (by rfl) B.b_len (by decide +kernel) (pa_cons (pv 5) pa_nil)) pe_int (nomark _)) (pss_one (ps_raise rfl (takes_of rfl rfl rfl rfl) (pmk_oex oxc oi ot GR hr bR .nil pass0 (by rfl) B.g_Ringed (pa_cons (pv 5) pa_nil)))) pss_nil)))))), ?_⟩
      refine ⟨_, rfl, nm, names, rfl, hnm, n64, fun a na => ?_⟩
      refine ⟨a, _, rfl, upd_same, Nat.lt_of_le_of_lt n7 (by decide), fun ns p2 pm so nd0 np => ?_⟩
      refine ⟨p2, _, rfl, .inl ⟨SqL.of upd_same, fun t nt => ?_⟩⟩
      have nd : ns.Nodup := pm.nodup_iff.mpr nd0
      have l7 : ns.length ≤ 7 := by rw [pm.length_eq]; exact n7
      obtain ⟨kQ, kE⟩ := kk ns pm so nd
      dsimp only [cxOf, Cx.nox]
      have s1 : Same H (upd (upd (upd H a (TxO P w a (txAll names))) p2 (.lst (List.map V.str ns))) t (.tup (List.map V.str ns))) := Same_lay (Same_lay (Same_new na) np) nt
      have ht : (upd (upd (upd H a (TxO P w a (txAll names))) p2 (.lst (List.map V.str ns))) t (.tup (List.map V.str ns))) t = some (.tup (ns.map V.str)) := upd_same
      generalize (upd (upd (upd H a (TxO P w a (txAll names))) p2 (.lst (List.map V.str ns))) t (.tup (List.map V.str ns))) = H1 at s1 ht
      refine ⟨_, rfl, x, _, dx, [], rfl, s1 _ _ hx, B.cl_Keys, B.no_Keys__names, by decide, ?_⟩
      have htx : t ≠ x := ne_of ht (s1 _ _ hx) (by intro z; cases z)
      have kp2 : KeepX x H (upd H1 x (.ins (He.ga K "Keys") dx [("_names", .ref t)])) := fun b o n q => by
        rw [upd_ne n]
        exact s1 _ _ q
      have ht2 : (upd H1 x (.ins (He.ga K "Keys") dx [("_names", .ref t)])) t = some (.tup (ns.map V.str)) := by rw [upd_ne htx]; exact ht
      have hx2 : (upd H1 x (.ins (He.ga K "Keys") dx [("_names", .ref t)])) x = some (.ins (He.ga K "Keys") dx [("_names", .ref t)]) := upd_same
      have ep : putF ("_names" : Str) (V.ref t) [] = [(("_names" : Str), V.ref t)] := rfl
      rw [ep]
      generalize (upd H1 x (.ins (He.ga K "Keys") dx [("_names", .ref t)])) = H2 at kp2 ht2 hx2
      have hte2 := hte.keep hx kp2
      obtain ⟨ps, hps, pl, hpp⟩ := id hte2
      refine ⟨_, rfl, te, _, rfl, hps, fun J G wk hG => ?_⟩
      refine for_it wk (fun i σ H' => ∃ v3 v4 : Option V, σ = [some (.ref x), some (.ref nm), some (.ref te), v3, v4, Option.none] ∧ H' = H2 ∧ ∀ p ∈ R.take i, p.1 ∈ ns ∧ p.2 ∈ ns)
        ⟨_, _, rfl, rfl, fun p hp => by cases hp⟩ (fun i σ H' _ ⟨_, _, _, e, _⟩ => by rw [e]; exact hG _ fun _ _ z => z) (fun i v σ H3 H4 hi ⟨v3, v4, e, e1, hin⟩ y => ?_) (fun σ H3 ⟨v3, v4, e, e1, hin⟩ => ?_)
      · obtain ⟨rfl, hv⟩ := y
        subst e e1
        obtain ⟨p, hp, rfl⟩ := at_ref hv
        obtain ⟨pr, hpr, hq⟩ := hpp i p hp
        have oa := out_at hpr hin
        refine ⟨_, rfl, p, _, rfl, hq, fun J2 G2 wk2 hG2 => ?_⟩
        refine for_it wk2 (fun j σ H' => ∃ v4 : Option V, σ = [some (.ref x), some (.ref nm), some (.ref te), some (.ref p), v4, Option.none] ∧ H' = H4 ∧ (1 ≤ j → pr.1 ∈ ns) ∧ (2 ≤ j → pr.2 ∈ ns))
          ⟨_, rfl, rfl, fun h => absurd h (by decide), fun h => absurd h (by decide)⟩ (fun i σ H' _ ⟨_, _, e, _⟩ => by rw [e]; exact hG2 _ fun _ _ z => z) (fun j v σ H5 H6 hj ⟨v4, e, e1, g1, g2⟩ y => ?_) (fun σ H5 ⟨v4, e, e1, g1, g2⟩ => ?_)
        · obtain ⟨rfl, hv⟩ := y
          subst e e1
          obtain ⟨z, ez, hno, hyes⟩ : ∃ z : Str, v = .str z ∧ (z ∉ ns → firstOut ns R = some z) ∧ (z ∈ ns → (1 ≤ j + 1 → pr.1 ∈ ns) ∧ (2 ≤ j + 1 → pr.2 ∈ ns)) := by
            have hj2 : j < 2 := hj
            have hc : j = 0 ∨ j = 1 := by omega
            rcases hc with rfl | rfl
            · refine ⟨pr.1, (Option.some.inj hv).symm, fun h => ?_, fun h => ⟨fun _ => h, fun q => absurd q (by decide)⟩⟩
              rw [oa, if_neg h]
            · have q1 := g1 (by decide)
              refine ⟨pr.2, (Option.some.inj hv).symm, fun h => ?_, fun h => ⟨fun _ => q1, fun _ => h⟩⟩
              rw [oa, if_pos q1, if_neg h]
          subst ez
          refine ⟨_, rfl, _, rfl, x, _, dx, _, _, rfl, hx2, B.cl_Keys, B.no_Keys__names, rfl, t, _, rfl, .inr (SqT.of ht2), rfl, fl_str, _, rfl, two (fun h1 => ?_) (fun h1 => ?_)⟩
          · have h1' : (!inV (.str z) (ns.map V.str)) = true := h1
            rw [inV_str] at h1'
            have hz : z ∉ ns := fun q => by rw [decide_eq_true q] at h1'; cases h1'
            refine ⟨_, rfl, (by show 1 ≤ 1000; decide), fun a na => ⟨a, _, rfl, upd_same, fun ex nd ne => ⟨rfl, ex, [("name", .str z)], upd_same, ?_, ?_, ?_⟩⟩⟩
            · rw [upd_ne ne, upd_same]
            · rw [upd_ne ne] at nd
              exact nd
            · have nd' : H6 ex = none := by
                rw [upd_ne ne] at nd
                exact nd
              refine kE z (hno hz) _ ex (fun b o nb q => ?_) upd_same
              have q1 := kp2 b o nb q
              have nb : b ≠ a := ne_of_none q1 na
              rw [upd_ne (ne_of_none q1 nd'), del_ne nb, upd_ne nb, upd_ne (ne_of_none q1 nd'), upd_ne nb]
              exact q1
          · have h1' : (!inV (.str z) (ns.map V.str)) = false := h1
            rw [inV_str] at h1'
            have hz : z ∈ ns := by
              by_cases q : z ∈ ns
              · exact q
              · rw [decide_eq_false q] at h1'; cases h1'
            exact ⟨_, rfl, rfl, hyes hz⟩
        · subst e
          refine ⟨_, _, rfl, e1, fun p' hp' => ?_⟩
          rw [List.take_add_one, hpr] at hp'
          rcases List.mem_append.mp hp' with hp' | hp'
          · exact hin p' hp'
          · have e : p' = pr := by simpa using hp'
            subst e
            exact ⟨g1 (by show 1 ≤ 2; decide), g2 (by show 2 ≤ 2; decide)⟩
      · subst e
        cases e1
        have hall : ∀ p ∈ R, p.1 ∈ ns ∧ p.2 ∈ ns := by
          have q := hin
          rw [List.length_map, pl, List.take_length] at q
          exact q
        obtain ⟨kQ, kR⟩ := kQ (out_none hall)
        refine ⟨_, rfl, x, _, dx, _, _, rfl, hx2, B.cl_Keys, B.no_Keys__names, rfl, _, rfl, t, te, ns, R, rfl, SqT.of ht2, nd, l7, hte2, h64, fun H3 d A s3 hd hA => ?_⟩
        refine ⟨_, rfl, x, _, dx, _, rfl, s3 _ _ hx2, B.cl_Keys, B.no_Keys__told, (by show 1 < 1000; decide), ?_⟩
        have hx3 := s3 _ _ hx2
        have ht3 := s3 _ _ ht2
        have ep : putF ("_told" : Str) (V.ref d) [(("_names" : Str), V.ref t)] = [(("_names" : Str), V.ref t), (("_told" : Str), V.ref d)] := rfl
        rw [ep]
        have kp4 : KeepX x H (upd H3 x (.ins (He.ga K "Keys") dx [("_names", .ref t), ("_told", .ref d)])) := fun b o n q => by
          rw [upd_ne n]
          exact s3 _ _ (kp2 _ _ n q)
        have ht4 : (upd H3 x (.ins (He.ga K "Keys") dx [("_names", .ref t), ("_told", .ref d)])) t = some (.tup (ns.map V.str)) := by rw [upd_ne htx]; exact ht3
        have hd4 : (upd H3 x (.ins (He.ga K "Keys") dx [("_names", .ref t), ("_told", .ref d)])) d = some (.dK (kvT ns A)) := by rw [upd_ne (ne_of hd hx3 (by intro z; cases z))]; exact hd
        have hA4 : ∀ n ∈ ns, (upd H3 x (.ins (He.ga K "Keys") dx [("_names", .ref t), ("_told", .ref d)])) (A n) = some (.tup ((toldOf R ns n).map V.str)) := fun n hn => by rw [upd_ne (ne_of (hA n hn) hx3 (by intro z; cases z))]; exact hA n hn
        have hx4 : (upd H3 x (.ins (He.ga K "Keys") dx [("_names", .ref t), ("_told", .ref d)])) x = some (.ins (He.ga K "Keys") dx [("_names", .ref t), ("_told", .ref d)]) := upd_same
        generalize (upd H3 x (.ins (He.ga K "Keys") dx [("_names", .ref t), ("_told", .ref d)])) = H4 at kp4 ht4 hd4 hA4 hx4
        refine ⟨_, rfl, x, _, dx, _, _, rfl, hx4, B.cl_Keys, B.no_Keys__names, rfl, t, rfl, ⟨_, SqT.of ht4⟩, fun D hD => ?_⟩
        refine lc_fm (walk_tup (xs := ns.map V.str)) (fun i => (ns[i]?).bind fun n => if decide (n ∈ toldOf R ns n) = true then some (V.str n) else Option.none) hD (by rw [List.length_map]; exact Nat.le_trans l7 (by decide)) (fun H' s' => sm_seqT s' (SqT.of ht4)) (fun i v H5 H6 Kt Kf hi s5 y kt kf => ?_) (fun H5 s5 hD5 => ?_)
        · obtain ⟨rfl, hv⟩ := y
          obtain ⟨n, hn, rfl⟩ := at_str hv
          have hni : n ∈ ns := List.mem_of_getElem? hn
          have gd : DGet H6 d (.str n) (some (.ref (A n))) := by
            have q := DGet.k (k := Sum.inr n) (s5 _ _ hd4)
            rw [valV_kvT hni] at q
            exact q
          refine ⟨rfl, _, rfl, _, rfl, x, _, dx, _, _, rfl, s5 _ _ hx4, B.cl_Keys, B.no_Keys__told, rfl, _, rfl, d, _, rfl, gd, _, _, rfl, .inr (SqT.of (s5 _ _ (hA4 n hni))), rfl, fl_str, _, rfl, two (fun h1 => ?_) (fun h1 => ?_)⟩
          · have h1' : inV (.str n) ((toldOf R ns n).map V.str) = true := h1
            rw [inV_str] at h1'
            exact ⟨_, rfl, kt _ _ (by rw [hn]; show (if decide (n ∈ toldOf R ns n) = true then _ else _) = _; rw [if_pos h1']) (Same.refl _)⟩
          · have h1' : inV (.str n) ((toldOf R ns n).map V.str) = false := h1
            rw [inV_str] at h1'
            exact kf _ (by rw [hn]; show (if decide (n ∈ toldOf R ns n) = true then _ else _) = _; rw [if_neg (by rw [h1']; exact Bool.false_ne_true)]) (Same.refl _)
        · rw [List.length_map, fm_bind, fm_filter] at hD5
          replace hD5 : H5 D = some (.lst ((ringOf R ns).map V.str)) := hD5
          refine ⟨D, _, rfl, .inl ⟨SqL.of hD5, fun r nr => ?_⟩⟩
          have s6 : Same H4 (upd H5 r (.tup ((ringOf R ns).map V.str))) := Same_lay s5 nr
          have hr6 : (upd H5 r (.tup ((ringOf R ns).map V.str))) r = some (.tup ((ringOf R ns).map V.str)) := upd_same
          dsimp only [cxOf, Cx.nox]
          generalize (upd H5 r (.tup ((ringOf R ns).map V.str))) = H6 at s6 hr6
          refine ⟨_, rfl, r, _, rfl, .inr (SqT.of hr6), _, _, rfl, rfl, _, rfl, two (fun h1 => ?_) (fun h1 => ?_)⟩
          · have ne : ringOf R ns ≠ [] := fun z => by rw [z] at h1; cases h1
            refine ⟨_, rfl, (by show 1 ≤ 1000; decide), fun a na => ⟨a, _, rfl, upd_same, fun ex nd ne2 => ⟨rfl, ex, [("ring", .ref r)], upd_same, ?_, ?_, ?_⟩⟩⟩
            · rw [upd_ne ne2, upd_same]
            · rw [upd_ne ne2] at nd
              exact nd
            · have nd' : H6 ex = none := by
                rw [upd_ne ne2] at nd
                exact nd
              have lft : ∀ b o, H6 b = some o → (upd (del (upd (upd (upd H6 a (exo a (He.ga K "Ringed") none)) ex (exd ex [("ring", V.ref r)])) a (exo a (He.ga K "Ringed") (some ex))) a) ex (HO.xd [("ring", V.ref r)])) b = some o := fun b o q1 => by
                have nb : b ≠ a := ne_of_none q1 na
                rw [upd_ne (ne_of_none q1 nd'), del_ne nb, upd_ne nb, upd_ne (ne_of_none q1 nd'), upd_ne nb]
                exact q1
              exact kR ne _ ex r (fun b o nb q => lft _ _ (s6 _ _ (kp4 b o nb q))) upd_same (lft _ _ hr6)
          · have e0 : ringOf R ns = [] := by
              cases q : ringOf R ns with
              | nil => rfl
              | cons y l =>
                rw [q] at h1
                have h1' : decide ((0 : Int) < (((y :: l).map V.str).length : Nat)) = false := h1
                rw [List.length_map, List.length_cons] at h1'
                exact absurd (of_decide_eq_false h1') (by omega)
            exact kQ e0 _ ⟨dx, t, d, A, s6 _ _ hx4, s6 _ _ ht4, s6 _ _ hd4, fun n hn => s6 _ _ (hA4 n hn), nd, l7, fun n hn => gN n (((txAll_in names [] n).mp (pm.mem_iff.mp hn)).resolve_right List.not_mem_nil), fun n _ => ⟨Nat.le_trans (told_len R ns n) l7, fun z hz => (told_in.mp hz).1⟩⟩ (fun b o n q => s6 _ _ (kp4 _ _ n q))
  · have hd : d_Keys___init__.dvs K = [.ref (dflA (fun K => He.ma K (He.ga K "Keys") "__init__") 0 K)] := rfl
    rw [← hd]
    have q := F.binds1 (ps := ["self", "names", "tells"]) 2 0 (by rw [hd]; exact List.cons_ne_nil _ _) (by rw [hd]; rfl) (fun T kV doc pm an cdv ct us its hu hi => by
      rw [hd] at hi
      match us, its, hu, hi with
      | [_, _], [_], _, _ => exact ⟨_, rfl, rfl⟩)
    exact q
end
end Jd
namespace Jd
open PySem PySem.Spec PyProof.Rows L2
/-! ### dicts of tuples of texts compared -/
theorem eqv_strs : ∀ l m : List Str, PyData.eqvAll (l.map PyData.str) (m.map PyData.str) = decide (l = m)
  | [], [] => by simp [PyData.eqvAll]
  | [], y :: ys => by simp [PyData.eqvAll]
  | x :: xs, [] => by simp [PyData.eqvAll]
  | x :: xs, y :: ys => by
    rw [List.map_cons, List.map_cons, PyData.eqvAll, eqv_strs xs ys, PyData.eqv]
    by_cases h : x = y
    · subst h
      simp
    · have hb : (x == y) = false := by
        cases e : (x == y) with
        | false => rfl
        | true => exact absurd (eq_of_beq e) h
      rw [hb, Bool.false_and, decide_eq_false fun q => h (List.cons.inj q).1]
theorem lay_strs : ∀ l : List Str, (∀ z ∈ l, PyData.strOk z = true) → PyData.canLayAll0 (l.map PyData.str) = true
  | [], _ => by simp [PyData.canLayAll0]
  | x :: xs, h => by
    rw [List.map_cons]
    simp [PyData.canLayAll0, PyData.canLay0, lay_strs xs fun z hz => h z (List.mem_cons_of_mem _ hz), h x List.mem_cons_self]
theorem dep_strs : ∀ l : List Str, PyData.depthAll (l.map PyData.str) = 0
  | [] => by simp [PyData.depthAll]
  | x :: xs => by
    rw [List.map_cons]
    simp [PyData.depthAll, PyData.depth, dep_strs xs]
theorem dp_strs {K : PySem.W.Frag} {H : Hp} : ∀ l : List Str, DpAll K H (l.map V.str) (l.map PyData.str)
  | [] => .nil
  | x :: xs => .cons (.str x) (dp_strs xs)
def hitB (ms : List Str) (t u : Str → List Str) : List Str → Bool
  | [] => true
  | n :: r => if n ∈ ms then (decide (t n = u n) && hitB ms t u r) else false
theorem hitB_eq (ms : List Str) (t u : Str → List Str) : ∀ ns : List Str, hitB ms t u ns = decide (∀ n ∈ ns, n ∈ ms ∧ t n = u n)
  | [] => by
    unfold hitB
    exact (decide_eq_true fun n h => by cases h).symm
  | n :: r => by
    unfold hitB
    rw [hitB_eq ms t u r]
    by_cases h : n ∈ ms
    · rw [if_pos h, ← Bool.decide_and]
      refine decide_eq_decide.mpr ⟨fun q m hm => ?_, fun q => ⟨(q n List.mem_cons_self).2, fun m hm => q m (List.mem_cons_of_mem _ hm)⟩⟩
      rcases List.mem_cons.mp hm with rfl | hm
      · exact ⟨h, q.1⟩
      · exact q.2 m hm
    · rw [if_neg h]
      exact (decide_eq_false fun q => h (q n List.mem_cons_self).1).symm
def rEqT (K : PySem.W.Frag) : R2 := fun x y H Q => ∃ (a b : Addr) (ns ms : List Str) (A B : Str → Addr) (t u : Str → List Str), x = .ref a ∧ y = .ref b ∧ H a = some (.dK (kvT ns A)) ∧ H b = some (.dK (kvT ms B)) ∧
  (∀ n ∈ ns, H (A n) = some (.tup ((t n).map V.str))) ∧ (∀ n ∈ ms, H (B n) = some (.tup ((u n).map V.str))) ∧ (∀ n ∈ ns, ∀ z ∈ t n, PyData.strOk z = true) ∧ (∀ n ∈ ms, ∀ z ∈ u n, PyData.strOk z = true) ∧ Q (.bl (decide (ns.length = ms.length ∧ ∀ n ∈ ns, n ∈ ms ∧ t n = u n))) H
section
variable {X : Cx} {pins : List (Addr × Obj)} {σ : L2.St} {H : Hp} {s : Shared}
theorem hits_T (I : Inv X pins σ H s) {A0 : Around} (hu : A0.units + 1 < cLine) {ms : List Str} {A B : Str → Addr} {t u : Str → List Str} {vb : List (Key × Value)} (rb : KV (kvT ms B) vb) (hB : ∀ n ∈ ms, H (B n) = some (.tup ((u n).map V.str))) (gu : ∀ n ∈ ms, ∀ z ∈ u n, PyData.strOk z = true) :
    ∀ (ns : List Str) (va : List (Key × Value)), KV (kvT ns A) va → (∀ n ∈ ns, H (A n) = some (.tup ((t n).map V.str))) → (∀ n ∈ ns, ∀ z ∈ t n, PyData.strOk z = true) → PySem.W.KeqHitsP X.prog X.w A0 s vb va (hitB ms t u ns)
  | [], va, ra, _, _ => by
    cases ra
    exact .nil
  | n :: r, va, ra, hA, gt => by
    cases ra with
    | @cons p q ps qs h tl =>
      obtain ⟨key, v⟩ := q
      obtain ⟨h1, h2⟩ := h
      have h1' : (Sum.inr n : Key) = key := h1
      subst h1'
      cases (show v = Value.ref (A n) from h2)
      unfold hitB
      by_cases hm : n ∈ ms
      · rw [if_pos hm]
        have rr : RelO (some (V.ref (B n))) (valueAt vb (Sum.inr n)) := by
          have q := rb.val (Sum.inr n)
          rw [valV_kvT hm] at q
          exact q
        obtain ⟨y, hy, ry⟩ := rr.some_of
        cases (show y = Value.ref (B n) from ry)
        have d1 : Dp X.K H (.ref (A n)) (.tuple ((t n).map PyData.str)) := .tup (SqT.of (hA n List.mem_cons_self)) (dp_strs _)
        have d2 : Dp X.K H (.ref (B n)) (.tuple ((u n).map PyData.str)) := .tup (SqT.of (hB n hm)) (dp_strs _)
        obtain ⟨as, r1⟩ := Dp.reads I _ _ (.ref (A n)) d1 rfl
        obtain ⟨bs, r2⟩ := Dp.reads I _ _ (.ref (B n)) d2 rfl
        have e := SeqAt.eqAt_reads (.tuple ((t n).map PyData.str)) (.tuple ((u n).map PyData.str)) A0 s _ _ as bs r1 r2 (by simpa [PyData.canLay0] using lay_strs (t n) (gt n List.mem_cons_self)) (by simpa [PyData.canLay0] using lay_strs (u n) (gu n hm))
          (by
            have z1 : (PyData.tuple ((t n).map PyData.str)).depth = 1 := by simp [PyData.depth, dep_strs]
            rw [z1]
            have := Nat.min_le_left 1 (PyData.tuple ((u n).map PyData.str)).depth
            omega)
        have e2 : PyData.eqv (.tuple ((t n).map PyData.str)) (.tuple ((u n).map PyData.str)) = decide (t n = u n) := by
          rw [PyData.eqv]
          exact eqv_strs _ _
        rw [e2] at e
        exact .hit hy e.eqP (hits_T I hu rb hB gu r qs tl (fun m h => hA m (List.mem_cons_of_mem _ h)) fun m h => gt m (List.mem_cons_of_mem _ h))
      · rw [if_neg hm]
        have rr : RelO none (valueAt vb (Sum.inr n)) := by
          have q := rb.val (Sum.inr n)
          rw [valV_kvN hm] at q
          exact q
        exact .miss rr.none_of
theorem op_eqT (hu : X.A.units + 64 < cLine) : OpR X (compareOp .Eq) (rEqT X.K) := by
  intro pins s σ H x y v u Q I rx ry h
  obtain ⟨a, b, ns, ms, A, B, t, u', rfl, rfl, ha, hb, hA, hB, gt, gu, q⟩ := h
  cases (show v = Value.ref a from rx)
  cases (show u = Value.ref b from ry)
  obtain ⟨_, ya, va, ra, da⟩ := (show ObjOk X.prog X.w H s.heap a (.dK (kvT ns A)) from I.hok a _ ha)
  obtain ⟨_, yb, vb, rb, db⟩ := (show ObjOk X.prog X.w H s.heap b (.dK (kvT ms B)) from I.hok b _ hb)
  show wpAny (model X.prog X.w) X.A (richCompare .Eq (.ref a) (.ref b)) (EP X pins σ Q) X.xe s
  refine PySem.W.rcP_dicts (knd := mixKind X.prog X.w) (r := hitB ms t u' ns) ya yb da db (by omega) (fun _ => hits_T I (A0 := X.A.in1) (by show X.A.units + 1 + 1 < cLine; omega) rb hB gu ns va ra hA gt) _ _ ?_
  have e1 : va.length = ns.length := by rw [← ra.length, kvT_len]
  have e2 : vb.length = ms.length := by rw [← rb.length, kvT_len]
  have e : (va.length == vb.length && hitB ms t u' ns) = decide (ns.length = ms.length ∧ ∀ n ∈ ns, n ∈ ms ∧ t n = u' n) := by
    rw [e1, e2, hitB_eq, Bool.decide_and]
    rfl
  rw [e]
  exact ⟨.bl _, H, I, rfl, q⟩
end
end Jd
namespace Jd
open PySem PySem.Spec PyProof.Rows L2
/-! ### Keys asked -/
section
variable {J : It} {n : Nat} {G : Hp → Prop} {Y : Nat → Hp → V → Hp → Prop}
/-- a comprehension's outer walk: what a turn does is told whole -/
theorem walk_by (w : Walk J n G Y) (T : (Hp → Prop) → V → Hp → Prop) (Pv : Nat → Hp → Prop) {Z : Hp} {Qd : Hp → Prop} (h0 : Pv 0 Z) (hG : ∀ i H, Pv i H → G H)
    (hs : ∀ i x H H', i < n → Pv i H → Y i H x H' → T (Pv (i + 1)) x H') (hd : ∀ H, Pv n H → Qd H) :
    ∃ W : Nat → Nat → Hp → Prop, (∃ m, W 0 m Z) ∧ ∀ i m H, W i m H → (J.stop i H ∧ Qd H) ∨ (J.go i H ∧ ∃ Nx : Hp → Prop, (∀ H', Nx H' → ∃ m', m' < m ∧ W (i + 1) m' H') ∧ ∀ x H', J.yld i H x H' → T Nx x H') := by
  refine ⟨fun i m H => i + m = n ∧ Pv i H, ⟨n, by omega, h0⟩, fun i m H hw => ?_⟩
  obtain ⟨e, p⟩ := hw
  rcases Nat.eq_zero_or_pos m with z | z
  · have ei : i = n := by omega
    rw [ei] at p
    exact .inl ⟨by rw [ei]; exact w.stops H (hG _ _ p), hd H p⟩
  · have li : i < n := by omega
    exact .inr ⟨w.goes i H li (hG _ _ p), Pv (i + 1), fun H' q => ⟨m - 1, by omega, by omega, q⟩, fun x H' y => hs i x H H' li p (w.yields i H x H' li (hG _ _ p) y)⟩
end
/-- tuples of two texts, one behind another -/
def PrAt (H : Hp) (qs : List Addr) (prs : List (Str × Str)) : Prop := qs.length = prs.length ∧ ∀ (i : Nat) (q : Addr), qs[i]? = some q → ∃ pr, prs[i]? = some pr ∧ H q = some (.tup [.str pr.1, .str pr.2])
theorem PrAt.same {H H' : Hp} {qs : List Addr} {prs : List (Str × Str)} (h : PrAt H qs prs) (s : Same H H') : PrAt H' qs prs := ⟨h.1, fun i q hq => let ⟨pr, e, z⟩ := h.2 i q hq; ⟨pr, e, s _ _ z⟩⟩
theorem PrAt.nil {H : Hp} : PrAt H [] [] := ⟨rfl, fun i q h => by cases h⟩
theorem PrAt.snoc {H : Hp} {qs : List Addr} {prs : List (Str × Str)} {q : Addr} {pr : Str × Str} (h : PrAt H qs prs) (hq : H q = some (.tup [.str pr.1, .str pr.2])) : PrAt H (qs ++ [q]) (prs ++ [pr]) := by
  refine ⟨by rw [List.length_append, List.length_append, h.1]; rfl, fun i p hp => ?_⟩
  by_cases hi : i < qs.length
  · rw [List.getElem?_append_left hi] at hp
    obtain ⟨pr', e, z⟩ := h.2 i p hp
    exact ⟨pr', by rw [List.getElem?_append_left (by rw [← h.1]; exact hi)]; exact e, z⟩
  · rw [List.getElem?_append_right (by omega)] at hp
    have i0 : i - qs.length = 0 := by
      rcases Nat.eq_zero_or_pos (i - qs.length) with z | z
      · exact z
      · rw [List.getElem?_eq_none (by show 1 ≤ _; omega)] at hp
        cases hp
    rw [i0] at hp
    cases hp
    refine ⟨pr, ?_, hq⟩
    rw [List.getElem?_append_right (by rw [← h.1]; omega), ← h.1, i0]
    rfl
def pairsOf (ns : List Str) (t : Str → List Str) : List (Str × Str) := ns.flatMap fun n => (t n).map fun o => (n, o)
theorem pairs_len {t : Str → List Str} : ∀ {ns : List Str}, (∀ n ∈ ns, (t n).length ≤ 7) → (pairsOf ns t).length ≤ 7 * ns.length
  | [], _ => Nat.le_refl _
  | n :: r, h => by
    have q := pairs_len (ns := r) fun m hm => h m (List.mem_cons_of_mem _ hm)
    have q2 := h n List.mem_cons_self
    unfold pairsOf at q ⊢
    rw [List.flatMap_cons, List.length_append, List.length_map, List.length_cons]
    omega
theorem pairs_snoc {ns : List Str} {t : Str → List Str} {n : Str} : pairsOf (ns ++ [n]) t = pairsOf ns t ++ (t n).map fun o => (n, o) := by
  unfold pairsOf
  rw [List.flatMap_append]
  simp
def spCheck (K : PySem.W.Frag) : Sp := fun vs H Q E => ∃ (x : Addr) (z : Str) (ns : List Str) (t : Str → List Str), vs = [.ref x, .str z] ∧ KeysO K H x ns t ∧ ((z = "#" ∨ z ∈ ns) → Q .non H) ∧
  (¬ (z = "#" ∨ z ∈ ns) → ∀ H' d, Same H H' → H' d = some (.xd [("name", .str z)]) → E (.ref (He.ga K "NoName")) (some d) H')
def toldAt (ns : List Str) (t : Str → List Str) (z : Str) : List Str := if z = "#" then ns else t z
def spTold (K : PySem.W.Frag) : Sp := fun vs H Q E => ∃ (x : Addr) (z : Str) (ns : List Str) (t : Str → List Str), vs = [.ref x, .str z] ∧ KeysO K H x ns t ∧ ((z = "#" ∨ z ∈ ns) → ∀ p, H p = some (.tup ((toldAt ns t z).map V.str)) → Q (.ref p) H) ∧
  (¬ (z = "#" ∨ z ∈ ns) → ∀ H' d, Same H H' → H' d = some (.xd [("name", .str z)]) → E (.ref (He.ga K "NoName")) (some d) H')
def spTells (K : PySem.W.Frag) : Sp := fun vs H Q E => ∃ (x : Addr) (z y : Str) (ns : List Str) (t : Str → List Str), vs = [.ref x, .str z, .str y] ∧ KeysO K H x ns t ∧ ((z = "#" ∨ z ∈ ns) → (y = "#" ∨ y ∈ ns) → Q (.bl (decide (y ∈ toldAt ns t z))) H) ∧
  (∀ b : Str, (if (z = "#" ∨ z ∈ ns) then (¬ (y = "#" ∨ y ∈ ns) ∧ b = y) else b = z) → ∀ H' d, Same H H' → H' d = some (.xd [("name", .str b)]) → E (.ref (He.ga K "NoName")) (some d) H')
def spNames (K : PySem.W.Frag) : Sp := fun vs H Q _ => ∃ (x : Addr) (ns : List Str) (t : Str → List Str), vs = [.ref x] ∧ KeysO K H x ns t ∧ ∀ p, H p = some (.tup (ns.map V.str)) → Q (.ref p) H
def spPairs (K : PySem.W.Frag) : Sp := fun vs H Q _ => ∃ (x : Addr) (ns : List Str) (t : Str → List Str), vs = [.ref x] ∧ KeysO K H x ns t ∧ ∀ H' p qs, Same H H' → H' p = some (.tup (qs.map V.ref)) → PrAt H' qs (pairsOf ns t) → Q (.ref p) H'
def spHas (K : PySem.W.Frag) : Sp := fun vs H Q _ => ∃ (x : Addr) (z : Str) (ns : List Str) (t : Str → List Str), vs = [.ref x, .str z] ∧ KeysO K H x ns t ∧ Q (.bl (decide (z ∈ ns))) H
def spLenK (K : PySem.W.Frag) : Sp := fun vs H Q _ => ∃ (x : Addr) (ns : List Str) (t : Str → List Str), vs = [.ref x] ∧ KeysO K H x ns t ∧ Q (.int ns.length) H
def spEqK (K : PySem.W.Frag) : Sp := fun vs H Q _ => ∃ (x y : Addr) (ns : List Str) (t : Str → List Str), vs = [.ref x, .ref y] ∧ KeysO K H x ns t ∧
  ((∃ (ms : List Str) (u : Str → List Str), KeysO K H y ms u ∧ Q (.bl (decide (ns.length = ms.length ∧ ∀ n ∈ ns, n ∈ ms ∧ t n = u n))) H) ∨ ((∃ xs, H y = some (.tup xs)) ∧ Q (.bl false) H))
/-- a name that is none, told by its error -/
theorem rd_nn {C : Addr} {i : Nat} {σ : L2.St} {H1 : Hp} {z : Str} {E : XK} (hσ : σ[i]? = some (some (.str z))) (h : ∀ H' d, Same H1 H' → H' d = some (.xd [("name", .str z)]) → E (.ref C) (some d) H') : tMkO C (spNN C) [] (tCons (tVar i) tNil) σ H1 E := by
  refine ⟨_, hσ, (by show 1 ≤ 1000; decide), fun a na => ⟨a, _, rfl, upd_same, fun ex nd ne => ⟨rfl, ex, [("name", .str z)], upd_same, ?_, ?_, ?_⟩⟩⟩
  · rw [upd_ne ne, upd_same]
  · rw [upd_ne ne] at nd
    exact nd
  · have nd' : H1 ex = none := by
      rw [upd_ne ne] at nd
      exact nd
    refine h _ ex (fun b o q => ?_) upd_same
    have nb : b ≠ a := ne_of_none q na
    rw [upd_ne (ne_of_none q nd'), del_ne nb, upd_ne nb, upd_ne (ne_of_none q nd'), upd_ne nb]
    exact q
theorem str_eq (a b : Str) : decide (V.str a = V.str b) = decide (a = b) := decide_eq_decide.mpr ⟨V.str.inj, fun e => e ▸ rfl⟩
section
variable {P : Program} {w : World} {K : PySem.W.Frag} {mg : Str → Option Value} {base : Heap}
theorem sc_ck : FnScope ["self", "name"] ["self", "name"] (defScope s_Keys__check) := ⟨rfl, rfl, rfl, by decide +kernel, rfl, by decide +kernel, by decide +kernel⟩
theorem ok_check (B : Bk K mg) : ∃ fd, FnOk P w K mg base (L2.CX P w) 3 (He.ma K (He.ga K "Keys") "_check") fd ["self", "name"] (spCheck K) ∧ Binds K fd ["self", "name"] [] := by
  obtain ⟨fd, F⟩ := B.F_Keys__check
  obtain ⟨fdE, GE, bE⟩ := ok_nn (P := P) (w := w) (base := base) B
  obtain ⟨lxc, li, lt⟩ := B.lx_NoName
  refine ⟨fd, ?_, F.binds fun _ _ _ _ _ _ us hl => match us, hl with | [_, _], _ => rfl⟩
  refine F.okX sc_ck (fun vs H Q E h => ?_) (fun cdv A outer s H vs Q E hr h => ?_)
  · obtain ⟨_, _, _, _, rfl, _⟩ := h
    rfl
  · obtain ⟨x, z, ns, t, rfl, ⟨dx, tn, d, A, hx, ht, hd, hq⟩, k, kE⟩ := h
    refine ⟨_, pss_one (ps_if (PW.pt (pw_and (pt_cmpR op_ne (pv 1) pe_str (nomark _)) (pw_and1 (pt_cmpR op_notIn_seq (pv 1) (pe_fld (pv 0) rfl) (by rfl)))))
      (pss_one (ps_raise rfl (takes_of rfl rfl rfl rfl) (pmk_lex lxc li lt GE hr bE .nil pass0 (by rfl) B.g_NoName (pa_cons (pv 1) pa_nil)))) pss_nil), ?_⟩
    refine ⟨_, rfl, rfl, _, rfl, two (fun h1 => ?_) (fun h1 => ?_)⟩
    · refine ⟨_, rfl, _, rfl, x, _, dx, _, _, rfl, hx, B.cl_Keys, B.no_Keys__names, rfl, tn, _, rfl, .inr (SqT.of ht), rfl, fl_str, _, rfl, two (fun h2 => ?_) (fun h2 => ?_)⟩
      · have h1' : (!decide (V.str z = V.str "#")) = true := h1
        have h2' : (!inV (.str z) (ns.map V.str)) = true := h2
        rw [str_eq] at h1'
        rw [inV_str] at h2'
        have n1 : ¬ z = "#" := fun q => by rw [decide_eq_true q] at h1'; cases h1'
        have n2 : z ∉ ns := fun q => by rw [decide_eq_true q] at h2'; cases h2'
        exact rd_nn rfl (kE fun q => q.elim n1 n2)
      · have h2' : (!inV (.str z) (ns.map V.str)) = false := h2
        rw [inV_str] at h2'
        have n2 : z ∈ ns := by
          by_cases q : z ∈ ns
          · exact q
          · rw [decide_eq_false q] at h2'; cases h2'
        exact k (.inr n2)
    · have h1' : (!decide (V.str z = V.str "#")) = false := h1
      rw [str_eq] at h1'
      have n1 : z = "#" := by
        by_cases q : z = "#"
        · exact q
        · rw [decide_eq_false q] at h1'; cases h1'
      exact iteF (k (.inl n1))
theorem sc_td : FnScope ["self", "name"] ["self", "name"] (defScope s_Keys_told) := ⟨rfl, rfl, rfl, by decide +kernel, rfl, by decide +kernel, by decide +kernel⟩
theorem ok_told (B : Bk K mg) : ∃ fd, FnOk P w K mg base (L2.CX P w) 4 (He.ma K (He.ga K "Keys") "told") fd ["self", "name"] (spTold K) ∧ Fun K "told" "Keys.told" s_Keys_told (He.ma K (He.ga K "Keys") "told") fd := by
  obtain ⟨fd, F⟩ := B.F_Keys_told
  obtain ⟨fdC, GC, bC⟩ := ok_check (P := P) (w := w) (base := base) B
  refine ⟨fd, ?_, F⟩
  refine F.okX sc_td (fun vs H Q E h => ?_) (fun cdv A outer s H vs Q E hr h => ?_)
  · obtain ⟨_, _, _, _, rfl, _⟩ := h
    rfl
  · obtain ⟨x, z, ns, t, rfl, ko, k, kE⟩ := h
    have hu := hu_of hr
    refine ⟨_, pss_cons (ps_expr (pe_meth (pv 0) B.cl_Keys B.me_Keys__check GC hr bC .nil (passes_call (takes_of rfl rfl rfl rfl) (fun _ _ _ _ h => h)) (pa_cons (pv 1) pa_nil)))
      (pss_cons (ps_if (pt_cmpR op_eq (pv 1) pe_str (nomark _)) (pss_one (ps_ret (pe_fld (pv 0) rfl))) pss_nil)
      (pss_one (ps_ret (pe_dget hu (pe_fld (pv 0) rfl) (pv 1) (fun _ _ => rfl))))), ?_⟩
    obtain ⟨dx, tn, d, A, hx, ht, hd, hq, _⟩ := id ko
    refine ⟨_, rfl, x, dx, _, rfl, hx, rfl, _, rfl, x, z, ns, t, rfl, ko, fun hz => ?_, kE⟩
    have k := k hz
    refine ⟨_, rfl, rfl, _, rfl, two (fun h1 => ?_) (fun h1 => ?_)⟩
    · have h1' : decide (V.str z = V.str "#") = true := h1
      rw [str_eq] at h1'
      have e : z = "#" := of_decide_eq_true h1'
      unfold toldAt at k
      rw [if_pos e] at k
      exact ⟨_, rfl, x, _, dx, _, _, rfl, hx, B.cl_Keys, B.no_Keys__names, rfl, k tn ht⟩
    · have h1' : decide (V.str z = V.str "#") = false := h1
      rw [str_eq] at h1'
      have e : ¬ z = "#" := of_decide_eq_false h1'
      unfold toldAt at k
      rw [if_neg e] at k
      have hz2 : z ∈ ns := hz.resolve_left e
      have gd : DGet H d (.str z) (some (.ref (A z))) := by
        have q := DGet.k (k := Sum.inr z) hd
        rw [valV_kvT hz2] at q
        exact q
      exact ⟨_, rfl, x, _, dx, _, _, rfl, hx, B.cl_Keys, B.no_Keys__told, rfl, _, rfl, d, _, rfl, gd, k _ (hq z hz2)⟩
theorem sc_tl : FnScope ["self", "one", "other"] ["self", "one", "other"] (defScope s_Keys_tells) := ⟨rfl, rfl, rfl, by decide +kernel, rfl, by decide +kernel, by decide +kernel⟩
theorem ok_tells (B : Bk K mg) : ∃ fd, FnOk P w K mg base (L2.CX P w) 5 (He.ma K (He.ga K "Keys") "tells") fd ["self", "one", "other"] (spTells K) ∧ Fun K "tells" "Keys.tells" s_Keys_tells (He.ma K (He.ga K "Keys") "tells") fd := by
  obtain ⟨fd, F⟩ := B.F_Keys_tells
  obtain ⟨fdC, GC, bC⟩ := ok_check (P := P) (w := w) (base := base) B
  obtain ⟨fdT, GT, FT⟩ := ok_told (P := P) (w := w) (base := base) B
  have bT : Binds K fdT ["self", "name"] [] := FT.binds fun _ _ _ _ _ _ us hl => match us, hl with | [_, _], _ => rfl
  refine ⟨fd, ?_, F⟩
  refine F.okX sc_tl (fun vs H Q E h => ?_) (fun cdv A outer s H vs Q E hr h => ?_)
  · obtain ⟨_, _, _, _, _, rfl, _⟩ := h
    rfl
  · obtain ⟨x, z, y, ns, t, rfl, ko, k, kE⟩ := h
    have hr3 : Room 3 _ := hr.mono (by decide)
    refine ⟨_, pss_cons (ps_expr (pe_meth (pv 0) B.cl_Keys B.me_Keys__check GC hr3 bC .nil (passes_call (takes_of rfl rfl rfl rfl) (fun _ _ _ _ h => h)) (pa_cons (pv 1) pa_nil)))
      (pss_cons (ps_expr (pe_meth (pv 0) B.cl_Keys B.me_Keys__check GC hr3 bC .nil (passes_call (takes_of rfl rfl rfl rfl) (fun _ _ _ _ h => h)) (pa_cons (pv 2) pa_nil)))
      (pss_one (ps_ret (pe_cmpR op_in_seq (pv 2) (pe_meth (pv 0) B.cl_Keys B.me_Keys_told GT hr bT .nil (passes_call (takes_of rfl rfl rfl rfl) (fun _ _ _ _ h => h)) (pa_cons (pv 1) pa_nil)) (by rfl))))), ?_⟩
    obtain ⟨dx, tn, d, A, hx, _⟩ := id ko
    refine ⟨_, rfl, x, dx, _, rfl, hx, rfl, _, rfl, x, z, ns, t, rfl, ko, fun hz => ?_, fun hz => kE z (by rw [if_neg hz])⟩
    refine ⟨_, rfl, x, dx, _, rfl, hx, rfl, _, rfl, x, y, ns, t, rfl, ko, fun hy => ?_, fun hy => kE y (by rw [if_pos hz]; exact ⟨hy, rfl⟩)⟩
    refine ⟨_, rfl, _, rfl, x, dx, _, rfl, hx, rfl, _, rfl, x, z, ns, t, rfl, ko, fun _ p hp => ?_, fun h => absurd hz h⟩
    refine ⟨p, _, rfl, .inr (SqT.of hp), rfl, fl_str, ?_⟩
    show Q (.bl (inV (.str y) ((toldAt ns t z).map V.str))) H
    rw [inV_str]
    exact k hz hy
theorem sc_nm : FnScope ["self"] ["self"] (defScope s_Keys_p_names) := ⟨rfl, rfl, rfl, by decide +kernel, rfl, by decide +kernel, by decide +kernel⟩
theorem ok_names (B : Bk K mg) : ∃ fd, FnOk P w K mg base CX0 1 (propG K "Keys" "names") fd ["self"] (spNames K) ∧ Binds K fd ["self"] [] := by
  obtain ⟨fd, F⟩ := B.F_Keys_p_names
  refine ⟨fd, ?_, F.binds fun _ _ _ _ _ _ us hl => match us, hl with | [_], _ => rfl⟩
  refine F.ok sc_nm (fun vs H Q E h => ?_) (fun cdv A outer s H vs Q E hr h => ?_)
  · obtain ⟨_, _, _, rfl, _⟩ := h
    rfl
  · obtain ⟨x, ns, t, rfl, ⟨dx, tn, d, A, hx, ht, hd, hq⟩, k⟩ := h
    refine ⟨_, pss_one (ps_ret (pe_fld (pv 0) rfl)), ?_⟩
    exact ⟨_, rfl, x, _, dx, _, _, rfl, hx, B.cl_Keys, B.no_Keys__names, rfl, k tn ht⟩
theorem sc_hs : FnScope ["self", "name"] ["self", "name"] (defScope s_Keys___contains__) := ⟨rfl, rfl, rfl, by decide +kernel, rfl, by decide +kernel, by decide +kernel⟩
theorem ok_has (B : Bk K mg) : ∃ fd, FnOk P w K mg base CX0 1 (He.ma K (He.ga K "Keys") "__contains__") fd ["self", "name"] (spHas K) ∧ Binds K fd ["self", "name"] [] := by
  obtain ⟨fd, F⟩ := B.F_Keys___contains
  refine ⟨fd, ?_, F.binds fun _ _ _ _ _ _ us hl => match us, hl with | [_, _], _ => rfl⟩
  refine F.ok sc_hs (fun vs H Q E h => ?_) (fun cdv A outer s H vs Q E hr h => ?_)
  · obtain ⟨_, _, _, _, rfl, _⟩ := h
    rfl
  · obtain ⟨x, z, ns, t, rfl, ⟨dx, tn, d, A, hx, ht, hd, hq⟩, k⟩ := h
    refine ⟨_, pss_one (ps_ret (pe_cmpR op_in_seq (pv 1) (pe_fld (pv 0) rfl) (by rfl))), ?_⟩
    refine ⟨_, rfl, _, rfl, x, _, dx, _, _, rfl, hx, B.cl_Keys, B.no_Keys__names, rfl, tn, _, rfl, .inr (SqT.of ht), rfl, fl_str, ?_⟩
    show Q (.bl (inV (.str z) (ns.map V.str))) H
    rw [inV_str]
    exact k
theorem sc_ln : FnScope ["self"] ["self"] (defScope s_Keys___len__) := ⟨rfl, rfl, rfl, by decide +kernel, rfl, by decide +kernel, by decide +kernel⟩
theorem ok_lenK (B : Bk K mg) : ∃ fd, FnOk P w K mg base CX0 1 (He.ma K (He.ga K "Keys") "__len__") fd ["self"] (spLenK K) ∧ Binds K fd ["self"] [] := by
  obtain ⟨fd, F⟩ := B.F_Keys___len
  refine ⟨fd, ?_, F.binds fun _ _ _ _ _ _ us hl => match us, hl with | [_], _ => rfl⟩
  refine F.ok sc_ln (fun vs H Q E h => ?_) (fun cdv A outer s H vs Q E hr h => ?_)
  · obtain ⟨_, _, _, rfl, _⟩ := h
    rfl
  · obtain ⟨x, ns, t, rfl, ⟨dx, tn, d, A, hx, ht, hd, hq⟩, k⟩ := h
    refine ⟨_, pss_one (ps_ret (pe_callB call_len_seq (by rfl) B.b_len (by decide +kernel) (pa_cons (pe_fld (pv 0) rfl) pa_nil))), ?_⟩
    refine ⟨_, rfl, x, _, dx, _, _, rfl, hx, B.cl_Keys, B.no_Keys__names, rfl, tn, _, rfl, .inr (SqT.of ht), ?_⟩
    show Q (.int ((ns.map V.str).length : Nat)) H
    rw [List.length_map]
    exact k
theorem sc_eq : FnScope ["self", "other"] ["self", "other"] (defScope s_Keys___eq__) := ⟨rfl, rfl, rfl, by decide +kernel, rfl, by decide +kernel, by decide +kernel⟩
theorem ok_eqK (B : Bk K mg) : ∃ fd, FnOk P w K mg base CX0 1 (He.ma K (He.ga K "Keys") "__eq__") fd ["self", "other"] (spEqK K) ∧ Binds K fd ["self", "other"] [] := by
  obtain ⟨fd, F⟩ := B.F_Keys___eq
  refine ⟨fd, ?_, F.binds fun _ _ _ _ _ _ us hl => match us, hl with | [_, _], _ => rfl⟩
  refine F.ok sc_eq (fun vs H Q E h => ?_) (fun cdv A outer s H vs Q E hr h => ?_)
  · obtain ⟨_, _, _, _, rfl, _⟩ := h
    rfl
  · obtain ⟨x, y, ns, t, rfl, ⟨dx, tn, d, A, hx, ht, hd, hq, g1, g2, g3, g4⟩, h⟩ := h
    refine ⟨_, pss_one (ps_ret (pe_and (pe_callB call_isi (by rfl) B.b_isinstance (by decide +kernel) (pa_cons (pv 1) (pa_cons (pe_glob (v := .ref (He.ga K "Keys")) rfl B.g_Keys rfl) pa_nil)))
      (pe_one (pe_cmpR (op_eqT hr.units) (pe_fld (pv 0) rfl) (pe_fld (pv 1) rfl) (nomark _))))), ?_⟩
    rcases h with ⟨ms, u, ⟨ey, tm, e, B', hy, hm, he, hq', f1, f2, f3, f4⟩, k⟩ | ⟨⟨xs, hy⟩, k⟩
    · obtain ⟨ha, hn, htk, hmo⟩ := B.ty_Keys
      refine ⟨_, rfl, _, _, _, _, _, rfl, .own _, .base (.ins hy B.cl_Keys ha hn htk hmo), B.kit_Keys_Keys, _, rfl, iteT ?_⟩
      refine ⟨_, rfl, x, _, dx, _, _, rfl, hx, B.cl_Keys, B.no_Keys__told, rfl, _, rfl, y, _, ey, _, _, rfl, hy, B.cl_Keys, B.no_Keys__told, rfl, ?_⟩
      exact ⟨d, e, ns, ms, A, B', t, u, rfl, rfl, hd, he, hq, hq', fun n hn z hz => g3 z ((g4 n hn).2 z hz), fun n hn z hz => f3 z ((f4 n hn).2 z hz), k⟩
    · exact ⟨_, rfl, _, _, _, _, _, rfl, .own _, .base (.tup hy), B.kit_tuple_Keys, _, rfl, iteF k⟩
theorem sc_pr : FnScope ["self", "one", "other"] ["self"] (defScope s_Keys_p_pairs) := ⟨rfl, rfl, rfl, by decide +kernel, rfl, by decide +kernel, by decide +kernel⟩
theorem ok_pairs (B : Bk K mg) : ∃ fd, FnOk P w K mg base CX0 1 (propG K "Keys" "pairs") fd ["self"] (spPairs K) ∧ Binds K fd ["self"] [] := by
  obtain ⟨fd, F⟩ := B.F_Keys_p_pairs
  refine ⟨fd, ?_, F.binds fun _ _ _ _ _ _ us hl => match us, hl with | [_], _ => rfl⟩
  refine F.ok sc_pr (fun vs H Q E h => ?_) (fun cdv A outer s H vs Q E hr h => ?_)
  · obtain ⟨_, _, _, rfl, _⟩ := h
    rfl
  · obtain ⟨x, ns, t, rfl, ⟨dx, tn, d, A, hx, ht, hd, hq, g1, g2, g3, g4⟩, k⟩ := h
    have hu := hu_of hr
    refine ⟨_, pss_one (ps_ret (pe_callTy call_tuple_of (by rfl) B.b_tuple (by decide +kernel) (pa_cons (pe_lc2 (own := [("one", 1), ("other", 2)]) (vs1 := [2]) (g := gName 1) (g1 := gName 2) (tt := tYes) (tt1 := tYes)
          (wi1 := iTup K (tDGet (tFld K (tVar 0) "_told") (tVar 1))) rfl sc_pr.nd (pi_tup (pe_fld (pv 0) rfl)) (blkOk_by (N := ["self", "one", "other"]) (sc := defScope s_Keys_p_pairs) (by decide +kernel)) (by decide)
          (fun _ _ _ _ _ => pg_name (i := 1) sc_pr.nd rfl (Or.inl rfl)) (fun _ _ _ _ _ => pts_nil)
          (fun _ _ _ _ _ => pi_tup (pe_dget hu (pe_fld (pv 0) rfl) (pv 1) (fun _ _ => rfl))) (fun _ _ _ _ _ => pg_name (i := 2) sc_pr.nd rfl (Or.inl rfl)) (fun _ _ _ _ _ => pts_nil) (fun _ _ _ _ _ => pe_tup (pa_cons (pv 1) (pa_cons (pv 2) pa_nil)))) pa_nil))), ?_⟩
    refine ⟨_, rfl, x, _, dx, _, _, rfl, hx, B.cl_Keys, B.no_Keys__names, rfl, tn, rfl, ⟨_, SqT.of ht⟩, fun D hD => ?_⟩
    refine walk_by (walk_tup (xs := ns.map V.str)) _ (fun i H' => Same H H' ∧ i ≤ ns.length ∧ ∃ qs : List Addr, H' D = some (.lst (qs.map V.ref)) ∧ PrAt H' qs (pairsOf (ns.take i) t))
      ⟨Same_new hD, Nat.zero_le _, [], upd_same, PrAt.nil⟩ (fun i H' p => sm_seqT p.1 (SqT.of ht)) (fun i v H1 H2 hi ⟨s1, li, qs, hD1, hp1⟩ y => ?_) (fun H1 ⟨s1, _, qs, hD1, hp1⟩ => ?_)
    · obtain ⟨rfl, hv⟩ := y
      obtain ⟨n, hn, rfl⟩ := at_str hv
      have hni : n ∈ ns := List.mem_of_getElem? hn
      have gd : ∀ H', Same H H' → DGet H' d (.str n) (some (.ref (A n))) := fun H' s' => by
        have q := DGet.k (k := Sum.inr n) (s' _ _ hd)
        rw [valV_kvT hni] at q
        exact q
      have hi' : i < ns.length := by rw [List.length_map] at hi; exact hi
      refine ⟨rfl, iteT (B := Same H H2 ∧ i + 1 ≤ ns.length ∧ ∃ qs : List Addr, H2 D = some (.lst (qs.map V.ref)) ∧ PrAt H2 qs (pairsOf (ns.take (i + 1)) t)) ?_⟩
      refine ⟨_, rfl, x, _, dx, _, _, rfl, s1 _ _ hx, B.cl_Keys, B.no_Keys__told, rfl, _, rfl, d, _, rfl, gd _ s1, _, rfl, ⟨_, SqT.of (s1 _ _ (hq n hni))⟩, ?_⟩
      refine walk_by (walk_tup (xs := (t n).map V.str)) _ (fun j H' => Same H H' ∧ j ≤ (t n).length ∧ ∃ qs : List Addr, H' D = some (.lst (qs.map V.ref)) ∧ PrAt H' qs (pairsOf (ns.take i) t ++ ((t n).take j).map fun o => (n, o)))
        ⟨s1, Nat.zero_le _, qs, hD1, by rw [List.take_zero, List.map_nil, List.append_nil]; exact hp1⟩ (fun j H' p => sm_seqT p.1 (SqT.of (hq n hni))) (fun j v H3 H4 hj ⟨s3, lj, qs3, hD3, hp3⟩ y => ?_) (fun H3 ⟨s3, _, qs3, hD3, hp3⟩ => ?_)
      · obtain ⟨rfl, hv⟩ := y
        obtain ⟨o, ho, rfl⟩ := at_str hv
        have hj' : j < (t n).length := by rw [List.length_map] at hj; exact hj
        refine ⟨rfl, iteT (B := ∃ z : Nat, z = 0) ?_⟩
        refine ⟨_, rfl, _, rfl, (by show 2 ≤ sizeLine; decide), fun q nq => ?_⟩
        have s4 := Same_new (o := HO.tup [.str n, .str o]) nq
        have hD4 := s4 _ _ hD3
        have lq : qs3.length < sizeLine := by
          have z := hp3.1
          rw [List.length_append, List.length_map, List.length_take] at z
          have z2 := pairs_len (ns := ns.take i) (t := t) fun m hm => (g4 m (List.mem_of_mem_take hm)).1
          rw [List.length_take] at z2
          have z3 := (g4 n hni).1
          have : (1000 : Nat) < sizeLine := by decide
          have z4 : min i ns.length ≤ 7 := Nat.le_trans (Nat.min_le_right _ _) g2
          have z5 : min j (t n).length ≤ 7 := Nat.le_trans (Nat.min_le_right _ _) z3
          omega
        refine ⟨_, hD4, by rw [List.length_map]; exact lq, fun b o' q' => ?_, hj', qs3 ++ [q], ?_, ?_⟩
        · rw [upd_ne (ne_of_none q' hD)]
          exact s4 _ _ (s3 _ _ q')
        · rw [upd_same, List.map_append]
          rfl
        · rw [List.take_add_one, ho, List.map_append, ← List.append_assoc]
          have nqD : q ≠ D := fun z => by rw [z, hD3] at nq; cases nq
          refine PrAt.snoc (pr := (n, o)) ⟨hp3.1, fun i' p hp => ?_⟩ (by rw [upd_ne nqD, upd_same])
          obtain ⟨pr, e1, e2⟩ := hp3.2 i' p hp
          refine ⟨pr, e1, ?_⟩
          have e3 := s4 _ _ e2
          rw [upd_ne (ne_of e3 hD4 (by intro z; cases z))]
          exact e3
      · refine ⟨s3, hi', qs3, hD3, ?_⟩
        rw [List.length_map, List.take_length, ← pairs_snoc, ← take_next hn] at hp3
        exact hp3
    · refine ⟨D, _, rfl, .inl ⟨SqL.of hD1, fun r nr => ?_⟩⟩
      rw [List.length_map, List.take_length] at hp1
      exact k _ r qs (Same_lay s1 nr) upd_same (hp1.same (Same_new nr))
end
end Jd
namespace Jd
open PySem PySem.Spec PyProof.Rows L2
/-! ### the urn -/
/-- all but the object at u is as it was -/
def Keep (u : Addr) (H H' : Hp) : Prop := ∀ b o, b ≠ u → H b = some o → H' b = some o
theorem Keep.trans {u : Addr} {H H1 H2 : Hp} (a : Keep u H H1) (b : Keep u H1 H2) : Keep u H H2 := fun c o n h => b c o n (a c o n h)
theorem Keep.refl (u : Addr) (H : Hp) : Keep u H H := fun _ _ _ h => h
theorem Same.keep {u : Addr} {H H' : Hp} (s : Same H H') : Keep u H H' := fun b o _ h => s b o h
theorem Keep_upd {u : Addr} {H : Hp} {o : HO} : Keep u H (upd H u o) := fun b q n h => by rw [upd_ne n]; exact h
theorem Keep.at {u : Addr} {H H' : Hp} (k : Keep u H H') {b : Addr} {o : HO} (h : H b = some o) (n : b ≠ u) : H' b = some o := k b o n h
def Urn (H : Hp) (u : Addr) (n : Nat) : Prop := ∃ a b c : Int, H u = some (.lst [.int a, .int b, .int c]) ∧ 0 ≤ c ∧ c ≤ (n : Int)
theorem Urn.same {H H' : Hp} {u : Addr} {n : Nat} (h : Urn H u n) (s : Same H H') : Urn H' u n := by
  obtain ⟨a, b, c, h, h1⟩ := h
  exact ⟨a, b, c, s _ _ h, h1⟩
theorem Urn.some {H : Hp} {u : Addr} {n : Nat} (h : Urn H u n) : ∃ o, H u = some o := by
  obtain ⟨a, b, c, h, h1⟩ := h
  exact ⟨_, h⟩
theorem Urn.le {H : Hp} {u : Addr} {n m : Nat} (h : Urn H u n) (l : n ≤ m) : Urn H u m := by
  obtain ⟨a, b, c, h, h1, h2⟩ := h
  exact ⟨a, b, c, h, h1, by omega⟩
def spTake : Sp := fun vs H Q _ => ∃ (u : Addr) (lo : Int) (n : Nat), vs = [.ref u, .int lo] ∧ Urn H u n ∧ n < 100000 ∧ 0 < lo ∧ lo < 1073741824 ∧
  ∀ r H', 0 ≤ r → r < lo → Urn H' u (n + 1) → Keep u H H' → Q (.int r) H'
section
variable {P : Program} {w : World} {K : PySem.W.Frag} {mg : Str → Option Value} {base : Heap}
theorem sc_take : FnScope ["_law_urn", "_law_low_so", "_law_drawn", "_law_once", "_law_far", "_law_both_so"] ["_law_urn", "_law_low_so"] (defScope s__law_take) := ⟨rfl, rfl, rfl, by decide +kernel, rfl, by decide +kernel, by decide +kernel⟩
theorem ok_law_take (B : Bk K mg) : Df P w K mg base CX0 1 "_law_take" ["_law_urn", "_law_low_so"] spTake := by
  obtain ⟨fd, F⟩ := B.F_law_take
  refine ⟨⟨fd, ?_, F.binds fun _ _ _ _ _ _ us hl => match us, hl with | [_, _], _ => rfl⟩, B.g_law_take, F.kp⟩
  refine F.ok sc_take (fun vs H Q E h => ?_) (fun cdv A outer s H vs Q E hr h => ?_)
  · obtain ⟨u, lo, n, rfl, _⟩ := h
    rfl
  · obtain ⟨u, lo, n, rfl, ⟨a, b, c, hu, c0, c1⟩, hn, l0, l1, k⟩ := h
    refine ⟨_, pss_cons (ps_if (pt_cmpR op_gt (pe_ix ix_list (pv 0) pe_int (fun _ _ => rfl)) pe_int (nomark _))
        (pss_cons (ps_set (i := 2) sc_take.nd rfl (Or.inl rfl) (pe_op op_mod (pe_callTy call_int1 (by rfl) B.b_int (by decide +kernel) (pa_cons (pe_ix ix_list (pv 0) pe_int (fun _ _ => rfl)) pa_nil)) (pv 1)))
        (pss_cons (ps_asg (pe_op op_fdiv (pe_ix ix_list (pv 0) pe_int (fun _ _ => rfl)) (pv 1)) (pg_sub (pv 0) pe_int set_list))
        (pss_one (ps_ret (pv 2))))) pss_nil)
      (pss_cons (ps_asg (pe_op op_add (pe_ix ix_list (pv 0) pe_int (fun _ _ => rfl)) pe_int) (pg_sub (pv 0) pe_int set_list))
      (pss_cons (ps_set (i := 3) sc_take.nd rfl (Or.inl rfl) (pe_op op_mod (pe_callTy call_int1 (by rfl) B.b_int (by decide +kernel) (pa_cons (pe_op op_mul (pe_op op_add (pe_ix ix_list (pv 0) pe_int (fun _ _ => rfl)) (pe_op op_mul pe_int (pe_ix ix_list (pv 0) pe_int (fun _ _ => rfl)))) (pe_op op_add pe_int (pe_ix ix_list (pv 0) pe_int (fun _ _ => rfl)))) pa_nil)) pe_int))
      (pss_cons (ps_set (i := 4) sc_take.nd rfl (Or.inl rfl) (pe_op op_add (pe_op op_mod (pe_callTy call_int1 (by rfl) B.b_int (by decide +kernel) (pa_cons (pv 3) pa_nil)) pe_int) pe_int))
      (pss_cons (ps_set (i := 5) sc_take.nd rfl (Or.inl rfl) (pe_op op_mod (pe_callTy call_int1 (by rfl) B.b_int (by decide +kernel) (pa_cons (pe_op op_mul (pe_op op_add (pe_op op_add (pv 3) (pe_ix ix_list (pv 0) pe_int (fun _ _ => rfl))) (pe_op op_fdiv (pe_ix ix_list (pv 0) pe_int (fun _ _ => rfl)) pe_int)) (pv 4)) pa_nil)) pe_int))
      (pss_one (ps_ret (pe_op op_mod (pe_callTy call_int1 (by rfl) B.b_int (by decide +kernel) (pa_cons (pe_op op_fdiv (pe_op op_mod (pe_callTy call_int1 (by rfl) B.b_int (by decide +kernel) (pa_cons (pe_op op_add (pe_op op_mul (pv 5) pe_int) (pv 3)) pa_nil)) pe_int) pe_int) pa_nil)) (pv 1)))))))), ?_⟩
    have L : SqL K H u [.int a, .int b, .int c] := SqL.of hu
    refine ⟨_, rfl, _, _, _, _, rfl, rfl, L, rfl, _, _, rfl, rfl, _, rfl, two (fun h1 => ?_) (fun h1 => ?_)⟩
    · refine ⟨_, rfl, _, _, _, _, rfl, rfl, L, rfl, .inl ⟨_, rfl, _, rfl, _, _, rfl, rfl, l0, ?_⟩⟩
      refine ⟨_, rfl, _, _, _, _, rfl, rfl, L, rfl, _, rfl, _, _, rfl, rfl, ⟨l0, l1⟩, _, rfl, u, _, _, 0, rfl, rfl, hu, rfl, ?_⟩
      refine ⟨_, rfl, k _ _ (Int.emod_nonneg _ (by omega)) (Int.emod_lt_of_pos _ l0) ⟨a / lo, b, c, upd_same, c0, by omega⟩ Keep_upd⟩
    · refine ⟨_, rfl, _, _, _, _, rfl, rfl, L, rfl, _, _, rfl, rfl, _, rfl, u, _, _, 2, rfl, rfl, hu, rfl, ?_⟩
      have L2 : SqL K (upd H u (.lst [.int a, .int b, .int (c + 1)])) u [.int a, .int b, .int (c + 1)] := SqL.of upd_same
      refine ⟨_, rfl, _, _, _, _, rfl, rfl, L2, rfl, _, rfl, _, _, _, _, rfl, rfl, L2, rfl, _, _, rfl, rfl, .inl ⟨by decide, by decide⟩, _, _, rfl, rfl, _, rfl, _, _, _, _, rfl, rfl, L2, rfl, _, _, rfl, rfl, _, _, rfl, rfl, .inr ⟨?_, ?_⟩, .inl ⟨_, rfl, _, _, rfl, rfl, (show (0 : Int) < 2147483647 by decide), ?_⟩⟩
      · show -(2 ^ 64) < (39373 : Int) + (c + 1)
        omega
      · show (39373 : Int) + (c + 1) < 2 ^ 64
        omega
      · refine ⟨_, rfl, .inl ⟨_, rfl, _, _, rfl, rfl, (show (0 : Int) < 40009 by decide), _, _, rfl, rfl, ?_⟩⟩
        refine ⟨_, rfl, _, rfl, _, _, _, _, rfl, rfl, L2, rfl, _, _, rfl, rfl, _, rfl, _, _, _, _, rfl, rfl, L2, rfl, _, _, rfl, rfl, ⟨by decide, by decide⟩, _, _, rfl, rfl, _, rfl, _, _, rfl, rfl, .inr ⟨?_, ?_⟩, .inl ⟨_, rfl, _, _, rfl, rfl, (show (0 : Int) < 2147483629 by decide), ?_⟩⟩
        · have q := Int.emod_nonneg (((b : Int) + 48271 * (c + 1)) * (39373 + (c + 1)) % 2147483647) (show (40009 : Int) ≠ 0 by decide)
          show -(2 ^ 64) < ((b : Int) + 48271 * (c + 1)) * (39373 + (c + 1)) % 2147483647 % 40009 + 7
          omega
        · have q := Int.emod_lt_of_pos (((b : Int) + 48271 * (c + 1)) * (39373 + (c + 1)) % 2147483647) (show (0 : Int) < 40009 by decide)
          show ((b : Int) + 48271 * (c + 1)) * (39373 + (c + 1)) % 2147483647 % 40009 + 7 < 2 ^ 64
          omega
        · refine ⟨_, rfl, _, _, rfl, rfl, .inr ⟨by decide, by decide⟩, _, rfl, _, _, rfl, rfl, .inl ⟨_, rfl, _, _, rfl, rfl, (show (0 : Int) < 2147483587 by decide), _, _, rfl, rfl, ⟨by decide, by decide⟩, .inl ⟨_, rfl, _, rfl, _, _, rfl, rfl, l0, ?_⟩⟩⟩
          exact k _ _ (Int.emod_nonneg _ (by omega)) (Int.emod_lt_of_pos _ l0) ⟨a, b, c + 1, upd_same, by omega, by omega⟩ Keep_upd
end
end Jd
namespace Jd
open PySem PySem.Spec PyProof.Rows L2
/-! ### box, cells -/
theorem cut_to (xs : List V) (k : Nat) : cutV xs none (some (k : Int)) = xs.take k := by
  unfold cutV
  rw [HT.sIx_none, HT.sIx_nat, List.drop_zero, Nat.sub_zero]
  by_cases h : k ≤ xs.length
  · rw [Nat.min_eq_left h]
  · rw [Nat.min_eq_right (by omega), List.take_of_length_le (Nat.le_refl _), List.take_of_length_le (by omega)]
theorem cut_of (xs : List V) (a b : Nat) : cutV xs (some (a : Int)) (some (b : Int)) = (xs.drop (min a xs.length)).take (min b xs.length - min a xs.length) := by
  unfold cutV
  rw [HT.sIx_nat, HT.sIx_nat]
theorem b01 (b : Bool) : -(2 ^ 64) < (if b then (1 : Int) else 0) ∧ (if b then (1 : Int) else 0) < 2 ^ 64 := by
  cases b <;> decide
/-- an expression's ways are joined -/
theorem pe_cut {X : Cx} {e : Expr} {t : TE} (h : PE X e t) : PE X e (fun σ H Q => ∃ Q0 : VK, t σ H Q0 ∧ ∀ x H1, Q0 x H1 → Q x H1) :=
  ⟨fun pins s σ H Q I ⟨Q0, h0, h1⟩ => wpAny_mono (h.run pins s σ H Q0 I h0) (fun u s1 ⟨v, H1, I1, r, q⟩ => ⟨v, H1, I1, r, h1 v H1 q⟩) (fun _ _ x => x)⟩
/-- a statement's ways are joined -/
theorem ps_cut {X : Cx} {st : Stmt} {t : TS} (h : PS X st t) : PS X st (fun D σ H => ∃ N : L2.St → Hp → Prop, t { D with nx := N } σ H ∧ ∀ σ' H', N σ' H' → D.nx σ' H') := by
  refine ⟨fun pins s σ H D I ⟨N, h0, h1⟩ => wpAny_mono (h.run pins s σ H { D with nx := N } I h0) (fun f s1 q => ?_) (fun _ _ x => x)⟩
  cases f with
  | next =>
    obtain ⟨σ', H', I', q⟩ := q
    exact ⟨σ', H', I', h1 σ' H' q⟩
  | brk => exact q
  | cont => exact q
  | ret u => exact q
def spBox (K : PySem.W.Frag) : Sp := fun vs H Q _ => ∃ (a : Addr) (ns : List Int) (k : Nat), vs = [.ref a, .int (k : Int)] ∧ SqL K H a (ns.map V.int) ∧ k < ns.length ∧ k < 1000 ∧ ∀ H' p, Same H H' → H p = none → Urn H' p 0 → Q (.ref p) H'
def spCells (K : PySem.W.Frag) : Sp := fun vs H Q _ => ∃ (a : Addr) (ns : List Int), vs = [.ref a, .int 3] ∧ SqL K H a (ns.map V.int) ∧ ns.length ≤ 63 ∧
  ∀ (H' : Hp) (p : Addr) (ms : List Int), Same H H' → H p = none → H' p = some (.lst (ms.map V.int)) → 1 ≤ ms.length → ms.length ≤ 3 → Q (.ref p) H'
section
variable {P : Program} {w : World} {K : PySem.W.Frag} {mg : Str → Option Value} {base : Heap}
theorem sc_box : FnScope ["_law_script", "_law_k", "_law_cell"] ["_law_script", "_law_k"] (defScope s__law_box) := ⟨rfl, rfl, rfl, by decide +kernel, rfl, by decide +kernel, by decide +kernel⟩
theorem ok_law_box (B : Bk K mg) : Df P w K mg base CX0 1 "_law_box" ["_law_script", "_law_k"] (spBox K) := by
  obtain ⟨fd, F⟩ := B.F_law_box
  refine ⟨⟨fd, ?_, F.binds fun _ _ _ _ _ _ us hl => match us, hl with | [_, _], _ => rfl⟩, B.g_law_box, F.kp⟩
  refine F.ok sc_box (fun vs H Q E h => ?_) (fun cdv A outer s H vs Q E hr h => ?_)
  · obtain ⟨u, lo, n, rfl, _⟩ := h
    rfl
  · obtain ⟨a, ns, k, rfl, hs, hk, hk2, kq⟩ := h
    refine ⟨_, pss_cons (ps_set (i := 2) sc_box.nd rfl (Or.inl rfl) (pe_ifExp (pt_cmpR op_lt (pv 1) (pe_callB call_len (by rfl) B.b_len (by decide +kernel) (pa_cons (pv 0) pa_nil)) (nomark _)) (pe_ix ix_list (pv 0) (pv 1) (fun _ _ => rfl)) pe_int))
      (pss_one (ps_ret (pe_lst (pa_cons (pe_op op_mul (pe_callB call_abs (by rfl) B.b_abs (by decide +kernel) (pa_cons (pv 2) pa_nil)) (pe_callTy call_int1 (by rfl) B.b_int (by decide +kernel) (pa_cons (pe_cmpR op_ge (pe_callB call_abs (by rfl) B.b_abs (by decide +kernel) (pa_cons (pv 2) pa_nil)) (pe_op op_pow pe_int pe_int) (nomark _)) pa_nil)))
        (pa_cons (pe_op op_add (pe_op op_add (pe_op op_mod (pe_callTy call_int1 (by rfl) B.b_int (by decide +kernel) (pa_cons (pv 2) pa_nil)) pe_int) (pe_op op_mul pe_int (pv 1))) pe_int) (pa_cons pe_int pa_nil)))))), ?_⟩
    obtain ⟨x, hx⟩ : ∃ x, ns[k]? = some x := ⟨ns[k], List.getElem?_eq_getElem hk⟩
    have hx2 : atI (ns.map V.int) (k : Int) = some (V.int x) := at_of rfl (by rw [List.getElem?_map, hx]; rfl)
    refine ⟨_, rfl, _, rfl, _, _, rfl, .inl ⟨_, hs, rfl⟩, _, _, rfl, rfl, _, rfl, ?_⟩
    have c1 : decide ((k : Int) < ((ns.map V.int).length : Int)) = true := decide_eq_true (by rw [List.length_map]; omega)
    show if decide ((k : Int) < ((ns.map V.int).length : Int)) = true then _ else _
    rw [c1]
    refine iteT ?_
    refine ⟨_, rfl, _, rfl, _, _, _, _, rfl, rfl, hs, hx2, ?_⟩
    refine ⟨_, rfl, _, rfl, _, rfl, _, rfl, _, _, rfl, rfl, ⟨by decide, by decide, by decide⟩, _, _, rfl, rfl, .inr ⟨_, rfl, _, _, rfl, rfl, .inr (b01 _), ?_⟩⟩
    · refine ⟨_, rfl, .inl ⟨_, rfl, _, _, rfl, rfl, (show (0 : Int) < 2305843009213693951 by decide), _, rfl, _, _, rfl, rfl, .inl ⟨by decide, by decide⟩, _, _, rfl, rfl, _, _, rfl, rfl, ?_⟩⟩
      refine ⟨(by show 3 ≤ sizeLine; decide), fun p hp => ?_⟩
      exact kq _ p (Same_new hp) hp ⟨_, _, _, upd_same, by omega, by omega⟩
theorem sc_cells : FnScope ["_law_script", "_law_top", "_law_cells_here", "_law_k", "_law_cell", "_law_at_so"] ["_law_script", "_law_top"] (defScope s__law_cells) := ⟨rfl, rfl, rfl, by decide +kernel, rfl, by decide +kernel, by decide +kernel⟩
theorem ok_law_cells (B : Bk K mg) : Df P w K mg base CX0 1 "_law_cells" ["_law_script", "_law_top"] (spCells K) := by
  obtain ⟨fd, F⟩ := B.F_law_cells
  refine ⟨⟨fd, ?_, F.binds fun _ _ _ _ _ _ us hl => match us, hl with | [_, _], _ => rfl⟩, B.g_law_cells, F.kp⟩
  refine F.ok sc_cells (fun vs H Q E h => ?_) (fun cdv A outer s H vs Q E hr h => ?_)
  · obtain ⟨u, lo, rfl, _⟩ := h
    rfl
  · obtain ⟨a, ns, rfl, hs, hk, kq⟩ := h
    refine ⟨_, pss_cons (ps_set (i := 2) sc_cells.nd rfl (Or.inl rfl) (pe_cut (pe_orT (pe_callTy call_list_of (by rfl) B.b_list (by decide +kernel) (pa_cons (pe_slice sl_list (pv 0) po_none (po_some (pv 1))) pa_nil)) (pe_one (pe_lst (pa_cons pe_int pa_nil))))))
      (pss_cons (ps_for PassesOwn.never rfl (pi_enum (by rfl) B.b_enumerate (pa_cons (pe_slice sl_list (pv 0) (po_some (pv 1)) (po_some pe_int)) pa_nil)) (pg_tup rfl (pgs_cons (pg_name (i := 3) sc_cells.nd rfl (.inl rfl)) (pgs_cons (pg_name (i := 4) sc_cells.nd rfl (.inl rfl)) pgs_nil)))
        (pss_cons (ps_set (i := 5) sc_cells.nd rfl (Or.inl rfl) (pe_op op_mod (pe_callTy call_int1 (by rfl) B.b_int (by decide +kernel) (pa_cons (pv 3) pa_nil)) (pv 1)))
        (pss_one (ps_asg (pe_op op_add (pe_ix ix_list (pv 2) (pv 5) (fun _ _ => rfl)) (pe_op op_mul (pv 4) (pe_op op_add (pv 3) pe_int))) (pg_sub (pv 2) (pv 5) set_list)))))
      (pss_one (ps_ret (pv 2)))), ?_⟩
    refine ⟨fun x H1 => ∃ (p : Addr) (ms : List Int), x = .ref p ∧ Same H H1 ∧ H p = none ∧ H1 p = some (.lst (ms.map V.int)) ∧ 1 ≤ ms.length ∧ ms.length ≤ 3 ∧ (3 < ns.length → ms.length = 3), ?_, ?_⟩
    · refine ⟨_, rfl, _, rfl, _, rfl, a, _, rfl, hs, fun q hq => ⟨_, _, rfl, .inl (SqL.of upd_same), fun l hl => ?_⟩⟩
      have sl : Same H (upd (upd H q (.lst (cutV (ns.map V.int) none (some (3 : Int))))) l (.lst (cutV (ns.map V.int) none (some (3 : Int))))) := Same_lay (Same_new hq) hl
      have nl : H l = none := (Same_new hq).free hl
      have ec : cutV (ns.map V.int) none (some (3 : Int)) = (ns.take 3).map V.int := by
        rw [show (3 : Int) = ((3 : Nat) : Int) from rfl, cut_to, List.map_take]
      refine ⟨_, .inl ⟨_, SqL.of upd_same, rfl⟩, two (fun h1 => ?_) (fun h1 => ?_)⟩
      · refine ⟨l, ns.take 3, rfl, sl, nl, by rw [upd_same, ec], ?_, by rw [List.length_take]; omega, fun h => by rw [List.length_take]; omega⟩
        have h1' : (!(cutV (ns.map V.int) none (some (3 : Int))).isEmpty) = true := h1
        rw [ec] at h1'
        cases hns : ns.take 3 with
        | nil => rw [hns] at h1'; cases h1'
        | cons x r => exact Nat.succ_le_succ (Nat.zero_le _)
      · have h1' : (!(cutV (ns.map V.int) none (some (3 : Int))).isEmpty) = false := h1
        rw [ec] at h1'
        have e0 : ns = [] := by
          cases ns with
          | nil => rfl
          | cons x r => cases h1'
        refine ⟨(by show 1 ≤ sizeLine; decide), fun p hp => ⟨p, [0], rfl, Same_lay sl hp, sl.free hp, upd_same, Nat.le_refl _, by decide, fun h => ?_⟩⟩
        rw [e0] at h
        exact absurd h (by decide)
    · rintro x H1 ⟨p, ms, rfl, s1, np, h1, l1, l3, l3'⟩
      have hs1 := s1.seq hs
      have ec : cutV (ns.map V.int) (some (3 : Int)) (some (63 : Int)) = ((ns.drop (min 3 ns.length)).take (min 63 ns.length - min 3 ns.length)).map V.int := by
        rw [show (3 : Int) = ((3 : Nat) : Int) from rfl, show (63 : Int) = ((63 : Nat) : Int) from rfl, cut_of, List.length_map, List.map_take, List.map_drop]
      have kl : ((ns.drop (min 3 ns.length)).take (min 63 ns.length - min 3 ns.length)).length ≤ ns.length - 3 := by
        rw [List.length_take, List.length_drop]
        omega
      generalize (ns.drop (min 3 ns.length)).take (min 63 ns.length - min 3 ns.length) = ks at ec kl
      refine ⟨_, rfl, _, rfl, _, rfl, _, rfl, a, _, rfl, hs1, fun q hq => ⟨q, ks.map V.int, rfl, SqL.of (by rw [upd_same, ec]), ?_⟩⟩
      have npq : p ≠ q := ne_of_none h1 hq
      refine for_it (n := (ks.map V.int).length) walk_enum (fun i σ H' => ∃ (ms' : List Int) (v3 v4 v5 : Option V), σ = [some (.ref a), some (.int 3), some (.ref p), v3, v4, v5] ∧ Same H H' ∧ H' p = some (.lst (ms'.map V.int)) ∧ ms'.length = ms.length ∧ H' q = some (.lst (ks.map V.int)))
        ⟨ms, none, none, none, rfl, Same_lay s1 hq, by rw [upd_ne npq]; exact h1, rfl, by rw [upd_same, ec]⟩ (fun i σ H' _ ⟨_, _, _, _, _, _, _, _, e⟩ => SqL.of e) (fun i x σ H2 H3 hi ⟨ms', v3, v4, v5, e, s2, h2, hl2, hq2⟩ y => ?_) (fun σ H2 ⟨ms', v3, v4, v5, e, s2, h2, hl2, hq2⟩ => ?_)
      · obtain ⟨T, x1, x2, rfl, nT, rfl, e1, e2⟩ := y
        have e1' := Option.some.inj e1
        subst e1'
        have e2 : (ks.map V.int)[i]? = some x2 := e2
        rw [List.getElem?_map] at e2
        cases hz : ks[i]? with
        | none =>
          rw [hz] at e2
          cases e2
        | some z =>
          rw [hz] at e2
          have e2' := Option.some.inj e2
          subst e2' e
          have hik : i < ks.length := (List.getElem?_eq_some_iff.mp hz).1
          have hm3 : ms'.length = 3 := by rw [hl2]; exact l3' (by omega)
          have nTp : p ≠ T := ne_of_none h2 nT
          have nTq : q ≠ T := ne_of_none hq2 nT
          refine ⟨_, _, rfl, SqT.of upd_same, rfl, _, _, rfl, _, _, rfl, rfl, ?_⟩
          have j0 : 0 ≤ (i : Int) % 3 := Int.emod_nonneg _ (by decide)
          have j1 : (i : Int) % 3 < 3 := Int.emod_lt_of_pos _ (by decide)
          have j2 : ((i : Int) % 3) = (((i : Int) % 3).toNat : Int) := by omega
          obtain ⟨m, hm⟩ : ∃ m, ms'[((i : Int) % 3).toNat]? = some m := ⟨ms'[((i : Int) % 3).toNat]'(by omega), List.getElem?_eq_getElem _⟩
          have h3 : (upd H2 T (.tup [V.int (i : Nat), V.int z])) p = some (.lst (ms'.map V.int)) := by rw [upd_ne nTp]; exact h2
          refine ⟨_, rfl, .inl ⟨_, rfl, _, rfl, _, _, rfl, rfl, (show (0 : Int) < 3 by decide), ?_⟩⟩
          refine ⟨_, rfl, _, rfl, _, _, _, _, rfl, rfl, SqL.of h3, at_of j2 (by rw [List.getElem?_map, hm]; rfl), _, rfl, _, rfl, _, _, rfl, rfl, _, _, rfl, rfl, .inr ⟨?_, ?_⟩, _, _, rfl, rfl, ?_⟩
          · show -(2 ^ 64) < ((i : Int) + 2)
            omega
          · show ((i : Int) + 2) < 2 ^ 64
            omega
          · refine ⟨_, rfl, _, rfl, p, _, _, ((i : Int) % 3).toNat, rfl, rfl, h3, ?_, ?_⟩
            · show ixN (ms'.map V.int).length ((i : Int) % 3) = _
              unfold ixN
              rw [if_pos j0, if_pos (by rw [List.length_map, hm3]; exact j1)]
            · refine ⟨ms'.set ((i : Int) % 3).toNat (m + z * ((i : Int) + 2)), _, _, _, rfl, Same_upd (Same_lay s2 nT) np, ?_, ?_, ?_⟩
              · rw [upd_same, List.map_set]
              · rw [List.length_set, hl2]
              · rw [upd_ne npq.symm, upd_ne nTq]
                exact hq2
      · subst e
        exact ⟨_, rfl, kq H2 p ms' s2 np h2 (by omega) (by omega)⟩
end
end Jd
namespace Jd
open PySem PySem.Spec PyProof.Rows L2
/-! ### of, mixed -/
theorem Keep_lay {u : Addr} {H H' : Hp} {a : Addr} {o : HO} (k : Keep u H H') (n : H a = none) : Keep u H (upd H' a o) := fun b q nb h => by
  rw [upd_ne (ne_of_none h n)]
  exact k b q nb h
theorem Keep.none {u : Addr} {H H' : Hp} (k : Keep u H H') {b : Addr} (h : H' b = Option.none) (n : b ≠ u) : H b = Option.none := by
  cases q : H b with
  | none => rfl
  | some o =>
    rw [k b o n q] at h
    cases h
theorem Keep.seq {K : PySem.W.Frag} {u : Addr} {H H' : Hp} (k : Keep u H H') {a : Addr} {xs : List V} (h : SqL K H a xs) (n : a ≠ u) : SqL K H' a xs := by
  rcases h with (h | ⟨o, h⟩) | h
  · exact .inl (.inl (k _ _ n h))
  · exact .inl (.inr ⟨o, k _ _ n h⟩)
  · exact .inr h
def spOf (K : PySem.W.Frag) : Sp := fun vs H Q _ => ∃ (u l : Addr) (xs : List V) (n : Nat), vs = [.ref u, .ref l] ∧ Urn H u n ∧ n < 100000 ∧ SqL K H l xs ∧ l ≠ u ∧ 0 < xs.length ∧ xs.length < 1000 ∧
  ∀ (r : Nat) x H', xs[r]? = some x → Urn H' u (n + 1) → Keep u H H' → Q x H'
def spMixed (K : PySem.W.Frag) : Sp := fun vs H Q _ => ∃ (u l : Addr) (xs : List V) (n : Nat), vs = [.ref u, .ref l] ∧ Urn H u n ∧ n + xs.length < 100000 ∧ (SqL K H l xs ∨ SqT K H l xs) ∧ xs.length < 1000 ∧
  ∀ (ys : List V) p H', ys.Perm xs → Urn H' u (n + xs.length) → Keep u H H' → H p = none → H' p = some (.tup ys) → Q (.ref p) H'
section
variable {P : Program} {w : World} {K : PySem.W.Frag} {mg : Str → Option Value} {base : Heap}
theorem sc_mixed : FnScope ["_law_urn", "_law_pool", "_law_left", "_law_found", "_law_turn"] ["_law_urn", "_law_pool"] (defScope s__law_mixed) := ⟨rfl, rfl, rfl, by decide +kernel, rfl, by decide +kernel, by decide +kernel⟩
theorem perm_move {α : Type} {fs ls : List α} {k : Nat} {y : α} (h : ls[k]? = some y) : ((fs ++ [y]) ++ ls.eraseIdx k).Perm (fs ++ ls) := by
  rw [List.append_assoc]
  exact List.Perm.append_left fs (erase_perm ls k y h)
theorem ok_law_mixed (B : Bk K mg) : Df P w K mg base CX0 2 "_law_mixed" ["_law_urn", "_law_pool"] (spMixed K) := by
  obtain ⟨fd, F⟩ := B.F_law_mixed
  obtain ⟨fdT, GT, bT⟩ := (ok_law_take (P := P) (w := w) (base := base) B).ex
  have kT := (ok_law_take (P := P) (w := w) (base := base) B).kp
  refine ⟨⟨fd, ?_, F.binds fun _ _ _ _ _ _ us hl => match us, hl with | [_, _], _ => rfl⟩, B.g_law_mixed, F.kp⟩
  refine F.ok sc_mixed (fun vs H Q E h => ?_) (fun cdv A outer s H vs Q E hr h => ?_)
  · obtain ⟨u, lo, xs, n, rfl, _⟩ := h
    rfl
  · obtain ⟨u, l, xs, n, rfl, hu, hn, hs, h1, k⟩ := h
    refine ⟨_, pss_cons (ps_par (i := 2) (j := 3) (by rfl) sc_mixed.nd rfl rfl (by decide) rfl rfl (pa_cons (pe_callTy call_list_of (by rfl) B.b_list (by decide +kernel) (pa_cons (pv 1) pa_nil)) (pa_cons (pe_lst pa_nil) pa_nil)) (by rfl))
      (pss_cons (ps_for PassesOwn.never rfl (pi_range1 rfl B.b_range (pa_cons (pe_callB call_len (by rfl) B.b_len (by decide +kernel) (pa_cons (pv 1) pa_nil)) pa_nil)) (pg_name (i := 4) sc_mixed.nd rfl (Or.inl rfl))
        (pss_one (ps_expr (pe_bm PySem.F.plainAttrs_list PySem.F.slot_list_append PySem.F.type_list_append mt_append (pv 3) (pa_cons
          (pe_bm PySem.F.plainAttrs_list PySem.F.slot_list_pop PySem.F.type_list_pop mt_popAt (pv 2) (pa_cons (pe_call GT hr rfl B.g_law_take kT bT .nil pass0 (pa_cons (pv 0) (pa_cons (pe_callB call_len (by rfl) B.b_len (by decide +kernel) (pa_cons (pv 2) pa_nil)) pa_nil))) pa_nil)) pa_nil)))))
      (pss_one (ps_ret (pe_callTy call_tuple_of (by rfl) B.b_tuple (by decide +kernel) (pa_cons (pv 3) pa_nil))))), ?_⟩
    refine ⟨_, rfl, l, xs, rfl, hs, fun L nL => ⟨Nat.zero_le _, fun Fo nF => ⟨_, _, rfl, ?_⟩⟩⟩
    have uo := hu.some
    have nLu : L ≠ u := fun e => by obtain ⟨o, h⟩ := uo; rw [← e, nL] at h; cases h
    have nF0 : H Fo = Option.none := (Same_new nL).free nF
    have nFu : Fo ≠ u := fun e => by obtain ⟨o, h⟩ := uo; rw [← e, nF0] at h; cases h
    have nFL : Fo ≠ L := fun e => by rw [e, upd_same] at nF; cases nF
    have s2 : Same H (upd (upd H L (.lst xs)) Fo (.lst [])) := Same_lay (Same_new nL) nF
    have hlen : LenV K (.ref l) (upd (upd H L (.lst xs)) Fo (.lst [])) xs.length := by
      rcases hs with hs | hs
      · exact .inl ⟨_, s2.seq hs, rfl⟩
      · exact .inr ⟨_, Same_seqT s2 hs, rfl⟩
    refine ⟨_, rfl, _, xs.length, rfl, hlen, (xs.length : Int), rfl, by omega, by omega, ?_⟩
    rw [show ((xs.length : Int)).toNat = xs.length by omega]
    refine for_it walk_range (fun i σ H' => ∃ (ls fs : List V) (v : Option V), σ = [some (.ref u), some (.ref l), some (.ref L), some (.ref Fo), v] ∧ H' L = some (.lst ls) ∧ H' Fo = some (.lst fs) ∧ (fs ++ ls).Perm xs ∧ fs.length = i ∧ Urn H' u (n + i) ∧ Keep u H H')
      ⟨xs, [], Option.none, rfl, by rw [upd_ne nFL.symm, upd_same], upd_same, List.Perm.refl _, rfl, hu.same s2, Same.keep s2⟩ (fun _ _ _ _ _ => trivial) (fun i x σ H1 H2 hi ⟨ls, fs, v, e, hL, hF, pm, fl, hu1, kp⟩ y => ?_) (fun σ H1 ⟨ls, fs, v, e, hL, hF, pm, fl, hu1, kp⟩ => ?_)
    · obtain ⟨rfl, rfl⟩ := y
      subst e
      have ll : ls.length = xs.length - i := by
        have q := pm.length_eq
        rw [List.length_append] at q
        omega
      refine ⟨_, rfl, .inl ⟨rfl, _, SqL.of hF⟩, _, rfl, .inl ⟨rfl, _, SqL.of hL⟩, _, rfl, _, rfl, _, ls.length, rfl, .inl ⟨_, SqL.of hL, rfl⟩, u, (ls.length : Int), n + i, rfl, hu1, by omega, by omega, by omega, fun r H3 r0 r1 hu3 kp3 => ?_⟩
      have hrl : r.toNat < ls.length := by omega
      have hy : ls[r.toNat]? = some ls[r.toNat] := List.getElem?_eq_getElem hrl
      have hL3 : H3 L = some (.lst ls) := kp3 _ _ nLu hL
      have hF3 : H3 Fo = some (.lst fs) := kp3 _ _ nFu hF
      refine ⟨L, ls, r, r.toNat, ls[r.toNat], rfl, rfl, hL3, by omega, by omega, ?_, hy, ?_⟩
      · have q : ixN ls.length r = some r.toNat := by
          unfold ixN
          rw [if_pos r0, if_pos r1]
        exact (ixN_seq q).1
      · refine ⟨Fo, fs, ls[r.toNat], rfl, rfl, by rw [upd_ne nFL]; exact hF3, by have : (1000 : Nat) < sizeLine := (by decide); omega, ?_⟩
        refine ⟨ls.eraseIdx r.toNat, fs ++ [ls[r.toNat]], _, rfl, by rw [upd_ne nFL.symm, upd_same], upd_same, (perm_move hy).trans pm, by rw [List.length_append, fl]; rfl, ?_, Keep_lay (Keep_lay (kp.trans kp3) nL) nF0⟩
        obtain ⟨a, b, c, h3, h4⟩ := hu3
        exact ⟨a, b, c, by rw [upd_ne nFu.symm, upd_ne nLu.symm]; exact h3, h4⟩
    · subst e
      have ll : ls = [] := by
        have q := pm.length_eq
        rw [List.length_append] at q
        exact List.eq_nil_of_length_eq_zero (by omega)
      subst ll
      rw [List.append_nil] at pm
      refine ⟨_, rfl, Fo, fs, rfl, .inl ⟨SqL.of hF, fun p hp => ?_⟩⟩
      have np : H p = Option.none := by
        by_cases e : p = u
        · rw [e] at hp
          obtain ⟨a, b, c, h3, _⟩ := hu1
          rw [h3] at hp
          cases hp
        · exact kp.none hp e
      refine k fs p _ pm ?_ (Keep_lay kp np) np upd_same
      obtain ⟨a, b, c, h3, h4⟩ := hu1
      exact ⟨a, b, c, by rw [upd_ne (ne_of_none h3 hp)]; exact h3, h4⟩
end
end Jd
namespace Jd
open PySem PySem.Spec PyProof.Rows L2 RZ
/-! ### same -/
/-- flat and the same -/
def FlatV : V → Prop
  | .non => True
  | .bl _ => True
  | .str _ => True
  | .int _ => True
  | _ => False
/-- the same, so many levels deep -/
def Sm (H : Hp) : Nat → V → V → Prop
  | 0, x, y => x = y ∧ FlatV y
  | n + 1, x, y => (x = y ∧ FlatV y) ∨ ∃ (a b : Addr) (xs ys : List V), x = .ref a ∧ y = .ref b ∧ xs.length = ys.length ∧ xs.length < 1000 ∧ (∀ (i : Nat) (u v : V), xs[i]? = some u → ys[i]? = some v → Sm H n u v) ∧
      ((H a = some (.lst xs) ∧ H b = some (.lst ys)) ∨ (H a = some (.tup xs) ∧ H b = some (.tup ys)))
theorem Sm_same {H H' : Hp} (s : Same H H') : ∀ (n : Nat) {x y : V}, Sm H n x y → Sm H' n x y
  | 0, _, _, h => h
  | n + 1, x, y, h => by
    rcases (show (x = y ∧ FlatV y) ∨ _ from h) with h | ⟨a, b, xs, ys, e1, e2, hl, h3, he, h | h⟩
    · exact .inl h
    · exact .inr ⟨a, b, xs, ys, e1, e2, hl, h3, fun i u v q1 q2 => Sm_same s n (he i u v q1 q2), .inl ⟨s _ _ h.1, s _ _ h.2⟩⟩
    · exact .inr ⟨a, b, xs, ys, e1, e2, hl, h3, fun i u v q1 q2 => Sm_same s n (he i u v q1 q2), .inr ⟨s _ _ h.1, s _ _ h.2⟩⟩
theorem Sm_flat {H : Hp} {n : Nat} {x : V} (h : FlatV x) : Sm H n x x := by
  cases n with
  | zero => exact ⟨rfl, h⟩
  | succ n => exact Or.inl ⟨rfl, h⟩
theorem walk_zipT {K : PySem.W.Frag} {a b : Addr} {xs ys : List V} {n : Nat} (hn : n = min xs.length ys.length) : Walk (ItzT K a b) n (fun H => SqT K H a xs ∧ SqT K H b ys) (YPair (fun i => xs[i]?) (fun i => ys[i]?)) := by
  subst hn
  refine ⟨fun i _ hi q => ?_, fun _ q => ⟨xs, ys, q.1, q.2, by omega⟩, fun i H v H' _ q y => ?_⟩
  · have h1 : i < xs.length := by omega
    have h2 : i < ys.length := by omega
    exact ⟨xs, ys, xs[i], ys[i], q.1, q.2, by simp [h1], by simp [h2]⟩
  · obtain ⟨T, x, z, h1, h2, h3, h4, h5⟩ := y
    exact ⟨T, x, z, h1, h2, h3, h4 xs q.1, h5 ys q.2⟩
def spSame (n : Nat) : Sp := fun vs H Q _ => ∃ x y : V, vs = [x, y] ∧ Sm H n x y ∧ ∀ H', Same H H' → Q (.bl true) H'
def spPrev : Nat → Sp
  | 0 => fun _ _ _ _ => False
  | n + 1 => spSame n
/-- the types of flat values -/
def tyN : V → String
  | .non => "NoneType"
  | .bl _ => "bool"
  | .str _ => "str"
  | _ => "int"
theorem ty_flat {K : PySem.W.Frag} {H : Hp} {x : V} (h : FlatV x) : TyX K H x (.type (tyN x)) := by
  cases x with
  | non => exact .base .non
  | bl b => exact .base (.bl b)
  | str z => exact .base (.str z)
  | int i => exact .base (.int i)
  | _ => exact h.elim
theorem kit2 {K : PySem.W.Frag} {a b c : String} {r s : Bool} (h1 : kitB a b = some r) (h2 : kitB a c = some s) : PySem.W.kitAny K (.type a) [.type b, .type c] = some (r || s) := by
  refine kitAny_cons (kit_ty h1) (fun e => ?_) (fun e => by rw [e]; rfl)
  rw [e, Bool.false_or]
  refine kitAny_cons (kit_ty h2) (fun e2 => by rw [e2]; rfl) (fun e2 => e2)
theorem cls2 (a b : String) : Paired ClsV [.ty a, .ty b] [.type a, .type b] := .cons (.ty a) (.cons (.ty b) .nil)
theorem ifd {p : Prop} [Decidable p] {A B : Prop} (hp : p) (h : A) : if decide p = true then A else B := by
  rw [decide_eq_true hp]
  exact iteT h
theorem ifdn {p : Prop} [Decidable p] {A B : Prop} (hp : ¬ p) (h : B) : if decide p = true then A else B := by
  rw [decide_eq_false hp]
  exact iteF h
theorem rep_true (n : Nat) : (List.range n).filterMap (fun _ => some (V.bl true)) = (List.replicate n true).map V.bl := by
  induction n with
  | zero => rfl
  | succ n ih =>
    rw [fm_step, ih, List.replicate_succ', List.map_append]
    rfl
theorem rep_all (n : Nat) : (List.replicate n true).all id = true := by
  rw [List.all_eq_true]
  intro x hx
  rw [(List.mem_replicate.mp hx).2]
  rfl
section
variable {P : Program} {w : World} {K : PySem.W.Frag} {mg : Str → Option Value} {base : Heap}
theorem sc_same : FnScope ["_law_got", "_law_goal", "_law_mine_so", "_law_own"] ["_law_got", "_law_goal"] (defScope s__law_same) := ⟨rfl, rfl, rfl, by decide +kernel, rfl, by decide +kernel, by decide +kernel⟩
theorem ok_same_step (B : Bk K mg) {fd : FuncData} (F : Fun K "_law_same" "_law_same" s__law_same (He.ga K "_law_same") fd) (n k : Nat) (G : FnOk P w K mg base CX0 k (He.ga K "_law_same") fd ["_law_got", "_law_goal"] (spPrev n)) (bG : Binds K fd ["_law_got", "_law_goal"] []) :
    FnOk P w K mg base CX0 (k + 1) (He.ga K "_law_same") fd ["_law_got", "_law_goal"] (spSame n) := by
  refine F.ok sc_same (fun vs H Q E h => ?_) (fun cdv A outer s H vs Q E hr h => ?_)
  · obtain ⟨x, y, rfl, _⟩ := h
    rfl
  · obtain ⟨x, y, rfl, hs, kq⟩ := h
    have isi := fun {X : Cx} => @call_isi X
    refine ⟨_, pss_cons (ps_if (pt_val (pe_callB call_isiT (by rfl) B.b_isinstance (by decide +kernel) (pa_cons (pv 1) (pa_cons (pe_tup (pa_cons (pe_bltn (by rfl) B.b_list (by decide +kernel) (show RelV (.ty "list") (.type "list") from rfl)) (pa_cons (pe_bltn (by rfl) B.b_tuple (by decide +kernel) (show RelV (.ty "tuple") (.type "tuple") from rfl)) pa_nil))) pa_nil))))
        (pss_cons (ps_if (PW.pt (pw_or (pt_cmpR op_ne (pe_callB call_isi (by rfl) B.b_isinstance (by decide +kernel) (pa_cons (pv 0) (pa_cons (pe_bltn (by rfl) B.b_list (by decide +kernel) (show RelV (.ty "list") (.type "list") from rfl)) pa_nil))) (pe_callB call_isi (by rfl) B.b_isinstance (by decide +kernel) (pa_cons (pv 1) (pa_cons (pe_bltn (by rfl) B.b_list (by decide +kernel) (show RelV (.ty "list") (.type "list") from rfl)) pa_nil))) (nomark _))
            (pw_or1 (pt_cmpR op_ne (pe_callB call_isi (by rfl) B.b_isinstance (by decide +kernel) (pa_cons (pv 0) (pa_cons (pe_bltn (by rfl) B.b_tuple (by decide +kernel) (show RelV (.ty "tuple") (.type "tuple") from rfl)) pa_nil))) (pe_callB call_isi (by rfl) B.b_isinstance (by decide +kernel) (pa_cons (pv 1) (pa_cons (pe_bltn (by rfl) B.b_tuple (by decide +kernel) (show RelV (.ty "tuple") (.type "tuple") from rfl)) pa_nil))) (nomark _))))) (pss_one (ps_ret pe_bl)) pss_nil)
        (pss_one (ps_ret (pe_and (pe_cmpR op_eq (pe_callB call_len (by rfl) B.b_len (by decide +kernel) (pa_cons (pv 0) pa_nil)) (pe_callB call_len (by rfl) B.b_len (by decide +kernel) (pa_cons (pv 1) pa_nil)) (nomark _))
          (pe_one (pe_callB (cr_all rfl) (by rfl) B.b_all (by decide +kernel) (pa_cons (pe_lc (own := [("_law_mine_so", 2), ("_law_own", 3)]) (g := gTup K 2 (gCons (gName 2) (gCons (gName 3) gNil))) (tt := tYes) rfl sc_same.nd (pi_zipA (by rfl) B.b_zip (pa_cons (pv 0) (pa_cons (pv 1) pa_nil))) (blkOk_by (N := ["_law_got", "_law_goal", "_law_mine_so", "_law_own"]) (sc := defScope s__law_same) (by decide +kernel))
            (fun _ _ _ _ _ => pg_tup rfl (pgs_cons (pg_name (i := 2) sc_same.nd rfl (Or.inl rfl)) (pgs_cons (pg_name (i := 3) sc_same.nd rfl (Or.inl rfl)) pgs_nil))) (fun _ _ _ _ _ => pts_nil)
            (fun _ _ _ _ _ => pe_call G hr rfl B.g_law_same F.kp bG .nil pass0 (pa_cons (pv 2) (pa_cons (pv 3) pa_nil)))) pa_nil))))))) pss_nil)
      (pss_cons (ps_if (PW.pt (pw_or (pt_cmp (pc_isN (pv 1))) (pw_or1 (pt_val (pe_callB call_isiT (by rfl) B.b_isinstance (by decide +kernel) (pa_cons (pv 1) (pa_cons (pe_tup (pa_cons (pe_bltn (by rfl) B.b_bool (by decide +kernel) (show RelV (.ty "bool") (.type "bool") from rfl)) (pa_cons (pe_bltn (by rfl) B.b_str (by decide +kernel) (show RelV (.ty "str") (.type "str") from rfl)) pa_nil))) pa_nil)))))))
        (pss_one (ps_ret (pe_and (pe_cmpR op_eq (pv 0) (pv 1) (nomark _)) (pe_and (pe_cmpR op_eq (pe_callB call_isi (by rfl) B.b_isinstance (by decide +kernel) (pa_cons (pv 0) (pa_cons (pe_bltn (by rfl) B.b_bool (by decide +kernel) (show RelV (.ty "bool") (.type "bool") from rfl)) pa_nil))) (pe_callB call_isi (by rfl) B.b_isinstance (by decide +kernel) (pa_cons (pv 1) (pa_cons (pe_bltn (by rfl) B.b_bool (by decide +kernel) (show RelV (.ty "bool") (.type "bool") from rfl)) pa_nil))) (nomark _))
          (pe_one (pe_cmpR op_eq (pe_cmp (pc_isN (pv 0)) rfl) (pe_cmp (pc_isN (pv 1)) rfl) (nomark _))))))) pss_nil)
      (pss_one (ps_ret (pe_and (pe_callB call_isi (by rfl) B.b_isinstance (by decide +kernel) (pa_cons (pv 0) (pa_cons (pe_bltn (by rfl) B.b_int (by decide +kernel) (show RelV (.ty "int") (.type "int") from rfl)) pa_nil))) (pe_and (pe_not (pe_callB call_isi (by rfl) B.b_isinstance (by decide +kernel) (pa_cons (pv 0) (pa_cons (pe_bltn (by rfl) B.b_bool (by decide +kernel) (show RelV (.ty "bool") (.type "bool") from rfl)) pa_nil)))) (pe_one (pe_cmpR op_eq (pv 0) (pv 1) (nomark _)))))))), ?_⟩
    have hc : (x = y ∧ FlatV y) ∨ ∃ (m : Nat) (a b : Addr) (xs ys : List V), n = m + 1 ∧ x = .ref a ∧ y = .ref b ∧ xs.length = ys.length ∧ xs.length < 1000 ∧ (∀ (i : Nat) (u v : V), xs[i]? = some u → ys[i]? = some v → Sm H m u v) ∧
        ((H a = some (.lst xs) ∧ H b = some (.lst ys)) ∨ (H a = some (.tup xs) ∧ H b = some (.tup ys))) := by
      cases n with
      | zero => exact .inl hs
      | succ m =>
        rcases (show (x = y ∧ FlatV y) ∨ _ from hs) with h | ⟨a, b, xs, ys, h1, h2, h3⟩
        · exact .inl h
        · exact .inr ⟨m, a, b, xs, ys, rfl, h1, h2, h3⟩
    rcases hc with ⟨rfl, hf⟩ | ⟨n, a, b, xs, ys, rfl, rfl, rfl, hl, h3, he, hab⟩
    · cases x with
      | non =>
        refine ⟨_, rfl, (by show 2 ≤ sizeLine; decide), fun p hp => ⟨_, p, _, _, _, _, rfl, upd_same, cls2 "list" "tuple", ty_flat hf, kit2 (a := "NoneType") (r := false) (s := false) (by decide +kernel) (by decide +kernel), _, rfl, iteF ?_⟩⟩
        refine ⟨_, rfl, _, rfl, ifd rfl ?_⟩
        refine ⟨_, rfl, _, rfl, rfl, _, rfl, ifd rfl ?_⟩
        refine ⟨_, rfl, _, _, _, _, _, rfl, .ty "bool", ty_flat hf, kit_ty (a := "NoneType") (r := false) (by decide +kernel), _, rfl, _, _, _, _, _, rfl, .ty "bool", ty_flat hf, kit_ty (a := "NoneType") (r := false) (by decide +kernel), rfl, _, rfl, ifd rfl ?_⟩
        refine ⟨_, rfl, _, rfl, rfl, ?_⟩
        have e : decide (V.bl (decide (V.non = V.non)) = V.bl (decide (V.non = V.non))) = true := decide_eq_true rfl
        show Q (V.bl (decide (V.bl (decide (V.non = V.non)) = V.bl (decide (V.non = V.non))))) _
        rw [e]
        exact kq _ (Same_new hp)
      | bl bb =>
        refine ⟨_, rfl, (by show 2 ≤ sizeLine; decide), fun p hp => ⟨_, p, _, _, _, _, rfl, upd_same, cls2 "list" "tuple", ty_flat hf, kit2 (a := "bool") (r := false) (s := false) (by decide +kernel) (by decide +kernel), _, rfl, iteF ?_⟩⟩
        refine ⟨_, rfl, _, rfl, ifdn (fun z => nomatch z) ?_⟩
        refine ⟨_, rfl, (by show 2 ≤ sizeLine; decide), fun p2 hp2 => ⟨_, p2, _, _, _, _, rfl, upd_same, cls2 "bool" "str", ty_flat hf, kit2 (a := "bool") (r := true) (s := false) (by decide +kernel) (by decide +kernel), _, rfl, iteT ?_⟩⟩
        refine ⟨_, rfl, _, rfl, rfl, _, rfl, ifd rfl ?_⟩
        refine ⟨_, rfl, _, _, _, _, _, rfl, .ty "bool", ty_flat hf, kit_ty (a := "bool") (r := true) (by decide +kernel), _, rfl, _, _, _, _, _, rfl, .ty "bool", ty_flat hf, kit_ty (a := "bool") (r := true) (by decide +kernel), rfl, _, rfl, ifd rfl ?_⟩
        refine ⟨_, rfl, _, rfl, rfl, ?_⟩
        have e : decide (V.bl (decide (V.bl bb = V.non)) = V.bl (decide (V.bl bb = V.non))) = true := decide_eq_true rfl
        show Q (V.bl (decide (V.bl (decide (V.bl bb = V.non)) = V.bl (decide (V.bl bb = V.non))))) _
        rw [e]
        exact kq _ (Same_lay (Same_new hp) hp2)
      | str z =>
        refine ⟨_, rfl, (by show 2 ≤ sizeLine; decide), fun p hp => ⟨_, p, _, _, _, _, rfl, upd_same, cls2 "list" "tuple", ty_flat hf, kit2 (a := "str") (r := false) (s := false) (by decide +kernel) (by decide +kernel), _, rfl, iteF ?_⟩⟩
        refine ⟨_, rfl, _, rfl, ifdn (fun z => nomatch z) ?_⟩
        refine ⟨_, rfl, (by show 2 ≤ sizeLine; decide), fun p2 hp2 => ⟨_, p2, _, _, _, _, rfl, upd_same, cls2 "bool" "str", ty_flat hf, kit2 (a := "str") (r := false) (s := true) (by decide +kernel) (by decide +kernel), _, rfl, iteT ?_⟩⟩
        refine ⟨_, rfl, _, rfl, rfl, _, rfl, ifd rfl ?_⟩
        refine ⟨_, rfl, _, _, _, _, _, rfl, .ty "bool", ty_flat hf, kit_ty (a := "str") (r := false) (by decide +kernel), _, rfl, _, _, _, _, _, rfl, .ty "bool", ty_flat hf, kit_ty (a := "str") (r := false) (by decide +kernel), rfl, _, rfl, ifd rfl ?_⟩
        refine ⟨_, rfl, _, rfl, rfl, ?_⟩
        have e : decide (V.bl (decide (V.str z = V.non)) = V.bl (decide (V.str z = V.non))) = true := decide_eq_true rfl
        show Q (V.bl (decide (V.bl (decide (V.str z = V.non)) = V.bl (decide (V.str z = V.non))))) _
        rw [e]
        exact kq _ (Same_lay (Same_new hp) hp2)
      | int i =>
        refine ⟨_, rfl, (by show 2 ≤ sizeLine; decide), fun p hp => ⟨_, p, _, _, _, _, rfl, upd_same, cls2 "list" "tuple", ty_flat hf, kit2 (a := "int") (r := false) (s := false) (by decide +kernel) (by decide +kernel), _, rfl, iteF ?_⟩⟩
        refine ⟨_, rfl, _, rfl, ifdn (fun z => nomatch z) ?_⟩
        refine ⟨_, rfl, (by show 2 ≤ sizeLine; decide), fun p2 hp2 => ⟨_, p2, _, _, _, _, rfl, upd_same, cls2 "bool" "str", ty_flat hf, kit2 (a := "int") (r := false) (s := false) (by decide +kernel) (by decide +kernel), _, rfl, iteF ?_⟩⟩
        refine ⟨_, rfl, _, _, _, _, _, rfl, .ty "int", ty_flat hf, kit_ty (a := "int") (r := true) (by decide +kernel), _, rfl, iteT ?_⟩
        refine ⟨_, rfl, _, _, _, _, _, rfl, .ty "bool", ty_flat hf, kit_ty (a := "int") (r := false) (by decide +kernel), _, rfl, _, rfl, iteT ?_⟩
        refine ⟨_, rfl, _, rfl, rfl, ?_⟩
        have e : decide (V.int i = V.int i) = true := decide_eq_true rfl
        show Q (V.bl (decide (V.int i = V.int i))) _
        rw [e]
        exact kq _ (Same_lay (Same_new hp) hp2)
      | _ => exact hf.elim
    · rcases hab with ⟨ha, hb⟩ | ⟨ha, hb⟩
      · have hk := he
        refine ⟨_, rfl, (by show 2 ≤ sizeLine; decide), fun p hp => ⟨_, p, _, _, _, _, rfl, upd_same, cls2 "list" "tuple", .base (.lst (Same_new hp _ _ hb)), kit2 (a := "list") (r := true) (s := false) (by decide +kernel) (by decide +kernel), _, rfl, iteT ?_⟩⟩
        have s1 : Same H (upd H p (.tup [.ty "list", .ty "tuple"])) := Same_new hp
        have ha1 := s1 _ _ ha
        have hb1 := s1 _ _ hb
        refine ⟨_, rfl, _, _, _, _, _, rfl, .ty "list", .base (.lst ha1), kit_ty (a := "list") (r := true) (by decide +kernel), _, rfl, _, _, _, _, _, rfl, .ty "list", .base (.lst hb1), kit_ty (a := "list") (r := true) (by decide +kernel), rfl, _, rfl, iteNS rfl ?_⟩
        refine ⟨_, rfl, _, _, _, _, _, rfl, .ty "tuple", .base (.lst ha1), kit_ty (a := "list") (r := false) (by decide +kernel), _, rfl, _, _, _, _, _, rfl, .ty "tuple", .base (.lst hb1), kit_ty (a := "list") (r := false) (by decide +kernel), rfl, _, rfl, iteNS rfl ?_⟩
        refine ⟨_, rfl, _, _, rfl, .inl ⟨_, SqL.of ha1, rfl⟩, _, rfl, _, _, rfl, .inl ⟨_, SqL.of hb1, rfl⟩, rfl, _, rfl, ifd (by rw [hl]) ?_⟩
        refine ⟨_, rfl, _, rfl, a, b, xs, ys, rfl, .inl ⟨SqL.of ha1, SqL.of hb1, fun D hD => ?_⟩⟩
        refine lc_fm (walk_zip (show xs.length = min xs.length ys.length by omega)) (fun _ => some (.bl true)) hD (by have : (1000 : Nat) < sizeLine := (by decide); omega) (fun H' s' => ⟨SqL.of (s' _ _ ha1), SqL.of (s' _ _ hb1)⟩) (fun i v H2 H3 Kt Kf hi s2 yy kt kf => ?_) (fun H2 s2 hD2 => ?_)
        · obtain ⟨T, u', v', rfl, nT, rfl, e1, e2⟩ := yy
          refine ⟨_, _, rfl, SqT.of upd_same, rfl, _, _, rfl, _, _, rfl, rfl, rfl, iteT (B := Kf (upd H2 T (.tup [u', v']))) ?_⟩
          exact ⟨_, rfl, _, rfl, u', v', rfl, Sm_same ((s1.trans s2).trans (Same_new nT)) n (he i u' v' e1 e2), fun H4 s4 => kt _ _ rfl ((Same_new nT).trans s4)⟩
        · refine ⟨D, List.replicate xs.length true, rfl, SqL.of (hD2.trans ?_), ?_⟩
          · rw [rep_true]
          · rw [rep_all]
            exact kq _ (s1.trans s2)
      · have hk := he
        refine ⟨_, rfl, (by show 2 ≤ sizeLine; decide), fun p hp => ⟨_, p, _, _, _, _, rfl, upd_same, cls2 "list" "tuple", .base (.tup (Same_new hp _ _ hb)), kit2 (a := "tuple") (r := false) (s := true) (by decide +kernel) (by decide +kernel), _, rfl, iteT ?_⟩⟩
        have s1 : Same H (upd H p (.tup [.ty "list", .ty "tuple"])) := Same_new hp
        have ha1 := s1 _ _ ha
        have hb1 := s1 _ _ hb
        refine ⟨_, rfl, _, _, _, _, _, rfl, .ty "list", .base (.tup ha1), kit_ty (a := "tuple") (r := false) (by decide +kernel), _, rfl, _, _, _, _, _, rfl, .ty "list", .base (.tup hb1), kit_ty (a := "tuple") (r := false) (by decide +kernel), rfl, _, rfl, iteNS rfl ?_⟩
        refine ⟨_, rfl, _, _, _, _, _, rfl, .ty "tuple", .base (.tup ha1), kit_ty (a := "tuple") (r := true) (by decide +kernel), _, rfl, _, _, _, _, _, rfl, .ty "tuple", .base (.tup hb1), kit_ty (a := "tuple") (r := true) (by decide +kernel), rfl, _, rfl, iteNS rfl ?_⟩
        refine ⟨_, rfl, _, _, rfl, .inr ⟨_, SqT.of ha1, rfl⟩, _, rfl, _, _, rfl, .inr ⟨_, SqT.of hb1, rfl⟩, rfl, _, rfl, ifd (by rw [hl]) ?_⟩
        refine ⟨_, rfl, _, rfl, a, b, xs, ys, rfl, .inr ⟨SqT.of ha1, SqT.of hb1, fun D hD => ?_⟩⟩
        refine lc_fm (walk_zipT (show xs.length = min xs.length ys.length by omega)) (fun _ => some (.bl true)) hD (by have : (1000 : Nat) < sizeLine := (by decide); omega) (fun H' s' => ⟨SqT.of (s' _ _ ha1), SqT.of (s' _ _ hb1)⟩) (fun i v H2 H3 Kt Kf hi s2 yy kt kf => ?_) (fun H2 s2 hD2 => ?_)
        · obtain ⟨T, u', v', rfl, nT, rfl, e1, e2⟩ := yy
          refine ⟨_, _, rfl, SqT.of upd_same, rfl, _, _, rfl, _, _, rfl, rfl, rfl, iteT (B := Kf (upd H2 T (.tup [u', v']))) ?_⟩
          exact ⟨_, rfl, _, rfl, u', v', rfl, Sm_same ((s1.trans s2).trans (Same_new nT)) n (he i u' v' e1 e2), fun H4 s4 => kt _ _ rfl ((Same_new nT).trans s4)⟩
        · refine ⟨D, List.replicate xs.length true, rfl, SqL.of (hD2.trans ?_), ?_⟩
          · rw [rep_true]
          · rw [rep_all]
            exact kq _ (s1.trans s2)

theorem ok_false {fd : FuncData} (F : Fun K "_law_same" "_law_same" s__law_same (He.ga K "_law_same") fd) : FnOk P w K mg base CX0 1 (He.ga K "_law_same") fd ["_law_got", "_law_goal"] (spPrev 0) :=
  F.ok sc_same (fun vs H Q E h => False.elim h) (fun cdv A outer s H vs Q E hr h => False.elim h)
theorem ok_same_all (B : Bk K mg) {fd : FuncData} (F : Fun K "_law_same" "_law_same" s__law_same (He.ga K "_law_same") fd) (b : Binds K fd ["_law_got", "_law_goal"] []) : ∀ n, FnOk P w K mg base CX0 (n + 2) (He.ga K "_law_same") fd ["_law_got", "_law_goal"] (spSame n)
  | 0 => ok_same_step B F 0 1 (ok_false F) b
  | n + 1 => ok_same_step B F (n + 1) (n + 2) (ok_same_all B F b n) b
theorem ok_law_same (B : Bk K mg) (n : Nat) : Df P w K mg base CX0 (n + 2) "_law_same" ["_law_got", "_law_goal"] (spSame n) := by
  obtain ⟨fd, F⟩ := B.F_law_same
  have b := F.binds (ps := ["_law_got", "_law_goal"]) fun _ _ _ _ _ _ us hl => match us, hl with | [_, _], _ => rfl
  exact ⟨⟨fd, ok_same_all B F b n, b⟩, B.g_law_same, F.kp⟩
end
end Jd
namespace Jd
open PySem PySem.Spec PyProof.Rows L2
/-! ### lists, few -/
theorem Keep.seqT {K : PySem.W.Frag} {u : Addr} {H H' : Hp} (k : Keep u H H') {a : Addr} {xs ys : List V} (h : SqT K H a xs) (hu : H u = some (.lst ys)) : SqT K H' a xs := by
  rcases h with (h | ⟨o, h⟩) | h
  · exact .inl (.inl (k _ _ (ne_of h hu (by intro z; cases z)) h))
  · exact .inl (.inr ⟨o, k _ _ (ne_of h hu (by intro z; cases z)) h⟩)
  · exact .inr h
theorem at_last {α : Type} {l : List α} {x y : α} {j : Nat} (h : (l ++ [x])[j]? = some y) : l[j]? = some y ∨ (j = l.length ∧ y = x) := by
  by_cases hj : j < l.length
  · rw [List.getElem?_append_left hj] at h
    exact .inl h
  · rw [List.getElem?_append_right (by omega)] at h
    have j0 : j - l.length = 0 := by
      rcases Nat.eq_zero_or_pos (j - l.length) with z | z
      · exact z
      · rw [List.getElem?_eq_none (by show 1 ≤ _; omega)] at h
        cases h
    rw [j0] at h
    cases h
    exact .inr ⟨by omega, rfl⟩
end Jd
namespace Jd
open PySem PySem.Spec PyProof.Rows L2
/-! ### book -/
def pool7 : List Str := ["a", "city", "item", "lot", "shop", "user", "zzzzzzzz"]
theorem pool_nd : pool7.Nodup := by decide +kernel
theorem idx_at : ∀ {ns : List Str} {i : Nat} {z : Str}, ns.Nodup → ns[i]? = some z → ns.idxOf z = i
  | [], _, _, _, h => by cases h
  | x :: r, 0, z, _, h => by
    cases h
    exact List.idxOf_cons_self
  | x :: r, i + 1, z, nd, h => by
    obtain ⟨n1, n2⟩ := List.nodup_cons.mp nd
    have hz : z ∈ r := List.mem_of_getElem? (show r[i]? = some z from h)
    have ne : x ≠ z := fun e => n1 (e ▸ hz)
    have hb : (x == z) = false := by
      cases e : (x == z) with
      | false => rfl
      | true => exact absurd (eq_of_beq e) ne
    rw [List.idxOf_cons, hb, idx_at n2 (show r[i]? = some z from h)]
    rfl
structure Book (ns : List Str) (R : List (Str × Str)) : Prop where
  nd : ns.Nodup
  so : sortedS ns = true
  l1 : 1 ≤ ns.length
  l5 : ns.length ≤ 5
  pool : ∀ z ∈ ns, z ∈ pool7
  rnd : R.Nodup
  r1 : ∀ p ∈ R, p.1 ∈ ns
  r2 : ∀ p ∈ R, p.2 ∈ ns
  rk : ∃ rk : Str → Nat, (∀ p ∈ R, rk p.1 < rk p.2) ∧ ∀ p ∈ R, rk p.2 ≤ ns.length
  rl : R.length ≤ 20
def loP (st : Int) (p : Str × Str) : Str := if st = 1 then p.1 else p.2
def hiP (st : Int) (p : Str × Str) : Str := if st = 1 then p.2 else p.1
def mkP (st : Int) (a b : Str) : Str × Str := if st = 1 then (a, b) else (b, a)
theorem lo_mk (st : Int) (a b : Str) : loP st (mkP st a b) = a := by
  unfold loP mkP
  by_cases h : st = 1
  · rw [if_pos h, if_pos h]
  · rw [if_neg h, if_neg h]
theorem hi_mk (st : Int) (a b : Str) : hiP st (mkP st a b) = b := by
  unfold hiP mkP
  by_cases h : st = 1
  · rw [if_pos h, if_pos h]
  · rw [if_neg h, if_neg h]
structure PkI (ns : List Str) (st : Int) (R : List (Str × Str)) (i j : Nat) : Prop where
  nd : R.Nodup
  mem : ∀ p ∈ R, loP st p ∈ ns ∧ hiP st p ∈ ns ∧ ns.idxOf (loP st p) < ns.idxOf (hiP st p) ∧ (ns.idxOf (loP st p) < i ∨ (ns.idxOf (loP st p) = i ∧ ns.idxOf (hiP st p) < j))
  len : R.length ≤ 4 * i + (j - (i + 1))
theorem PkI.zero {ns : List Str} {st : Int} : PkI ns st [] 0 1 := ⟨List.nodup_nil, (fun p h => by cases h), Nat.zero_le _⟩
theorem PkI.add {ns : List Str} {st : Int} {R : List (Str × Str)} {i j : Nat} {a b : Str} (h : PkI ns st R i j) (nd : ns.Nodup) (ha : ns[i]? = some a) (hb : ns[j]? = some b) (hij : i < j) : PkI ns st (R ++ [mkP st a b]) i (j + 1) := by
  have ea := idx_at nd ha
  have eb := idx_at nd hb
  refine ⟨List.nodup_append.mpr ⟨h.nd, List.nodup_cons.mpr ⟨List.not_mem_nil, List.nodup_nil⟩, fun p hp q hq e => ?_⟩, fun p hp => ?_, ?_⟩
  · rw [List.mem_singleton.mp hq] at e
    subst e
    obtain ⟨_, _, _, z⟩ := h.mem _ hp
    rw [lo_mk, hi_mk, ea, eb] at z
    omega
  · rcases List.mem_append.mp hp with hp | hp
    · obtain ⟨h1, h2, h3, h4⟩ := h.mem p hp
      exact ⟨h1, h2, h3, by omega⟩
    · rw [List.mem_singleton.mp hp, lo_mk, hi_mk, ea, eb]
      exact ⟨List.mem_of_getElem? ha, List.mem_of_getElem? hb, hij, .inr ⟨rfl, Nat.lt_succ_self _⟩⟩
  · rw [List.length_append]
    have := h.len
    show R.length + 1 ≤ _
    omega
theorem PkI.skip {ns : List Str} {st : Int} {R : List (Str × Str)} {i j : Nat} (h : PkI ns st R i j) : PkI ns st R i (j + 1) := ⟨h.nd, fun p hp => by
  obtain ⟨h1, h2, h3, h4⟩ := h.mem p hp
  exact ⟨h1, h2, h3, by omega⟩, by have := h.len; omega⟩
theorem PkI.next {ns : List Str} {st : Int} {R : List (Str × Str)} {i : Nat} (h : PkI ns st R i ns.length) (l5 : ns.length ≤ 5) : PkI ns st R (i + 1) (i + 2) := ⟨h.nd, fun p hp => by
  obtain ⟨h1, h2, h3, h4⟩ := h.mem p hp
  exact ⟨h1, h2, h3, by omega⟩, by have := h.len; omega⟩
theorem PkI.book {ns : List Str} {st : Int} {R : List (Str × Str)} {i j : Nat} (h : PkI ns st R ns.length j) (hj : j ≤ ns.length + 1) (nd : ns.Nodup) (so : sortedS ns = true) (l1 : 1 ≤ ns.length) (l5 : ns.length ≤ 5) (pool : ∀ z ∈ ns, z ∈ pool7) : Book ns R := by
  have lt : ∀ z ∈ ns, ns.idxOf z < ns.length := fun z hz => List.idxOf_lt_length_of_mem hz
  refine ⟨nd, so, l1, l5, pool, h.nd, fun p hp => ?_, fun p hp => ?_, ?_, by have := h.len; omega⟩
  · obtain ⟨h1, h2, _⟩ := h.mem p hp
    unfold loP at h1
    unfold hiP at h2
    split at h1
    · exact h1
    · rename_i q
      rw [if_neg q] at h2
      exact h2
  · obtain ⟨h1, h2, _⟩ := h.mem p hp
    unfold loP at h1
    unfold hiP at h2
    split at h2
    · exact h2
    · rename_i q
      rw [if_neg q] at h1
      exact h1
  · by_cases e : st = 1
    · refine ⟨fun z => ns.idxOf z, fun p hp => ?_, fun p hp => ?_⟩
      · obtain ⟨_, _, h3, _⟩ := h.mem p hp
        unfold loP hiP at h3
        rw [if_pos e, if_pos e] at h3
        exact h3
      · obtain ⟨_, h2, _, _⟩ := h.mem p hp
        unfold hiP at h2
        rw [if_pos e] at h2
        exact Nat.le_of_lt (lt _ h2)
    · refine ⟨fun z => ns.length - ns.idxOf z, fun p hp => ?_, fun p hp => Nat.sub_le _ _⟩
      obtain ⟨h1, h2, h3, _⟩ := h.mem p hp
      unfold loP hiP at h3
      unfold hiP at h2
      rw [if_neg e] at h2
      rw [if_neg e, if_neg e] at h3
      have := lt _ h2
      show ns.length - ns.idxOf p.1 < ns.length - ns.idxOf p.2
      omega
theorem cut_from (xs : List V) (k : Nat) : cutV xs (some (k : Int)) none = xs.drop (min k xs.length) := by
  unfold cutV
  rw [HT.sIx_nat, HT.sIx_none]
  rw [List.take_of_length_le (by rw [List.length_drop]; exact Nat.le_refl _)]
theorem free_of {u b : Addr} {H H' : Hp} {o : HO} (k : Keep u H H') (hu : H' u = some o) (h : H' b = none) : H b = none := by
  by_cases e : b = u
  · rw [e, hu] at h
    cases h
  · exact k.none h e
def spBook : Sp := fun vs H Q _ => ∃ (u : Addr) (m : Int) (n : Nat), vs = [.ref u, .int m] ∧ Urn H u n ∧ n < 90000 ∧ 0 < m ∧ m ≤ 5 ∧
  ∀ (ns : List Str) (R : List (Str × Str)) (t f g : Addr) (qs : List Addr) (H' : Hp), Book ns R → Urn H' u (n + 40) → Keep u H H' → H t = none → H f = none → H g = none → (∀ q ∈ qs, H q = none) → H' t = some (.tup [.ref f, .ref g]) → H' f = some (.tup (ns.map V.str)) → H' g = some (.tup (qs.map V.ref)) → PrAt H' qs R → Q (.ref t) H'
section
variable {P : Program} {w : World} {K : PySem.W.Frag} {mg : Str → Option Value} {base : Heap}
abbrev NBk : List Str := ["_law_urn", "_law_most_so", "_law_pool", "_law_flats", "_law_pairs_so", "_law_style", "_law_k", "_law_own", "_law_far"]
theorem sc_bk : FnScope NBk ["_law_urn", "_law_most_so"] (defScope s__law_book) := ⟨rfl, rfl, rfl, by decide +kernel, rfl, by decide +kernel, by decide +kernel⟩
theorem ok_book (B : Bk K mg) : Df P w K mg base CX0 3 "_law_book" ["_law_urn", "_law_most_so"] spBook := by
  obtain ⟨fd, F⟩ := B.F_law_book
  obtain ⟨fdT, GT, bT⟩ := (ok_law_take (P := P) (w := w) (base := base) B).ex
  have kT := (ok_law_take (P := P) (w := w) (base := base) B).kp
  obtain ⟨fdM, GM, bM⟩ := (ok_law_mixed (P := P) (w := w) (base := base) B).ex
  have kM := (ok_law_mixed (P := P) (w := w) (base := base) B).kp
  refine ⟨⟨fd, ?_, F.binds fun _ _ _ _ _ _ us hl => match us, hl with | [_, _], _ => rfl⟩, B.g_law_book, F.kp⟩
  refine F.ok sc_bk (fun vs H Q E h => ?_) (fun cdv A outer s H vs Q E hr h => ?_)
  · obtain ⟨_, _, _, rfl, _⟩ := h
    rfl
  · obtain ⟨u, m, n, rfl, hu, hn, m0, m5, k⟩ := h
    have hr1 : Room 1 _ := hr.mono (by decide)
    refine ⟨_, pss_cons (ps_set (i := 2) sc_bk.nd rfl (Or.inl rfl) (pe_callTy call_list_of (by rfl) B.b_list (by decide +kernel) (pa_cons (pe_call GM hr rfl B.g_law_mixed kM bM .nil pass0 (pa_cons (pv 0) (pa_cons (pe_lst (pa_cons pe_str (pa_cons pe_str (pa_cons pe_str (pa_cons pe_str (pa_cons pe_str (pa_cons pe_str (pa_cons pe_str pa_nil)))))))) pa_nil))) pa_nil)))
      (pss_cons (ps_par3 (i := 3) (j := 4) (l := 5) (by rfl) sc_bk.nd rfl rfl rfl (by decide) (by decide) (by decide) rfl rfl rfl
        (pa_cons (pe_callB cr_sortedS (by rfl) B.b_sorted (by decide +kernel) (pa_cons (pe_lc (own := [("_law_own", 7)]) (g := gName 7) (tt := tYes) rfl sc_bk.nd (pi_list (pe_slice sl_list (pv 2) po_none (po_some (pe_op op_add pe_int (pe_call GT hr1 rfl B.g_law_take kT bT .nil pass0 (pa_cons (pv 0) (pa_cons (pv 1) pa_nil)))))))
            (blkOk_by (N := NBk) (sc := defScope s__law_book) (by decide +kernel)) (fun _ _ _ _ _ => pg_name (i := 7) sc_bk.nd rfl (Or.inl rfl)) (fun _ _ _ _ _ => pts_nil) (fun _ _ _ _ _ => pe_callTy SkE.call_str_str (by rfl) B.b_str (by decide +kernel) (pa_cons (pv 7) pa_nil))) pa_nil))
          (pa_cons (pe_lst pa_nil) (pa_cons (pe_call GT hr1 rfl B.g_law_take kT bT .nil pass0 (pa_cons (pv 0) (pa_cons pe_int pa_nil))) pa_nil))) (by rfl))
      (pss_cons (ps_for PassesOwn.never rfl (pi_enum (by rfl) B.b_enumerate (pa_cons (pv 3) pa_nil)) (pg_tup rfl (pgs_cons (pg_name (i := 6) sc_bk.nd rfl (.inl rfl)) (pgs_cons (pg_name (i := 7) sc_bk.nd rfl (.inl rfl)) pgs_nil)))
        (pss_one (ps_for PassesOwn.never rfl (pi_list (pe_slice sl_list (pv 3) (po_some (pe_op op_add (pv 6) pe_int)) po_none)) (pg_name (i := 8) sc_bk.nd rfl (.inl rfl))
          (pss_one (ps_if (PW.pt (pw_and (pt_cmpR op_gt (pv 5) pe_int (nomark _)) (pw_and1 (pt_cmpR op_eq (pe_call GT hr1 rfl B.g_law_take kT bT .nil pass0 (pa_cons (pv 0) (pa_cons pe_int pa_nil))) pe_int (nomark _)))))
            (pss_one (ps_expr (pe_bm PySem.F.plainAttrs_list PySem.F.slot_list_append PySem.F.type_list_append mt_append (pv 4) (pa_cons (pe_cut (pe_ifExp (pt_cmpR op_eq (pv 5) pe_int (nomark _)) (pe_tup (pa_cons (pv 7) (pa_cons (pv 8) pa_nil))) (pe_tup (pa_cons (pv 8) (pa_cons (pv 7) pa_nil))))) pa_nil)))) pss_nil)))))
      (pss_one (ps_ret (pe_tup (pa_cons (pe_callTy call_tuple_of (by rfl) B.b_tuple (by decide +kernel) (pa_cons (pv 3) pa_nil)) (pa_cons (pe_callTy call_tuple_of (by rfl) B.b_tuple (by decide +kernel) (pa_cons (pv 4) pa_nil)) pa_nil))))))), ?_⟩
    obtain ⟨ua, ub, uc, hu0, _⟩ := id hu
    refine ⟨_, rfl, (by show 7 ≤ sizeLine; decide), fun p hp => ⟨u, p, pool7.map V.str, n, rfl, hu.same (Same_new hp), (by show n + 7 < 100000; omega), .inl (SqL.of upd_same), (by decide), fun ys t H1 pm hu1 kp1 nt ht => ?_⟩⟩
    obtain ⟨zs, rfl, pz⟩ := nodup_perm_map pm
    have ndz : zs.Nodup := pz.nodup_iff.mpr pool_nd
    have kp0 : Keep u H H1 := (Same.keep (Same_new hp)).trans kp1
    refine ⟨t, _, rfl, .inr (SqT.of ht), fun L nL => ?_⟩
    have nLH : H L = none := by
      obtain ⟨a, b, c, h3, _⟩ := hu1
      exact free_of kp0 h3 nL
    have nLu : L ≠ u := fun e => by rw [e, hu0] at nLH; cases nLH
    have kp2 : Keep u H (upd H1 L (.lst (zs.map V.str))) := Keep_lay kp0 nLH
    have hu2 : Urn (upd H1 L (.lst (zs.map V.str))) u (n + 7) := hu1.same (Same_new nL)
    refine ⟨_, rfl, _, rfl, _, rfl, u, m, n + 7, rfl, hu2, by omega, m0, by omega, fun r H3 r0 r1 hu3 kp3 => ?_⟩
    have hL3 : H3 L = some (.lst (zs.map V.str)) := kp3 _ _ nLu upd_same
    refine ⟨_, _, rfl, rfl, _, rfl, L, _, rfl, SqL.of hL3, fun q hq => ⟨q, rfl, ⟨_, SqL.of upd_same⟩, fun D hD => ?_⟩⟩
    have ec : cutV (zs.map V.str) Option.none (some ((fun i j => i + j) (1 : Int) r)) = (zs.take (1 + r.toNat)).map V.str := by
      have e : ((fun i j => i + j) (1 : Int) r) = ((1 + r.toNat : Nat) : Int) := by
        show 1 + r = _
        omega
      rw [e, cut_to, List.map_take]
    have zl : 1 ≤ (zs.take (1 + r.toNat)).length ∧ (zs.take (1 + r.toNat)).length ≤ 5 := by
      rw [List.length_take, pz.length_eq]
      have : pool7.length = 7 := rfl
      omega
    have ndx : (zs.take (1 + r.toNat)).Nodup := ndz.sublist (List.take_sublist _ _)
    have xin : ∀ z ∈ zs.take (1 + r.toNat), z ∈ pool7 := fun z h => pz.mem_iff.mp (List.mem_of_mem_take h)
    rw [ec] at hD ⊢
    generalize zs.take (1 + r.toNat) = xs at zl ndx xin hD
    obtain ⟨a3, b3, c3, hu3', _⟩ := id hu3
    have kq : Keep u H H3 := kp2.trans kp3
    have nqH : H q = none := free_of kq hu3' hq
    have kq1 : Keep u H (upd H3 q (.lst (xs.map V.str))) := Keep_lay kq nqH
    have huq : Urn (upd H3 q (.lst (xs.map V.str))) u (n + 8) := hu3.same (Same_new hq)
    refine lc_fm (walk_list (xs := xs.map V.str)) (fun i => (xs[i]?).map V.str) hD (by rw [List.length_map]; exact Nat.le_trans zl.2 (by decide)) (fun H' s' => sm_seqL s' (SqL.of upd_same)) (fun i x H4 H5 Kt Kf hi s4 y kt kf => ?_) (fun H4 s4 hD4 => ?_)
    · obtain ⟨rfl, hx⟩ := y
      obtain ⟨z, hz, rfl⟩ := at_str hx
      exact ⟨rfl, iteT (B := Kf H5) ⟨_, rfl, z, rfl, kt _ _ (by rw [hz]; rfl) (Same.refl _)⟩⟩
    · have e : (List.range (xs.map V.str).length).filterMap (fun i => (xs[i]?).map V.str) = xs.map V.str := by
        rw [List.length_map]
        exact fm_some (fun i x hx => by rw [hx]; rfl)
      rw [e] at hD4
      refine ⟨D, xs, rfl, SqL.of hD4, Nat.lt_of_le_of_lt zl.2 (by decide), fun ns fl pn so nf => ?_⟩
      have kf4 : Keep u H H4 := kq1.trans (Same.keep s4)
      have huf : Urn H4 u (n + 8) := huq.same s4
      obtain ⟨a4, b4, c4, hu4', _⟩ := id huf
      have nfH : H fl = none := free_of kf4 hu4' nf
      have nfu : fl ≠ u := fun e => by rw [e, hu0] at nfH; cases nfH
      have nd : ns.Nodup := pn.nodup_iff.mpr ndx
      have l1 : 1 ≤ ns.length := by rw [pn.length_eq]; exact zl.1
      have l5 : ns.length ≤ 5 := by rw [pn.length_eq]; exact zl.2
      have pool : ∀ z ∈ ns, z ∈ pool7 := fun z hz => xin z (pn.mem_iff.mp hz)
      refine ⟨Nat.zero_le _, fun W nW => ?_⟩
      have kW : Keep u H (upd H4 fl (.lst (ns.map V.str))) := Keep_lay kf4 nfH
      have huW : Urn (upd H4 fl (.lst (ns.map V.str))) u (n + 8) := huf.same (Same_new nf)
      obtain ⟨a5, b5, c5, hu5', _⟩ := id huW
      have nWH : H W = none := free_of kW hu5' nW
      have nWu : W ≠ u := fun e => by rw [e, hu0] at nWH; cases nWH
      have nWf : W ≠ fl := fun e => by rw [e, upd_same] at nW; cases nW
      refine ⟨_, rfl, u, 3, n + 8, rfl, huW.same (Same_new nW), by omega, by decide, by decide, fun st H6 st0 st3 hu6 kp6 => ⟨_, _, _, rfl, ?_⟩⟩
      have kW6 : Keep u H H6 := (Keep_lay kW nWH).trans kp6
      have hf6 : H6 fl = some (.lst (ns.map V.str)) := kp6 _ _ nfu (by rw [upd_ne nWf.symm, upd_same])
      have hW6 : H6 W = some (.lst []) := kp6 _ _ nWu upd_same
      refine ⟨_, rfl, fl, _, rfl, SqL.of hf6, ?_⟩
      refine for_it (n := (ns.map V.str).length) walk_enum (fun i σ H' => ∃ (v6 v7 v8 : Option V) (qs : List Addr) (R : List (Str × Str)), σ = [some (.ref u), some (.int m), some (.ref L), some (.ref fl), some (.ref W), some (.int st), v6, v7, v8] ∧ Keep u H H' ∧ Urn H' u (n + 9 + 5 * i) ∧
          H' fl = some (.lst (ns.map V.str)) ∧ H' W = some (.lst (qs.map V.ref)) ∧ PrAt H' qs R ∧ (∀ q ∈ qs, H q = none) ∧ PkI ns st R i (i + 1))
        ⟨_, _, _, [], [], rfl, kW6, hu6, hf6, hW6, PrAt.nil, (fun q h => by cases h), PkI.zero⟩ (fun i σ H' _ ⟨_, _, _, _, _, _, _, _, e, _⟩ => SqL.of e) (fun i x σ H7 H8 hi ⟨v6, v7, v8, qs, R, e, k7, hu7, hf7, hW7, hp7, hq7, pk⟩ y => ?_) (fun σ H7 ⟨v6, v7, v8, qs, R, e, k7, hu7, hf7, hW7, hp7, hq7, pk⟩ => ?_)
      · obtain ⟨T, x1, x2, rfl, nT, rfl, e1, e2⟩ := y
        cases e1
        subst e
        obtain ⟨a, ha, rfl⟩ := at_str (show (ns.map V.str)[i]? = some x2 from e2)
        have hi' : i < ns.length := (List.getElem?_eq_some_iff.mp ha).1
        obtain ⟨a7, b7, c7, hu7', _⟩ := id hu7
        have nTH : H T = none := free_of k7 hu7' nT
        have sT := Same_new (o := HO.tup [V.int (i : Nat), V.str a]) nT
        refine ⟨_, _, rfl, SqT.of upd_same, rfl, _, _, rfl, _, _, rfl, rfl, ?_⟩
        have kT8 : Keep u H (upd H7 T (.tup [V.int (i : Nat), V.str a])) := Keep_lay k7 nTH
        have hu8 := hu7.same sT
        have hf8 := sT _ _ hf7
        have hW8 := sT _ _ hW7
        have hp8 := hp7.same sT
        generalize (upd H7 T (.tup [V.int (i : Nat), V.str a])) = H8 at kT8 hu8 hf8 hW8 hp8
        clear sT nT hu7 hf7 hW7 hp7 k7 hu7'
        refine ⟨_, rfl, _, rfl, _, _, rfl, rfl, _, rfl, fl, _, rfl, SqL.of hf8, fun sl nsl => ?_⟩
        have es : cutV (ns.map V.str) (some ((fun i j => i + j) (i : Int) (1 : Int))) Option.none = (ns.drop (i + 1)).map V.str := by
          have e : ((fun i j => i + j) (i : Int) (1 : Int)) = ((i + 1 : Nat) : Int) := by
            show (i : Int) + 1 = _
            omega
          rw [e, cut_from, List.map_drop, List.length_map, Nat.min_eq_left (by omega)]
        rw [es]
        obtain ⟨a8, b8, c8, hu8', _⟩ := id hu8
        have nsH : H sl = none := free_of kT8 hu8' nsl
        have nsu : sl ≠ u := fun e => by rw [e, hu0] at nsH; cases nsH
        have sS := Same_new (o := HO.lst ((ns.drop (i + 1)).map V.str)) nsl
        refine ⟨sl, rfl, ⟨_, SqL.of upd_same⟩, ?_⟩
        have nsf : sl ≠ fl := fun e => by rw [e, hf8] at nsl; cases nsl
        have nsW : sl ≠ W := fun e => by rw [e, hW8] at nsl; cases nsl
        refine for_it (n := ((ns.drop (i + 1)).map V.str).length) (walk_list (xs := (ns.drop (i + 1)).map V.str)) (fun j σ H' => ∃ (v8 : Option V) (qs : List Addr) (R : List (Str × Str)), σ = [some (.ref u), some (.int m), some (.ref L), some (.ref fl), some (.ref W), some (.int st), some (.int i), some (.str a), v8] ∧ Keep u H H' ∧ Urn H' u (n + 9 + 5 * i + j) ∧
            H' fl = some (.lst (ns.map V.str)) ∧ H' W = some (.lst (qs.map V.ref)) ∧ H' sl = some (.lst ((ns.drop (i + 1)).map V.str)) ∧ PrAt H' qs R ∧ (∀ q ∈ qs, H q = none) ∧ PkI ns st R i (i + 1 + j))
          ⟨_, qs, R, rfl, Keep_lay kT8 nsH, hu8.same sS, sS _ _ hf8, sS _ _ hW8, upd_same, hp8.same sS, hq7, pk⟩ (fun j σ H' _ ⟨_, _, _, _, _, _, _, _, e, _⟩ => SqL.of e) (fun j x σ H9 HA hj ⟨w8, qs, R, e, k9, hu9, hf9, hW9, hs9, hp9, hq9, pk9⟩ y => ?_) (fun σ H9 ⟨w8, qs, R, e, k9, hu9, hf9, hW9, hs9, hp9, hq9, pk9⟩ => ?_)
        · obtain ⟨rfl, hx⟩ := y
          subst e
          obtain ⟨b, hb, rfl⟩ := at_str hx
          rw [List.getElem?_drop] at hb
          have hj' : i + 1 + j < ns.length := (List.getElem?_eq_some_iff.mp hb).1
          refine ⟨_, rfl, _, _, rfl, rfl, _, rfl, two (fun h1 => ?_) (fun h1 => ?_)⟩
          · refine ⟨_, rfl, u, 4, n + 9 + 5 * i + j, rfl, hu9, by omega, by decide, by decide, fun r2 HB r20 r24 huB kB => ⟨rfl, _, rfl, ?_⟩⟩
            have kB1 : Keep u H HB := k9.trans kB
            have hfB := kB _ _ nfu hf9
            have hWB := kB _ _ nWu hW9
            have hsB := kB _ _ nsu hs9
            obtain ⟨a9, b9, c9, hu9', _⟩ := id hu9
            have hpB : PrAt HB qs R := ⟨hp9.1, fun i' q hq => let ⟨pr, e1, e2⟩ := hp9.2 i' q hq; ⟨pr, e1, kB _ _ (ne_of e2 hu9' (by intro z; cases z)) e2⟩⟩
            refine two (fun h2 => ?_) (fun h2 => ⟨_, qs, R, rfl, kB1, huB, hfB, hWB, hsB, hpB, hq9, pk9.skip⟩)
            obtain ⟨aB, bB, cB, huB', _⟩ := id huB
            refine ⟨_, rfl, .inl ⟨rfl, _, SqL.of hWB⟩, ?_⟩
            refine ⟨fun x H' => ∃ q, x = .ref q ∧ HB q = none ∧ H' = upd HB q (.tup [.str (mkP st a b).1, .str (mkP st a b).2]), ?_, ?_⟩
            · refine ⟨_, rfl, rfl, _, rfl, two (fun h3 => ?_) (fun h3 => ?_)⟩
              · have e3 : st = 1 := V.int.inj (of_decide_eq_true h3)
                refine ⟨_, rfl, _, rfl, (by show 2 ≤ sizeLine; decide), fun q nq => ⟨q, rfl, nq, ?_⟩⟩
                unfold mkP
                rw [if_pos e3]
              · have e3 : ¬ st = 1 := fun z => of_decide_eq_false h3 (by rw [z])
                refine ⟨_, rfl, _, rfl, (by show 2 ≤ sizeLine; decide), fun q nq => ⟨q, rfl, nq, ?_⟩⟩
                unfold mkP
                rw [if_neg e3]
            · rintro x H' ⟨q, rfl, nq, rfl⟩
              have sq := Same_new (o := HO.tup [V.str (mkP st a b).1, V.str (mkP st a b).2]) nq
              have nqH' : H q = none := free_of kB1 huB' nq
              have nqW : q ≠ W := fun z => by rw [z, hWB] at nq; cases nq
              have lq : qs.length < sizeLine := by
                have z := hp9.1
                have z2 := pk9.len
                have : (1000 : Nat) < sizeLine := by decide
                omega
              refine ⟨W, _, _, rfl, rfl, sq _ _ hWB, by rw [List.length_map]; exact lq, ?_⟩
              refine ⟨_, qs ++ [q], R ++ [mkP st a b], rfl, Keep_lay (Keep_lay kB1 nqH') nWH, ?_, ?_, ?_, ?_, ?_, ?_, ?_⟩
              · exact ⟨aB, bB, cB, by rw [upd_ne nWu.symm]; exact sq _ _ huB', by
                  obtain ⟨x1, x2, x3, y1, y2⟩ := huB
                  rw [huB'] at y1
                  cases y1
                  exact y2⟩
              · rw [upd_ne nWf.symm]
                exact sq _ _ hfB
              · rw [upd_same, List.map_append]
                rfl
              · rw [upd_ne nsW]
                exact sq _ _ hsB
              · refine PrAt.snoc ⟨hpB.1, fun i' q' hq' => ?_⟩ (by rw [upd_ne nqW, upd_same])
                obtain ⟨pr, e1, e2⟩ := hpB.2 i' q' hq'
                exact ⟨pr, e1, by rw [upd_ne (ne_of e2 hWB (by intro z; cases z))]; exact sq _ _ e2⟩
              · intro q' hq'
                rcases List.mem_append.mp hq' with hq' | hq'
                · exact hq9 q' hq'
                · rw [List.mem_singleton.mp hq']
                  exact nqH'
              · exact pk9.add nd ha hb (by omega)
          · refine iteF ⟨_, qs, R, rfl, k9, hu9.le (by omega), hf9, hW9, hs9, hp9, hq9, pk9.skip⟩
        · subst e
          have lj : ((ns.drop (i + 1)).map V.str).length ≤ 4 := by
            rw [List.length_map, List.length_drop]
            omega
          refine ⟨_, _, _, qs, R, rfl, k9, hu9.le (by omega), hf9, hW9, hp9, hq9, ?_⟩
          have el : i + 1 + ((ns.drop (i + 1)).map V.str).length = ns.length := by
            rw [List.length_map, List.length_drop]
            omega
          rw [el] at pk9
          exact pk9.next l5
      · subst e
        rw [List.length_map] at hu7 pk
        obtain ⟨a7, b7, c7, hu7', _⟩ := id hu7
        refine ⟨_, rfl, fl, _, rfl, .inl ⟨SqL.of hf7, fun f nf' => ?_⟩⟩
        have sf := Same_new (o := HO.tup (ns.map V.str)) nf'
        have nfH' : H f = none := free_of k7 hu7' nf'
        refine ⟨_, rfl, W, _, rfl, .inl ⟨SqL.of (sf _ _ hW7), fun g ng => ?_⟩⟩
        have sg := Same_new (o := HO.tup (qs.map V.ref)) ng
        have k8 := Keep_lay (o := HO.tup (ns.map V.str)) k7 nfH'
        have ngH : H g = none := free_of k8 (sf _ _ hu7') ng
        refine ⟨(by show 2 ≤ sizeLine; decide), fun t' nt' => ?_⟩
        have k9 := Keep_lay (o := HO.tup (qs.map V.ref)) k8 ngH
        have ntH : H t' = none := free_of k9 (sg _ _ (sf _ _ hu7')) nt'
        have st' := Same_new (o := HO.tup [V.ref f, V.ref g]) nt'
        exact k ns R t' f g qs _ (pk.book (i := 0) (Nat.le_refl _) nd so l1 l5 pool) (((hu7.same sf).same sg).same st' |>.le (by omega)) (Keep_lay k9 ntH) ntH nfH' ngH hq7 upd_same (st' _ _ (sg _ _ upd_same)) (st' _ _ upd_same) (((hp7.same sf).same sg).same st')
end
end Jd
namespace Jd
open PySem PySem.Spec PyProof.Rows L2
/-! ### the numbers of FIELDs -/
def MB : Nat := 441000000
def dvs : List Nat := (List.range 7).flatMap fun a => (List.range 3).flatMap fun b => (List.range 7).flatMap fun c => (List.range 3).map fun d => 2 ^ a * 3 ^ b * (5 ^ c * 7 ^ d)
theorem pow_of {p : Nat} (k : Nat) (b : Nat) (hb : p ^ k < b) (h : ∀ x ∈ List.range b, p ^ k % x = 0 → x ∈ (List.range (k + 1)).map fun i => p ^ i) (hp : 0 < p ^ k) {x : Nat} (hx : x ∣ p ^ k) : ∃ i, i ≤ k ∧ x = p ^ i := by
  have le := Nat.le_of_dvd hp hx
  obtain ⟨i, hi, e⟩ := List.mem_map.mp (h x (List.mem_range.mpr (by omega)) (Nat.mod_eq_zero_of_dvd hx))
  exact ⟨i, by have := List.mem_range.mp hi; omega, e.symm⟩
theorem dv_mem {n : Nat} (h : n ∣ MB) : n ∈ dvs := by
  have e : MB = (2 ^ 6 * 3 ^ 2) * (5 ^ 6 * 7 ^ 2) := by decide +kernel
  rw [e] at h
  obtain ⟨x, y, hx, hy, rfl⟩ := Nat.dvd_mul.mp h
  obtain ⟨x1, x2, h1, h2, rfl⟩ := Nat.dvd_mul.mp hx
  obtain ⟨y1, y2, h3, h4, rfl⟩ := Nat.dvd_mul.mp hy
  obtain ⟨a, ha, rfl⟩ := pow_of 6 100 (by decide) (by decide +kernel) (by decide) h1
  obtain ⟨b, hb, rfl⟩ := pow_of 2 100 (by decide) (by decide +kernel) (by decide) h2
  obtain ⟨c, hc, rfl⟩ := pow_of 6 15626 (by decide) (by decide +kernel) (by decide) h3
  obtain ⟨d, hd, rfl⟩ := pow_of 2 100 (by decide) (by decide +kernel) (by decide) h4
  unfold dvs
  refine List.mem_flatMap.mpr ⟨a, List.mem_range.mpr (by omega), List.mem_flatMap.mpr ⟨b, List.mem_range.mpr (by omega), List.mem_flatMap.mpr ⟨c, List.mem_range.mpr (by omega), List.mem_map.mpr ⟨d, List.mem_range.mpr (by omega), rfl⟩⟩⟩⟩
end Jd
namespace Jd
open PySem PySem.Spec PyProof.Rows L2
/-! ### where a slash parts a text -/
theorem cd_cat (a b : Str) : cd (a ++ b) = cd a ++ cd b := by
  show (a.cps ++ b.cps).toList = _
  exact Array.toList_append
theorem at_slash {x : Str} {i : Nat} : StrLaws.At x "/" x.length i ↔ (cd x)[i]? = some 47 := by
  have hc : ("/" : Str).cps.toList = [47] := by decide +kernel
  have hl : ("/" : Str).length = 1 := by decide +kernel
  unfold StrLaws.At
  rw [StrLaws.subAt_eq, hc, hl, len_cd x]
  constructor
  · rintro ⟨h1, h2⟩
    have e := eq_of_beq h2
    have q : (((cd x).drop i).take 1)[0]? = some 47 := by rw [e]; rfl
    rw [List.getElem?_take_of_lt (by decide), List.getElem?_drop] at q
    exact q
  · intro h
    obtain ⟨hi, e⟩ := List.getElem?_eq_some_iff.mp h
    refine ⟨hi, ?_⟩
    rw [List.drop_eq_getElem_cons hi, List.take_succ_cons, List.take_zero, e]
    rfl
theorem part_at {x a d : Str} (hx : cd x = cd a ++ 47 :: cd d) (ha : 47 ∉ cd a) : Txt.partition x "/" = (a, ("/" : Str), d) := by
  have h1 : StrLaws.At x "/" x.length (cd a).length := at_slash.mpr (by rw [hx]; simp)
  have hl : ("/" : Str).length = 1 := by decide +kernel
  unfold Txt.partition
  rcases StrLaws.occ_head x "/" 1 (Nat.le_refl 1) with ⟨h0, hn⟩ | ⟨i, r, h0, hi, hn⟩
  · exact absurd h1 (hn _)
  · have ei : i = (cd a).length := by
      rcases Nat.lt_trichotomy i (cd a).length with h | h | h
      · have q := at_slash.mp hi
        rw [hx, List.getElem?_append_left h] at q
        exact absurd (List.mem_of_getElem? q) ha
      · exact h
      · exact absurd h1 (hn _ h)
    rw [h0]
    have e1 : Builtin.Str.strSub x 0 i = a := cd_ext (by
      show (Builtin.Str.strSub x 0 i).cps.toList = _
      rw [StrLaws.strSub_toList, ei]
      show ((cd x).drop 0).take ((cd a).length - 0) = _
      rw [hx]
      simp)
    have e2 : Builtin.Str.strSub x (i + ("/" : Str).length) x.length = d := cd_ext (by
      show (Builtin.Str.strSub x (i + ("/" : Str).length) x.length).cps.toList = _
      rw [StrLaws.strSub_toList, ei, hl, len_cd x]
      show ((cd x).drop ((cd a).length + 1)).take ((cd x).length - ((cd a).length + 1)) = _
      have hx2 : cd x = (cd a ++ [47]) ++ cd d := by rw [hx, List.append_assoc]; rfl
      rw [hx2, List.drop_left' (by rw [List.length_append]; rfl), List.take_of_length_le (by rw [List.length_append, List.length_append]; show _ ≤ (cd a).length + 1 + (cd d).length - ((cd a).length + 1); omega)])
    show (Builtin.Str.strSub x 0 i, _, Builtin.Str.strSub x (i + ("/" : Str).length) x.length) = _
    rw [e1, e2]
/-- the codes of a modulus -/
def isModC (l : List Nat) : Bool := if ((decide (l = []) || decide (l = [49])) || decide (l[0]? = some 48)) = true then false else l.all digitB
theorem startc (z : Str) (c : Nat) (y : Str) (hy : cd y = [c]) : Txt.startswith z y = decide ((cd z)[0]? = some c) := by
  have hl : y.length = 1 := by rw [len_cd, hy]; rfl
  unfold Txt.startswith
  rw [StrLaws.subAt_eq, hl, len_cd z]
  show (decide (0 + 1 ≤ (cd z).length) && (((cd z).drop 0).take 1 == cd y)) = _
  rw [hy]
  cases cd z with
  | nil => rfl
  | cons a l =>
    show (decide (0 + 1 ≤ l.length + 1) && ([a] == [c])) = decide (some a = some c)
    rw [decide_eq_true (by omega), Bool.true_and]
    by_cases h : a = c
    · subst h
      simp
    · have : ¬ some a = some c := fun z => h (Option.some.inj z)
      rw [decide_eq_false this]
      simp [h]
theorem isMod_codes (z : Str) : isMod z = isModC (cd z) := by
  unfold isMod
  rw [show ([.str "", .str "1"] : List V) = ([("" : Str), ("1" : Str)]).map V.str from rfl, inV_str, startc z 48 "0" (by decide +kernel)]
  have e1 : z = "" ↔ cd z = [] := ⟨fun h => by rw [h]; decide +kernel, fun h => cd_ext (by rw [h]; decide +kernel)⟩
  have e2 : z = "1" ↔ cd z = [49] := ⟨fun h => by rw [h]; decide +kernel, fun h => cd_ext (by rw [h]; decide +kernel)⟩
  have em : decide (z ∈ [("" : Str), ("1" : Str)]) = (decide (cd z = []) || decide (cd z = [49])) := by
    rw [← Bool.decide_or]
    exact decide_eq_decide.mpr (by rw [List.mem_cons, List.mem_singleton, e1, e2])
  rw [em]
  rfl
theorem field_at {x a d : Str} (hx : cd x = cd a ++ 47 :: cd d) (ha : 47 ∉ cd a) :
    isFieldB x = (if (!decide (V.str a = V.str "#") && !isName (cd a)) = true then false else isModC (cd d)) ∧ fieldName x = a ∧ fieldNum x = numOf (cd d) := by
  have e := part_at hx ha
  unfold isFieldB fieldName fieldNum
  rw [e, isMod_codes]
  have h : decide (V.str ("/" : Str) = V.str "") = false := by decide +kernel
  show (if (!decide (V.str a = V.str "#") && !isName (cd a)) = true then false else decide (V.str ("/" : Str) = V.str "") || isModC (cd d)) = _ ∧ a = a ∧ numOf (cd d) = numOf (cd d)
  rw [h, Bool.false_or]
  exact ⟨rfl, rfl, rfl⟩
/-! ### texts of FIELDs -/
def dec (n : Nat) : Str := Str.ofString (toString ((n : Nat) : Int))
theorem cd_dec (n : Nat) : cd (dec n) = TL.numL n := TL.tl_num n
/-- one number's text -/
def powOk (n : Nat) : Bool := decide (n < 2) || ((decide (0 < n) && decide (n < 1000000000000000000) && decide ((zf60 n ++ Str.empty).length ≤ 1000) && decide ((zf60 n).length ≤ 1000) && decide ((dig60 n).length ≤ 1000 ∧ (dig60 n).length ≠ 0)) && decide (cd (dig60 n) = TL.numL n) && isModC (TL.numL n) && decide (numOf (TL.numL n) = (n : Int)) && decide ((TL.numL n).length ≤ 10))
theorem all_pow : dvs.all powOk = true := by decide +kernel
structure NumF (n : Nat) : Prop where
  ok : numOk n
  dig : cd (dig60 n) = TL.numL n
  md : isModC (TL.numL n) = true
  val : numOf (TL.numL n) = (n : Int)
  len : (TL.numL n).length ≤ 10
theorem num_facts {n : Nat} (h : n ∣ MB) (h2 : 2 ≤ n) : NumF n := by
  have q := List.all_eq_true.mp all_pow n (dv_mem h)
  unfold powOk at q
  rw [decide_eq_false (by omega : ¬ n < 2), Bool.false_or] at q
  simp only [Bool.and_eq_true, decide_eq_true_iff] at q
  obtain ⟨⟨⟨⟨⟨⟨⟨⟨a1, a2⟩, a3⟩, a4⟩, a5⟩, b⟩, c⟩, d⟩, e⟩ := q
  exact ⟨⟨a1, a2, a3, a4, a5⟩, b, c, d, e⟩
/-- a name that FIELDs may have: of Keys, or the number sign -/
structure OwnF (o : Str) : Prop where
  no : 47 ∉ cd o
  ok : (!decide (V.str o = V.str "#") && !isName (cd o)) = false
  len : o.length ≤ 8
theorem own_name {o : Str} (h : isName (cd o) = true) : OwnF o := by
  have h0 := h
  unfold isName at h
  rw [Bool.and_eq_true, Bool.and_eq_true] at h
  obtain ⟨h1, h2, h3⟩ := h
  rw [List.all_eq_true] at h3
  refine ⟨fun m => ?_, by rw [h0, Bool.not_true, Bool.and_false], by rw [len_cd]; exact of_decide_eq_true h2⟩
  have q := h3 _ m
  revert q
  decide
theorem own_hash : OwnF "#" := ⟨by decide +kernel, by decide +kernel, by decide +kernel⟩
/-- the FIELD of a name and a number -/
def fldT (o : Str) (n : Nat) : Str := if n = 0 then o else ftext o n
theorem cd_ftext (o : Str) (n : Nat) (h : cd (dig60 n) = TL.numL n) : cd (ftext o n) = cd o ++ 47 :: cd (dec n) := by
  unfold ftext
  rw [cd_cat, cd_cat, cd_cat, show cd Str.empty = [] from rfl, show cd ("/" : Str) = [47] by decide +kernel, List.nil_append, List.append_assoc, h, cd_dec]
  rfl
theorem part_no {x : Str} (ha : 47 ∉ cd x) : Txt.partition x "/" = (x, Str.empty, Str.empty) := TL.partition_none (s := 47) (S := []) (by decide +kernel) ha
theorem fld_facts {o : Str} {n : Nat} (ho : OwnF o) (h : n = 0 ∨ (n ∣ MB ∧ 2 ≤ n)) : isFieldB (fldT o n) = true ∧ fieldName (fldT o n) = o ∧ fieldNum (fldT o n) = (n : Int) ∧ (fldT o n).length ≤ 30 := by
  unfold fldT
  rcases h with rfl | ⟨h, h2⟩
  · rw [if_pos rfl]
    have e := part_no ho.no
    refine ⟨?_, ?_, ?_, Nat.le_trans ho.len (by decide)⟩
    · unfold isFieldB
      rw [e]
      show (if (!decide (V.str o = V.str "#") && !isName (cd o)) = true then false else decide (V.str Str.empty = V.str "") || isMod Str.empty) = true
      rw [ho.ok, show decide (V.str Str.empty = V.str "") = true from decide_eq_true rfl]
      rfl
    · unfold fieldName
      rw [e]
    · unfold fieldNum
      rw [e]
      rfl
  · have N := num_facts h h2
    rw [if_neg (by omega)]
    obtain ⟨e1, e2, e3⟩ := field_at (cd_ftext o n N.dig) ho.no
    refine ⟨?_, e2, ?_, ?_⟩
    · rw [e1, cd_dec, N.md, ho.ok]
      rfl
    · rw [e3, cd_dec, N.val]
    · have := ho.len
      have q := N.len
      rw [len_cd, cd_ftext o n N.dig, List.length_append, List.length_cons, cd_dec, ← len_cd]
      omega
end Jd
namespace Jd
open PySem PySem.Spec PyProof.Rows L2
/-! ### rows of values, compared -/
inductive Item where
  | fl (v : V)
  | tf (xs : List Str)
  | tt (prs : List (Str × Str))
  | lt (xss : List (List Str))
def ItemAt (H : Hp) (v : V) : Item → Prop
  | .fl x => v = x ∧ FlatV x
  | .tf xs => ∃ a, v = .ref a ∧ H a = some (.tup (xs.map V.str)) ∧ xs.length < 1000
  | .tt prs => ∃ a qs, v = .ref a ∧ H a = some (.tup (qs.map V.ref)) ∧ PrAt H qs prs ∧ prs.length < 1000
  | .lt xss => ∃ (a : Addr) (qs : List Addr), v = .ref a ∧ H a = some (.lst (qs.map V.ref)) ∧ qs.length = xss.length ∧ xss.length < 1000 ∧ ∀ (i : Nat) (q : Addr), qs[i]? = some q → ∃ xs, xss[i]? = some xs ∧ H q = some (.tup (xs.map V.str)) ∧ xs.length < 1000
theorem ItemAt.same {H H' : Hp} {v : V} : ∀ {i : Item}, ItemAt H v i → Same H H' → ItemAt H' v i
  | .fl x, h, _ => h
  | .tf xs, ⟨a, e, h, l⟩, s => ⟨a, e, s _ _ h, l⟩
  | .tt prs, ⟨a, qs, e, h, p, l⟩, s => ⟨a, qs, e, s _ _ h, p.same s, l⟩
  | .lt xss, ⟨a, qs, e, h, l1, l2, p⟩, s => ⟨a, qs, e, s _ _ h, l1, l2, fun i q hq => let ⟨xs, e1, e2, e3⟩ := p i q hq; ⟨xs, e1, s _ _ e2, e3⟩⟩
abbrev ItemsAt (H : Hp) : List V → List Item → Prop := Paired (ItemAt H)
theorem items_same {H H' : Hp} (s : Same H H') : ∀ {vs : List V} {is : List Item}, ItemsAt H vs is → ItemsAt H' vs is
  | _, _, .nil => .nil
  | _, _, .cons q r => .cons (q.same s) (items_same s r)
theorem pr_app {α β : Type} {F : α → β → Prop} : ∀ {xs xs' : List α} {ys ys' : List β}, Paired F xs ys → Paired F xs' ys' → Paired F (xs ++ xs') (ys ++ ys')
  | _, _, _, _, .nil, h => h
  | _, _, _, _, .cons q r, h => .cons q (pr_app r h)
theorem pr_at {α β : Type} {F : α → β → Prop} : ∀ {xs : List α} {ys : List β} {i : Nat} {x : α}, Paired F xs ys → xs[i]? = some x → ∃ y, ys[i]? = some y ∧ F x y
  | _, _, 0, _, .cons q r, h => by
    cases h
    exact ⟨_, rfl, q⟩
  | _, _, i + 1, x, .cons q r, h => pr_at (i := i) r h
def ListAt (H : Hp) (a : Addr) (is : List Item) : Prop := ∃ vs, H a = some (.lst vs) ∧ ItemsAt H vs is
theorem ListAt.same {H H' : Hp} {a : Addr} {is : List Item} (h : ListAt H a is) (s : Same H H') : ListAt H' a is := by
  obtain ⟨vs, h1, h2⟩ := h
  exact ⟨vs, s _ _ h1, items_same s h2⟩
theorem sm_str {H : Hp} {n : Nat} {xs : List Str} {i : Nat} {u v : V} (h1 : (xs.map V.str)[i]? = some u) (h2 : (xs.map V.str)[i]? = some v) : Sm H n u v := by
  rw [h1] at h2
  cases h2
  obtain ⟨z, _, rfl⟩ := at_str h1
  exact Sm_flat trivial
theorem sm_tf {H : Hp} {n : Nat} {a b : Addr} {xs : List Str} (h1 : H a = some (.tup (xs.map V.str))) (h2 : H b = some (.tup (xs.map V.str))) (l : xs.length < 1000) : Sm H (n + 1) (.ref a) (.ref b) :=
  Or.inr ⟨a, b, _, _, rfl, rfl, rfl, by rw [List.length_map]; exact l, fun i u v e1 e2 => sm_str e1 e2, .inr ⟨h1, h2⟩⟩
theorem sm_item {H : Hp} {v w : V} : ∀ {i : Item}, ItemAt H v i → ItemAt H w i → Sm H 2 v w
  | .fl x, ⟨e1, f⟩, ⟨e2, _⟩ => by
    subst e1 e2
    exact Sm_flat f
  | .tf xs, ⟨a, e, h, l⟩, ⟨b, e', h', _⟩ => by
    subst e e'
    exact sm_tf h h' l
  | .tt prs, ⟨a, qs, e, h, p, l⟩, ⟨b, rs, e', h', p', _⟩ => by
    subst e e'
    refine Or.inr ⟨a, b, _, _, rfl, rfl, by rw [List.length_map, List.length_map, p.1, p'.1], by rw [List.length_map, p.1]; exact l, fun i u v e1 e2 => ?_, .inr ⟨h, h'⟩⟩
    obtain ⟨q, hq, rfl⟩ := at_ref e1
    obtain ⟨r, hr, rfl⟩ := at_ref e2
    obtain ⟨pr, k1, k2⟩ := p.2 i q hq
    obtain ⟨pr', k1', k2'⟩ := p'.2 i r hr
    rw [k1] at k1'
    cases k1'
    exact sm_tf (n := 0) (xs := [pr.1, pr.2]) k2 k2' (by show 2 < 1000; decide)
  | .lt xss, ⟨a, qs, e, h, l1, l2, p⟩, ⟨b, rs, e', h', l1', _, p'⟩ => by
    subst e e'
    refine Or.inr ⟨a, b, _, _, rfl, rfl, by rw [List.length_map, List.length_map, l1, l1'], by rw [List.length_map, l1]; exact l2, fun i u v e1 e2 => ?_, .inl ⟨h, h'⟩⟩
    obtain ⟨q, hq, rfl⟩ := at_ref e1
    obtain ⟨r, hr, rfl⟩ := at_ref e2
    obtain ⟨xs, k1, k2, k3⟩ := p i q hq
    obtain ⟨xs', k1', k2', k3'⟩ := p' i r hr
    rw [k1] at k1'
    cases k1'
    exact sm_tf (n := 0) k2 k2' k3
theorem sm_lists {H : Hp} {a b : Addr} {is : List Item} (h1 : ListAt H a is) (h2 : ListAt H b is) (l : is.length < 1000) : Sm H 3 (.ref a) (.ref b) := by
  obtain ⟨vs, e1, p1⟩ := h1
  obtain ⟨ws, e2, p2⟩ := h2
  refine Or.inr ⟨a, b, vs, ws, rfl, rfl, by rw [p1.length, p2.length], by rw [p1.length]; exact l, fun i u v k1 k2 => ?_, .inl ⟨e1, e2⟩⟩
  obtain ⟨x, q1, q2⟩ := pr_at p1 k1
  obtain ⟨y, q1', q2'⟩ := pr_at p2 k2
  rw [q1] at q1'
  cases q1'
  exact sm_item q2 q2'
end Jd
namespace Jd
open PySem PySem.Spec PyProof.Rows L2
/-! ### tables of numbers -/
/-- a dict from texts -/
def kvG (ns : List Str) (f : Str → V) : List (Key × V) := ns.map fun n => (Sum.inr n, f n)
theorem kvG_len (ns : List Str) (f : Str → V) : (kvG ns f).length = ns.length := List.length_map ..
theorem valV_kvG {n : Str} {f : Str → V} : ∀ {ns : List Str}, n ∈ ns → valV (kvG ns f) (Sum.inr n) = some (f n)
  | [], h => by cases h
  | m :: ns, h => by
    show valV ((Sum.inr m, f m) :: kvG ns f) (Sum.inr n) = _
    by_cases e : m = n
    · subst e
      exact valV_pos rfl
    · rw [valV_neg (fun q => e (Sum.inr.inj q))]
      exact valV_kvG ((List.mem_cons.mp h).resolve_left fun q => e q.symm)
theorem valV_kvGN {n : Str} {f : Str → V} : ∀ {ns : List Str}, n ∉ ns → valV (kvG ns f) (Sum.inr n) = none
  | [], h => rfl
  | m :: ns, h => by
    show valV ((Sum.inr m, f m) :: kvG ns f) (Sum.inr n) = _
    have e : m ≠ n := fun q => h (q ▸ List.mem_cons_self)
    rw [valV_neg (fun q => e (Sum.inr.inj q))]
    exact valV_kvGN fun q => h (List.mem_cons_of_mem _ q)
def atF {α : Type} (f : Str → α) (n : Str) (v : α) : Str → α := fun m => if m = n then v else f m
theorem putG_old {n : Str} {f : Str → V} {v : V} {ns : List Str} (h : n ∈ ns) : putK (kvG ns f) (Sum.inr n) v = kvG ns (atF f n v) := by
  unfold putK
  have e : ((kvG ns f).any fun kv => decide (kv.1 = Sum.inr n)) = true := by
    rw [List.any_eq_true]
    exact ⟨(Sum.inr n, f n), List.mem_map.mpr ⟨n, h, rfl⟩, decide_eq_true rfl⟩
  rw [if_pos e]
  unfold kvG
  rw [List.map_map]
  refine List.map_congr_left fun m _ => ?_
  show (if (Sum.inr m : Key) = Sum.inr n then ((Sum.inr m : Key), v) else (Sum.inr m, f m)) = (Sum.inr m, atF f n v m)
  unfold atF
  by_cases q : m = n
  · rw [if_pos (congrArg Sum.inr q), if_pos q]
  · rw [if_neg (fun z => q (Sum.inr.inj z)), if_neg q]
theorem putG_new {n : Str} {f : Str → V} {ns : List Str} (h : n ∉ ns) : putK (kvG ns f) (Sum.inr n) (f n) = kvG (ns ++ [n]) f := by
  unfold putK
  have e : ((kvG ns f).any fun kv => decide (kv.1 = Sum.inr n)) = false := by
    rw [List.any_eq_false]
    intro kv hk q
    obtain ⟨m, hm, rfl⟩ := List.mem_map.mp hk
    exact h (Sum.inr.inj (of_decide_eq_true q) ▸ hm)
  rw [e, if_neg Bool.false_ne_true]
  unfold kvG
  rw [List.map_append]
  rfl
/-- a dict of numbers -/
abbrev numV (m : Str → Nat) : Str → V := fun n => iV (m n)
/-- math.lcm of two -/
def rLcm : List V → Hp → VK → Prop := fun vs H Q => ∃ a b : Nat, vs = [iV a, iV b] ∧ a < 2 ^ 60 ∧ b < 2 ^ 60 ∧ Nat.lcm a b < 2 ^ 60 ∧ Q (iV (Nat.lcm a b)) H
theorem cr_lcm {X : Cx} : CallR X (.builtin "math.lcm") rLcm := by
  intro pins s σ H xs us Q I r h
  obtain ⟨a, b, rfl, ha, hb, hc, q⟩ := h
  obtain ⟨t, u, rfl⟩ := Vals.int2 r
  refine PySem.W.mg_lcm_v (c := ((Nat.lcm a b : Nat) : Int)) (by show (a : Int).natAbs < 2 ^ 64; omega) (by show (b : Int).natAbs < 2 ^ 64; omega) ?_ ?_ ⟨iV (Nat.lcm a b), H, I.tok _, ⟨_, rfl⟩, q⟩
  · rw [Int.natAbs_natCast, Int.natAbs_natCast, Nat.lcm_one_left]
  · rw [Int.natAbs_natCast]
    by_cases h0 : Nat.lcm a b = 0
    · rw [h0]
      decide
    · exact Nat.lt_of_lt_of_le ((Nat.log2_lt h0).mpr hc) (by decide)
theorem dvd_lt {n : Nat} (h : n = 0 ∨ n ∣ MB) : n < 2 ^ 60 := by
  rcases h with rfl | h
  · decide
  · exact Nat.lt_of_le_of_lt (Nat.le_of_dvd (by decide) h) (by decide)
theorem dvd_lcm {a b : Nat} (ha : a = 0 ∨ a ∣ MB) (hb : b = 0 ∨ b ∣ MB) : Nat.lcm a b = 0 ∨ Nat.lcm a b ∣ MB := by
  rcases ha with rfl | ha
  · exact .inl (Nat.lcm_zero_left _)
  · rcases hb with rfl | hb
    · exact .inl (Nat.lcm_zero_right _)
    · exact .inr (Nat.lcm_dvd ha hb)
def fnum (z : Str) : Nat := (fieldNum z).toNat
/-- a FIELD of these names, its number not too great -/
structure FldOk (ks : List Str) (z : Str) : Prop where
  ok : isFieldB z = true
  len : z.length ≤ 1000
  nam : fieldName z ∈ ks
  num : fieldNum z = ((fnum z : Nat) : Int)
  dv : fnum z = 0 ∨ fnum z ∣ MB
def joinS (zs : List Str) (n : Str) : Nat := zs.foldl (fun a z => if fieldName z = n then Nat.lcm a (fnum z) else a) 1
theorem join_dv {ks zs : List Str} (h : ∀ z ∈ zs, FldOk ks z) (n : Str) : joinS zs n = 0 ∨ joinS zs n ∣ MB := by
  unfold joinS
  have key : ∀ (l : List Str) (a : Nat), (∀ z ∈ l, FldOk ks z) → (a = 0 ∨ a ∣ MB) → (l.foldl (fun a z => if fieldName z = n then Nat.lcm a (fnum z) else a) a = 0 ∨ l.foldl (fun a z => if fieldName z = n then Nat.lcm a (fnum z) else a) a ∣ MB) := by
    intro l
    induction l with
    | nil => intro a _ ha; exact ha
    | cons z l ih =>
      intro a hl ha
      refine ih _ (fun y hy => hl y (List.mem_cons_of_mem _ hy)) ?_
      show (if fieldName z = n then Nat.lcm a (fnum z) else a) = 0 ∨ (if fieldName z = n then Nat.lcm a (fnum z) else a) ∣ MB
      by_cases e : fieldName z = n
      · rw [if_pos e]
        exact dvd_lcm ha (hl z List.mem_cons_self).dv
      · rw [if_neg e]
        exact ha
  exact key zs 1 h (.inr (Nat.one_dvd _))
def spFT : Sp := fun vs H Q _ => ∃ (name : Str) (n : Nat), vs = [.str name, iV n] ∧ (n = 0 ∨ numOk n) ∧ name.length ≤ 1000 ∧ ∀ H', Same H H' → Q (.str (fldT name n)) H'
def spAll (K : PySem.W.Frag) : Sp := fun vs H Q _ => ∃ (x : Addr) (ns : List Str) (t : Str → List Str), vs = [.ref x] ∧ KeysO K H x ns t ∧ ∀ H' p, Same H H' → H' p = some (.tup ((("#" : Str) :: ns).map V.str)) → Q (.ref p) H'
def spJoin (K : PySem.W.Frag) : Sp := fun vs H Q _ => ∃ (kk f : Addr) (ns zs : List Str) (t : Str → List Str), vs = [.ref kk, .ref f] ∧ KeysO K H kk ns t ∧ ("#" : Str) ∉ ns ∧ Sq K H f (zs.map V.str) ∧ zs.length ≤ 100 ∧ (∀ z ∈ zs, FldOk (("#" : Str) :: ns) z) ∧
  ∀ H' d, Same H H' → H' d = some (.dK (kvG (("#" : Str) :: ns) (numV (joinS zs)))) → Q (.ref d) H'
section
variable {P : Program} {w : World} {K : PySem.W.Frag} {mg : Str → Option Value} {base : Heap}
theorem ok_fT (B : Bk K mg) : Df P w K mg base CX0 2 "field_text" ["name", "m"] spFT := by
  obtain ⟨fd, F⟩ := B.F_field_text
  obtain ⟨fdD, GD, bD⟩ := (ok_written (P := P) (w := w) (base := base) B).ex
  have kD := (ok_written (P := P) (w := w) (base := base) B).kp
  refine ⟨⟨fd, ?_, F.binds fun _ _ _ _ _ _ us hl => match us, hl with | [_, _], _ => rfl⟩, B.g_field_text, F.kp⟩
  refine F.ok sc_ft (fun vs H Q E h => ?_) (fun cdv A outer s H vs Q E hr h => ?_)
  · obtain ⟨name, n, rfl, _⟩ := h
    rfl
  · obtain ⟨name, n, rfl, hn, hl, k⟩ := h
    refine ⟨_, pss_cons (ps_if (pt_cmpR op_eq (pv 1) pe_int (nomark _)) (pss_one (ps_ret (pv 0))) pss_nil)
      (pss_one (ps_ret (pe_joined (.cons (pe_fmt (pv 0)) (.cons pe_str (.cons (pe_fmt (pe_call GD hr rfl B.g_written kD bD .nil pass0 (pa_cons (pv 1) pa_nil))) .nil)))))), ?_⟩
    refine ⟨_, rfl, rfl, _, rfl, ?_⟩
    show if decide (V.int (n : Int) = V.int 0) = true then _ else _
    unfold fldT at k
    rcases hn with rfl | hn
    · rw [decide_eq_true (show V.int ((0 : Nat) : Int) = V.int 0 from rfl)]
      exact iteT ⟨_, rfl, k H (Same.refl _)⟩
    · have n0 : n ≠ 0 := by
        have := hn.1
        omega
      rw [if_neg n0] at k
      have c1 : decide (V.int (n : Int) = V.int 0) = false := by
        rw [int_eq]
        exact decide_eq_false (by omega)
      rw [c1]
      refine iteF ?_
      have z1 : (Str.empty ++ name).length ≤ 1000 := by rw [app_len]; show 0 + name.length ≤ 1000; omega
      have z2 : (Str.empty ++ name ++ "/").length ≤ 1001 := by rw [app_len]; exact Nat.add_le_add z1 (Nat.le_refl 1)
      refine ⟨_, rfl, .inl ⟨_, rfl, Nat.le_trans hl (by decide), _, rfl, Nat.le_trans z1 (by decide), _, rfl, Nat.le_trans z2 (by decide), ?_⟩⟩
      refine ⟨_, rfl, n, rfl, hn, fun H1 s1 => .inl ⟨_, rfl, Nat.le_trans hn.2.2.2.2.1 (by decide), _, rfl, ?_, k H1 s1⟩⟩
      rw [app_len]
      exact Nat.le_trans (Nat.add_le_add z2 hn.2.2.2.2.1) (by decide)
theorem sc_an : FnScope ["keys"] ["keys"] (defScope s_all_names) := ⟨rfl, rfl, rfl, by decide +kernel, rfl, by decide +kernel, by decide +kernel⟩
theorem ok_all_names (B : Bk K mg) : Df P w K mg base CX0 3 "all_names" ["keys"] (spAll K) := by
  obtain ⟨fd, F⟩ := B.F_all_names
  obtain ⟨fdN, GN, bN⟩ := ok_names (P := P) (w := w) (base := base) B
  refine ⟨⟨fd, ?_, F.binds fun _ _ _ _ _ _ us hl => match us, hl with | [_], _ => rfl⟩, B.g_all_names, F.kp⟩
  refine F.ok sc_an (fun vs H Q E h => ?_) (fun cdv A outer s H vs Q E hr h => ?_)
  · obtain ⟨_, _, _, rfl, _⟩ := h
    rfl
  · obtain ⟨x, ns, t, rfl, ko, k⟩ := h
    refine ⟨_, pss_one (ps_ret (pe_op op_catT (pe_tup (pa_cons pe_str pa_nil)) (pe_prop (pv 0) B.cl_Keys B.pr_Keys_names GN hr bN .nil pass0 rfl))), ?_⟩
    refine ⟨(by show 1 ≤ sizeLine; decide), fun a na => ?_⟩
    have s1 : Same H (upd H a (.tup [.str "#"])) := Same_new na
    have ko1 := ko.same s1
    obtain ⟨dx, t0, d, q, hx, _, _, _, _, l7, _⟩ := id ko1
    refine ⟨_, rfl, x, dx, _, rfl, hx, x, ns, t, rfl, ko1, fun p hp => ?_⟩
    refine ⟨a, p, _, _, rfl, rfl, SqT.of upd_same, SqT.of hp, List.cons_ne_nil _ _, ?_, fun e => ?_, fun _ r nr => k _ r (Same_lay s1 nr) upd_same⟩
    · rw [List.length_map]
      have : (1000 : Nat) ≤ sizeLine := by decide
      show 1 + ns.length ≤ _
      omega
    · have e0 : ns = [] := List.map_eq_nil_iff.mp e
      subst e0
      exact k _ a s1 upd_same
end
end Jd
/-! isinstance of an error that is tracked -/
namespace Jd
open PySem PySem.Spec PySem.Calls PyProof.Rows PySem.W
section
variable {prog : Program} {w : World} {A : Around} {E : Value → Shared → Prop} {s : Shared} {K : Frag} {x D : Addr} {ox od : Obj}
theorem err_class {Q : Option Value → Shared → Prop} (C : L2.ExcC K D) (X : K.In s.heap) (I : InstAt s.heap x ox D (some od)) (h : Q (some (.ref D)) { s with toks := s.toks + 1 }) : wpAny (model prog w) A (getAttr? (.ref x) "__class__") Q E s := by
  have q0 : findObj K D (some od) "__class__" = some (.bind (.builtin "getset_descriptor.__get__") (.builtin "object.__class__")) :=
    findObj_data (by obtain ⟨cd, hc, _⟩ := any_some C.hd; rw [hc]; rfl) C.ha C.hn C.ht
  obtain ⟨hp, g, d, t, os⟩ := s
  have l0 := I.type (M := model prog w)
  have l1 := looks_findIn (M := model prog w) X C.hg
  have l2 := looks_findIn (M := model prog w) X C.hk
  have l3 := looks_find (M := model prog w) X I q0
  have l4 : Looks (model prog w) hp (isInstance (.ref x) (.type "BaseException")) true := l0.andThen (looks_subIn X C.hs)
  have n0 : (false && onTheHeap (Value.builtin "BaseException.__getattribute__")) = false := rfl
  have n2 : (Value.builtin "BaseException.__getattribute__" == Value.builtin "object.__getattribute__") = false := by decide +kernel
  have n1 : (onTheHeap (Value.ref D) && Value.builtin "BaseException.__getattribute__" == Value.builtin "object.__getattribute__") = false := by rw [n2]; rfl
  unfold getAttr? getAttrBy? getAttrBy
  refine wpAny_bind (wpAny_mkText (wpAny_bind (wpAny_attempt (wpAny_holding (wpAny_bind (l0.at (wpAny_bind (l1.at ?_))))))))
  show wpAny _ _ (if (onTheHeap (Value.ref D) && Value.builtin "BaseException.__getattribute__" == Value.builtin "object.__getattribute__") = true then _ else _) _ _ _
  rw [n1, if_neg Bool.false_ne_true]
  unfold getAttrByItsOwn hookBefore
  refine wpAny_bind ?_
  rw [if_pos (show onTheHeap (Value.ref D) = true from rfl)]
  refine l2.at ?_
  refine wpAny_bind (wpAny_attempt (wpAny_holding ?_))
  unfold callGetattribute
  rw [n0, if_neg Bool.false_ne_true]
  unfold boundAndCalled
  rw [PySem.F.excAttr_ValueError.ga.bind (.ref x)]
  refine wpAny_bind (wpAny_pure ?_)
  show wpAny _ _ (call (.builtin "BaseException.__getattribute__") [.ref x, .str "__class__" t]) _ _ _
  refine wpAny_call (codeAny_call_builtin PySem.F.excAttr_ValueError.ga.plain PySem.F.entry_bexc_ga ?_)
  refine @check_slot (model prog w) _ _ ⟨hp, g, d, t + 1, os⟩ "BaseException.__getattribute__" "BaseException" "__getattribute__" (.ref x) [.str "__class__" t] [] _ (by decide +kernel) (by decide +kernel) l4 (PySem.F.args_bexc_ga (.ref x) (.str "__class__" t)) ?_
  unfold Builtin.«object.__getattribute__»
  refine wpAny_bind (wpAny_of_eq (a := ((Value.ref x : Value), [Value.str "__class__" t])) (by first | rfl | (simp only [slotArgs]; rfl)) ?_)
  refine wpAny_bind (wpAny_pure (wpAny_bind (l0.at (wpAny_bind (l3.at ?_)))))
  show wpAny _ _ (holding [Value.builtin "object.__class__"] (call (.builtin "getset_descriptor.__get__") [.builtin "object.__class__", .ref x, .ref D]) >>= ret) _ _ _
  refine wpAny_bind (wpAny_holding (wpAny_call (class_get (s := ⟨hp, g, d, t + 1, os⟩) (ox := ox) (od := some od) X I C.hm ?_)))
  refine wpAny_pure ?_
  show wpAny _ _ (handedOut (.ref D)) _ _ _
  rw [handedOut_of (v := .ref D) rfl]
  first
    | exact wpAny_pure (wpAny_pure h)
    | exact wpAny_pure h
    | exact wpAny_pure (wpAny_bind (wpAny_pure (wpAny_pure h)))
theorem err_kit (C : L2.ExcC K D) : KitX K (.ref x) (.ref D) (fun h => InstAt h x ox D (some od)) where
  ty := fun _ _ _ I => I.type
  it := fun _ _ X _ => by
    obtain ⟨c0, h0, _⟩ := any_some C.hd
    unfold clsIn at h0
    split at h0
    · rename_i c' d' cd' sl' ho
      intro A' Q' E' s' k q
      unfold isType loadHead
      exact wpAny_bind (wpAny_loadPart (k _ _ (X _ _ ho)) (wpAny_pure q))
    · cases h0
  ne := fun h tp dd its n sl X htp => by
    obtain ⟨c0, h0, _⟩ := any_some C.hd
    refine Bool.eq_false_iff.mpr fun q => ?_
    have e : D = tp := Value.ref.inj (beq_iff_eq.mp q)
    subst e
    unfold clsIn at h0
    split at h0
    · rename_i c' d' cd' sl' ho
      have z := (X _ _ ho).symm.trans htp
      cases z
    · cases h0
  ca := fun X I k => err_class C X I k
end
end Jd
namespace Jd
open PySem PySem.Spec PyProof.Rows L2
def rIsEr (K : PySem.W.Frag) : List V → Hp → VK → Prop := fun xs H Q => ∃ (a D dd : Addr) (fs : List (Str × V)) (c : V) (cv : Value) (b : Bool), xs = [.ref a, c] ∧ H a = some (ErO (.ref D) (some dd) a) ∧ H dd = some (.xd fs) ∧ ExcC K D ∧
  (∀ u, RelV c u → u = cv) ∧ PySem.W.kitOne K (.ref D) cv = some b ∧ Q (.bl b) H
theorem call_isEr {X : Cx} : CallR X (.builtin "isinstance") (rIsEr X.K) := by
  intro pins s σ H xs us Q I r h
  obtain ⟨a, D, dd, fs, c, cv, b, rfl, ha, hd, C, hcv, e, q⟩ := h
  cases r with
  | cons rx rr =>
    cases rr with
    | cons rt rr =>
      cases rr
      cases rx
      have ec := hcv _ rt
      subst ec
      obtain ⟨oe, vs, r0, r1, r2⟩ := (I.hok a _ ha).1
      have hx : ObjOk X.prog X.w H s.heap dd (.xd fs) := I.hok dd _ hd
      obtain ⟨mA, hns, hr⟩ := hx
      obtain ⟨od, ho, hl⟩ := lookIn_ns hns
      have J : PySem.W.InstAt s.heap a oe D (some od) := ⟨r0, r1.1, by unfold PySem.W.notCls; rw [r2] <;> rfl, by rw [r1.2]; exact ho⟩
      exact PySem.W.kia_one (err_kit C) I.kIn J e (fun z => nomatch z) fun tk => ⟨.bl b, H, I.kept (t' := tk) fun _ _ z => z, rfl, q⟩
end Jd
namespace Jd
open PySem PySem.Spec PyProof.Rows L2
/-! ### heard; how Keys are called -/
theorem exm4 {K : PySem.W.Frag} {cls c1 c2 c3 c4 : Value} {b1 b2 b3 b4 : Bool} (h1 : PySem.W.exmOne K cls c1 = some b1) (h2 : PySem.W.exmOne K cls c2 = some b2) (h3 : PySem.W.exmOne K cls c3 = some b3) (h4 : PySem.W.exmOne K cls c4 = some b4) : PySem.W.exmAny K cls [c1, c2, c3, c4] = some (b1 || (b2 || (b3 || (b4 || false)))) := by
  simp only [PySem.W.exmAny, h1, h2, h3, h4]
theorem kit_self {K : PySem.W.Frag} {t : Value} : PySem.W.kitOne K t t = some true := by
  unfold PySem.W.kitOne
  rw [if_pos (by simp)]
abbrev PK3 : List Str := ["self", "names", "tells"]
/-- Keys(a, b) -/
theorem kb_two {K : PySem.W.Frag} {fd : FuncData} (F : FunD K "__init__" "Keys.__init__" (defArgs s_Keys___init__) (defBody s_Keys___init__) (defScope s_Keys___init__) (d_Keys___init__.dvs K) [] (He.ma K (He.ga K "Keys") "__init__") fd) : Binds K fd PK3 [] := by
  have hd : d_Keys___init__.dvs K = [.ref (dflA (fun K => He.ma K (He.ga K "Keys") "__init__") 0 K)] := rfl
  obtain ⟨ds, v, b⟩ := F.binds1 (ps := PK3) 3 1 (by rw [hd]; exact List.cons_ne_nil _ _) (by rw [hd]; rfl) (fun T kV doc pm an cdv ct us its hu hi => by
    rw [hd] at hi
    match us, its, hu, hi with
    | [_, _, _], [_], _, _ => exact ⟨_, rfl, rfl⟩)
  have e : ds = [] := by
    rw [hd] at v
    cases v
    rfl
  rw [e] at b
  exact b
/-- Keys(names=a, tells=b) -/
theorem kb_kw {K : PySem.W.Frag} {fd : FuncData} (F : FunD K "__init__" "Keys.__init__" (defArgs s_Keys___init__) (defBody s_Keys___init__) (defScope s_Keys___init__) (d_Keys___init__.dvs K) [] (He.ma K (He.ga K "Keys") "__init__") fd) : ∃ its : List Value, KBn K fd PK3 1 ["names", "tells"] (fun us ws => us ++ ws) (fun vs zs => vs ++ zs) := by
  have hd : d_Keys___init__.dvs K = [.ref (dflA (fun K => He.ma K (He.ga K "Keys") "__init__") 0 K)] := rfl
  obtain ⟨its, b⟩ := F.kbindsD (ps := PK3) 1 ["names", "tells"] (fun us _ ws => us ++ ws) (by rw [hd]; exact List.cons_ne_nil _ _) (fun r1 _ r3 => r1.append r3) (fun T kV doc pm an cdv ct us its ws l1 l2 l3 => by
    rw [hd] at l2
    match us, its, ws, l1, l2, l3 with
    | [_], [_], [_, _], _, _, _ => exact ⟨_, rfl, rfl⟩)
  exact ⟨its, b⟩
end Jd
namespace Jd
open PySem PySem.Spec PyProof.Rows L2
/-! ### the numbers joined -/
/-- pairs of names and numbers -/
def FdAt (H : Hp) (ps : List Addr) (zs : List Str) : Prop := ps.length = zs.length ∧ ∀ (i : Nat) (p : Addr), ps[i]? = some p → ∃ z, zs[i]? = some z ∧ H p = some (.tup [.str (fieldName z), iV (fnum z)])
theorem FdAt.same {H H' : Hp} {ps : List Addr} {zs : List Str} (h : FdAt H ps zs) (s : Same H H') : FdAt H' ps zs := ⟨h.1, fun i p hp => let ⟨z, a, b⟩ := h.2 i p hp; ⟨z, a, s _ _ b⟩⟩
theorem FdAt.snoc {H : Hp} {ps : List Addr} {zs : List Str} {p : Addr} {z : Str} (h : FdAt H ps zs) (e : H p = some (.tup [.str (fieldName z), iV (fnum z)])) : FdAt H (ps ++ [p]) (zs ++ [z]) := by
  refine ⟨by rw [List.length_append, List.length_append, h.1]; rfl, fun i a ha => ?_⟩
  rcases at_last ha with q | ⟨rfl, rfl⟩
  · have hi := (List.getElem?_eq_some_iff.mp q).1
    obtain ⟨y, a1, a2⟩ := h.2 i a q
    exact ⟨y, by rw [List.getElem?_append_left (by rw [← h.1]; exact hi)]; exact a1, a2⟩
  · exact ⟨z, by rw [h.1, List.getElem?_append_right (Nat.le_refl _), Nat.sub_self]; rfl, e⟩
theorem join_next {zs : List Str} {i : Nat} {z : Str} (h : zs[i]? = some z) (n : Str) : joinS (zs.take (i + 1)) n = if fieldName z = n then Nat.lcm (joinS (zs.take i) n) (fnum z) else joinS (zs.take i) n := by
  unfold joinS
  rw [List.take_add_one, h, List.foldl_append]
  rfl
theorem gd_kvG {H : Hp} {d : Addr} {ns : List Str} {f : Str → V} {n : Str} (hd : H d = some (.dK (kvG ns f))) (hn : n ∈ ns) : DGet H d (.str n) (some (f n)) := by
  have q := DGet.k (k := Sum.inr n) hd
  rw [valV_kvG hn] at q
  exact q
section
variable {P : Program} {w : World} {K : PySem.W.Frag} {mg : Str → Option Value} {base : Heap}
abbrev NJ : List Str := ["keys", "fields", "pairs", "field", "numbers", "name", "m"]
theorem sc_jn : FnScope NJ ["keys", "fields"] (defScope s__joined) := ⟨rfl, rfl, rfl, by decide +kernel, rfl, by decide +kernel, by decide +kernel⟩
theorem ok_joined (B : Bk K mg) : Df P w K mg base CX0 4 "_joined" ["keys", "fields"] (spJoin K) := by
  obtain ⟨fd, F⟩ := B.F_joined
  obtain ⟨fdO, GO, bO⟩ := (ok_field_of (P := P) (w := w) (base := base) B).ex
  have kO := (ok_field_of (P := P) (w := w) (base := base) B).kp
  obtain ⟨fdN, GN, bN⟩ := (ok_all_names (P := P) (w := w) (base := base) B).ex
  have kN := (ok_all_names (P := P) (w := w) (base := base) B).kp
  refine ⟨⟨fd, ?_, F.binds fun _ _ _ _ _ _ us hl => match us, hl with | [_, _], _ => rfl⟩, B.g_joined, F.kp⟩
  refine F.ok sc_jn (fun vs H Q E h => ?_) (fun cdv A outer s H vs Q E hr h => ?_)
  · obtain ⟨_, _, _, _, _, rfl, _⟩ := h
    rfl
  · obtain ⟨x, f, ns, zs, t, rfl, ko, n0, hf, l100, hz, k⟩ := h
    have hu := hu_of hr
    have hr3 : Room 3 _ := hr.mono (by decide)
    refine ⟨_, pss_cons (ps_setLc (i := 2) (own := [("field", 3)]) (g := gName 3) (tt := tYes) rfl sc_jn.nd rfl rfl (sw_true rfl rfl rfl (by decide +kernel)) (pi_seq (pv 1)) (blkOk_by (N := NJ) (sc := defScope s__joined) (by decide +kernel))
          (fun _ _ _ _ _ => pg_name (i := 3) sc_jn.nd rfl (Or.inl rfl)) (fun _ _ _ _ _ => pts_nil) (fun _ _ _ _ _ => pe_call (E := fun _ _ _ => False) GO hr rfl B.g_field_of kO bO .nil passF (pa_cons (pv 3) pa_nil)))
      (pss_cons (ps_set (i := 4) sc_jn.nd rfl (Or.inl rfl) pe_dnewK)
      (pss_cons (ps_for PassesOwn.never rfl (pi_tup (pe_call GN hr rfl B.g_all_names kN bN .nil pass0 (pa_cons (pv 0) pa_nil))) (pg_name (i := 5) sc_jn.nd rfl (Or.inl rfl)) (pss_one (ps_dput hu (pv 4) (pv 5) pe_int rfl)))
      (pss_cons (ps_for PassesOwn.never rfl (pi_list (pv 2)) (pg_tup (by rfl) (pgs_cons (pg_name (i := 5) sc_jn.nd rfl (Or.inl rfl)) (pgs_cons (pg_name (i := 6) sc_jn.nd rfl (Or.inl rfl)) pgs_nil)))
        (pss_cons (ps_if (pt_cmp (pc_dnotin hu (pv 5) (pv 4))) (pss_one ps_never) pss_nil)
          (pss_one (ps_dput hu (pv 4) (pv 5) (pe_callBfun cr_lcm (by rfl) B.bl_lcm (pa_cons (pe_dget hu (pv 4) (pv 5) (fun _ _ => rfl)) (pa_cons (pv 6) pa_nil))) rfl))))
      (pss_one (ps_ret (pv 4)))))), ?_⟩
    obtain ⟨_, _, _, _, _, _, _, _, nd, l7, _⟩ := id ko
    have big : (1000 : Nat) ≤ sizeLine := by decide
    have ndk : (("#" : Str) :: ns).Nodup := List.nodup_cons.mpr ⟨n0, nd⟩
    refine ⟨_, rfl, f, _, rfl, hf, fun J G wk hG => fun D hD => ?_⟩
    refine lc_it wk (fun i H' => Same H H' ∧ ∃ ps : List Addr, H' D = some (.lst (ps.map V.ref)) ∧ FdAt H' ps (zs.take i)) ⟨Same_new hD, [], upd_same, rfl, fun i p h => by cases h⟩ (fun i H' _ p => hG H' p.1) (fun i v H1 H2 hi ⟨s1, ps, hD1, pp⟩ y => ?_) (fun H1 ⟨s1, ps, hD1, pp⟩ => ?_)
    · obtain ⟨rfl, hv⟩ := y
      obtain ⟨z, hzi, rfl⟩ := at_str hv
      have fo := hz z (List.mem_of_getElem? hzi)
      have li : i < zs.length := (List.getElem?_eq_some_iff.mp hzi).1
      refine ⟨rfl, iteT (B := ∃ z : Nat, z = 0) ?_⟩
      refine ⟨_, rfl, z, rfl, Nat.le_trans fo.len big, fun hb => (by rw [fo.ok] at hb; cases hb), fun _ H5 p s5 hp => ?_⟩
      rw [fo.num] at hp
      have hD5 := s5 _ _ hD1
      have npD : p ≠ D := ne_of hp hD5 (by intro z; cases z)
      refine ⟨_, hD5, ?_, ?_, ps ++ [p], by rw [upd_same, List.map_append]; rfl, ?_⟩
      · rw [List.length_map, pp.1, List.length_take]
        omega
      · exact Same_upd (s1.trans s5) hD
      · rw [List.take_add_one, hzi]
        refine FdAt.snoc (z := z) ⟨pp.1, fun j q hq => ?_⟩ (by rw [upd_ne npD]; exact hp)
        obtain ⟨y, e1, e2⟩ := pp.2 j q hq
        exact ⟨y, e1, by rw [upd_ne (ne_of (s5 _ _ e2) hD5 (by intro z; cases z))]; exact s5 _ _ e2⟩
    · rw [List.length_map, List.take_length] at pp
      refine fun d hd => ?_
      have s2 : Same H (upd H1 d (.dK [])) := Same_lay s1 hd
      refine ⟨_, rfl, x, ns, t, rfl, ko.same s2, fun H3 a s3 ha => ?_⟩
      have hd3 := s3 _ _ (upd_same (H := H1) (a := d) (o := HO.dK []))
      have hD3 := s3 _ _ (Same_new hd _ _ hD1)
      have pp3 := (pp.same (Same_new (o := HO.dK []) hd)).same s3
      have nDd : D ≠ d := ne_of hD3 hd3 (by intro z; cases z)
      have nad : a ≠ d := ne_of ha hd3 (by intro z; cases z)
      have sH : ∀ H', Keep d H3 H' → Same H H' := fun H' kp b o q => by
        have nb : b ≠ d := ne_of_none q (s1.free hd)
        exact kp _ _ nb (s3 _ _ (s2 _ _ q))
      refine ⟨a, rfl, ⟨_, SqT.of ha⟩, ?_⟩
      refine for_it (walk_tup (xs := (("#" : Str) :: ns).map V.str)) (fun i σ H' => ∃ v5 : Option V, σ = [some (.ref x), some (.ref f), some (.ref D), Option.none, some (.ref d), v5, Option.none] ∧ Keep d H3 H' ∧ H' d = some (.dK (kvG ((("#" : Str) :: ns).take i) (numV fun _ => 1))))
        ⟨Option.none, rfl, Keep.refl _ _, hd3⟩ (fun i σ H' _ ⟨_, _, kp, _⟩ => SqT.of (kp _ _ nad ha)) (fun i v σ H4 H5 hi ⟨v5, e, kp, hd4⟩ y => ?_) (fun σ H4 ⟨v5, e, kp, hd4⟩ => ?_)
      · obtain ⟨rfl, hx⟩ := y
        subst e
        obtain ⟨n, hn, rfl⟩ := at_str hx
        have nin := nd_take ndk hn
        refine ⟨_, rfl, _, rfl, d, _, rfl, DPut.k (k := Sum.inr n) hd4 ?_, ?_⟩
        · rw [kvG_len, List.length_take, List.length_cons]
          omega
        · refine ⟨_, rfl, fun b o nb q => by rw [upd_ne nb]; exact kp _ _ nb q, ?_⟩
          rw [upd_same, take_next hn]
          exact congrArg (fun z => some (HO.dK z)) (putG_new (f := numV fun _ => 1) nin)
      · subst e
        rw [List.length_map, List.take_length] at hd4
        refine ⟨_, rfl, D, rfl, ⟨_, SqL.of (kp _ _ nDd hD3)⟩, ?_⟩
        refine for_it (walk_list (xs := ps.map V.ref)) (fun i σ H' => ∃ v5 v6 : Option V, σ = [some (.ref x), some (.ref f), some (.ref D), Option.none, some (.ref d), v5, v6] ∧ Keep d H3 H' ∧ H' d = some (.dK (kvG (("#" : Str) :: ns) (numV (joinS (zs.take i))))))
          ⟨_, _, rfl, kp, hd4⟩ (fun i σ H' _ ⟨_, _, _, kp, _⟩ => SqL.of (kp _ _ nDd hD3)) (fun i v σ H5 H6 hi ⟨w5, w6, e, kp5, hd5⟩ y => ?_) (fun σ H5 ⟨w5, w6, e, kp5, hd5⟩ => ?_)
        · obtain ⟨rfl, hx⟩ := y
          subst e
          obtain ⟨p, hp, rfl⟩ := at_ref hx
          obtain ⟨z, hzi, hpz⟩ := pp3.2 i p hp
          have fo := hz z (List.mem_of_getElem? hzi)
          have npd : p ≠ d := ne_of hpz hd3 (by intro z; cases z)
          have gd := gd_kvG hd5 fo.nam
          have dv := join_dv (ks := ("#" : Str) :: ns) (zs := zs.take i) (fun z hz' => hz z (List.mem_of_mem_take hz')) (fieldName z)
          refine ⟨_, _, rfl, SqT.of (kp5 _ _ npd hpz), rfl, _, _, rfl, _, _, rfl, rfl, ?_⟩
          refine ⟨_, rfl, _, rfl, d, _, rfl, gd, _, rfl, iteF ?_⟩
          refine ⟨_, rfl, _, rfl, d, _, rfl, gd, _, rfl, joinS (zs.take i) (fieldName z), fnum z, rfl, dvd_lt dv, dvd_lt fo.dv, dvd_lt (dvd_lcm dv fo.dv), _, rfl, _, rfl, d, _, rfl, DPut.k (k := Sum.inr (fieldName z)) hd5 ?_, ?_⟩
          · rw [kvG_len, List.length_cons]
            omega
          · refine ⟨_, _, rfl, fun b o nb q => by rw [upd_ne nb]; exact kp5 _ _ nb q, ?_⟩
            rw [upd_same, putG_old fo.nam]
            congr 2
            unfold kvG
            refine List.map_congr_left fun n _ => ?_
            unfold atF numV
            rw [join_next hzi]
            by_cases q : n = fieldName z
            · subst q
              rw [if_pos rfl, if_pos rfl]
            · rw [if_neg q, if_neg fun e => q e.symm]
        · subst e
          rw [List.length_map, pp3.1, List.take_length] at hd5
          exact ⟨_, rfl, k _ d (sH _ kp5) hd5⟩
end
end Jd
namespace Jd
open PySem PySem.Spec PyProof.Rows L2
/-! ### closed; the Stage -/
theorem Same_unlock {H H' : Hp} {d : Addr} {u : HO} {od : Obj} (h : H d = some u) (s : Same (upd H d (.frz od u)) H') : Same H (upd H' d u) := fun b o q => by
  by_cases e : b = d
  · subst e
    rw [upd_same, ← h]
    exact q
  · rw [upd_ne e]
    exact s _ _ (by rw [upd_ne e]; exact q)
/-- all that is told by names that are looked at whole -/
def wholeOf (ks ns : List Str) (t : Str → List Str) (m : Str → Nat) : List Str := ks.flatMap fun w => if m w = 0 then toldAt ns t w else []
def closeM (ns : List Str) (t : Str → List Str) (m : Str → Nat) (n : Str) : Nat := if n ∈ wholeOf (("#" : Str) :: ns) ns t m then 0 else m n
theorem whole_len (ns : List Str) (t : Str → List Str) (m : Str → Nat) {l : List Str} (h : ∀ w ∈ l, (toldAt ns t w).length ≤ 7) : (wholeOf l ns t m).length ≤ 7 * l.length := by
  induction l with
  | nil => exact Nat.zero_le _
  | cons w l ih =>
    have q := ih fun z hz => h z (List.mem_cons_of_mem _ hz)
    have e : wholeOf (w :: l) ns t m = (if m w = 0 then toldAt ns t w else []) ++ wholeOf l ns t m := List.flatMap_cons
    rw [e, List.length_append, List.length_cons, Nat.mul_add]
    have q2 := h w List.mem_cons_self
    split
    · omega
    · simp only [List.length_nil]
      omega
theorem whole_next {ks ns : List Str} {t : Str → List Str} {m : Str → Nat} {i : Nat} {w : Str} (h : ks[i]? = some w) : wholeOf (ks.take (i + 1)) ns t m = wholeOf (ks.take i) ns t m ++ (if m w = 0 then toldAt ns t w else []) := by
  unfold wholeOf
  rw [List.take_add_one, h, List.flatMap_append]
  simp
theorem kv_ne {ns : List Str} {A : Str → Addr} {f : Str → V} (n0 : ("#" : Str) ∉ ns) : HO.dK (kvT ns A) ≠ HO.dK (kvG (("#" : Str) :: ns) f) := fun z => by
  injection z with z
  cases ns with
  | nil => cases z
  | cons a l =>
    unfold kvT kvG at z
    rw [List.map_cons, List.map_cons] at z
    injection z with z1 z2
    have e := congrArg Prod.fst z1
    have e2 : a = "#" := Sum.inr.inj e
    exact n0 (e2 ▸ List.mem_cons_self)
/-- Keys stay where a dict of numbers changes -/
theorem KeysO.keepD {K : PySem.W.Frag} {H H' : Hp} {x d : Addr} {ns : List Str} {t : Str → List Str} {f : Str → V} (h : KeysO K H x ns t) (n0 : ("#" : Str) ∉ ns) (hd : H d = some (.dK (kvG (("#" : Str) :: ns) f))) (s : ∀ b o, b ≠ d → H b = some o → H' b = some o) : KeysO K H' x ns t := by
  obtain ⟨dx, tn, d0, A, h1, h2, h3, h4, h5⟩ := h
  exact ⟨dx, tn, d0, A, s _ _ (ne_of h1 hd (by intro z; cases z)) h1, s _ _ (ne_of h2 hd (by intro z; cases z)) h2, s _ _ (ne_of h3 hd (kv_ne n0)) h3, fun n hn => s _ _ (ne_of (h4 n hn) hd (by intro z; cases z)) (h4 n hn), h5⟩
def spClose (K : PySem.W.Frag) : Sp := fun vs H Q _ => ∃ (x d : Addr) (ns : List Str) (t : Str → List Str) (m : Str → Nat), vs = [.ref x, .ref d] ∧ KeysO K H x ns t ∧ ("#" : Str) ∉ ns ∧ H d = some (.dK (kvG (("#" : Str) :: ns) (numV m))) ∧
  ∀ H' r, Same H H' → H' r = some (.dK (kvG (("#" : Str) :: ns) (numV (closeM ns t m)))) → Q (.ref r) H'
section
variable {P : Program} {w : World} {K : PySem.W.Frag} {mg : Str → Option Value} {base : Heap}
abbrev NC : List Str := ["keys", "numbers", "told", "name", "m", "other"]
theorem sc_cl : FnScope NC ["keys", "numbers"] (defScope s__closed) := ⟨rfl, rfl, rfl, by decide +kernel, rfl, by decide +kernel, by decide +kernel⟩
theorem ok_closed (B : Bk K mg) : Df P w K mg base CX0 5 "_closed" ["keys", "numbers"] (spClose K) := by
  obtain ⟨fd, F⟩ := B.F_closed
  obtain ⟨fdT, GT, FT⟩ := ok_told (P := P) (w := w) (base := base) B
  have bT : Binds K fdT ["self", "name"] [] := FT.binds fun _ _ _ _ _ _ us hl => match us, hl with | [_, _], _ => rfl
  refine ⟨⟨fd, ?_, F.binds fun _ _ _ _ _ _ us hl => match us, hl with | [_, _], _ => rfl⟩, B.g_closed, F.kp⟩
  refine F.ok sc_cl (fun vs H Q E h => ?_) (fun cdv A outer s H vs Q E hr h => ?_)
  · obtain ⟨_, _, _, _, _, rfl, _⟩ := h
    rfl
  · obtain ⟨x, d, ns, t, m, rfl, ko, n0, hd, k⟩ := h
    have hu := hu_of hr
    refine ⟨_, pss_cons (ps_set (i := 2) sc_cl.nd rfl (Or.inr rfl) (pe_lock (pe_lc2 (own := [("name", 3), ("m", 4), ("other", 5)]) (vs1 := [5]) (g := gTup K 2 (gCons (gName 3) (gCons (gName 4) gNil))) (g1 := gName 5) (tt := tTest (tOp rEq (tVar 4) (tC (.int 0)))) (tt1 := tYes)
          (wi1 := iTup K (tMeth (He.ga K "Keys") "told" (spTold K) [] (fun _ _ _ => False) (tVar 0) (tCons (tVar 3) tNil))) rfl sc_cl.nd (pi_items (pv 1)) (blkOk_by (N := NC) (sc := defScope s__closed) (by decide +kernel)) (by decide)
          (fun _ _ _ _ _ => pg_tup rfl (pgs_cons (pg_name (i := 3) sc_cl.nd rfl (Or.inl rfl)) (pgs_cons (pg_name (i := 4) sc_cl.nd rfl (Or.inl rfl)) pgs_nil))) (fun _ _ _ _ _ => pts_one (pt_cmpR op_eq (pv 4) pe_int (nomark _)))
          (fun _ _ _ _ _ => pi_tup (pe_meth (E := fun _ _ _ => False) (pv 0) B.cl_Keys B.me_Keys_told GT hr bT .nil passF (pa_cons (pv 3) pa_nil))) (fun _ _ _ _ _ => pg_name (i := 5) sc_cl.nd rfl (Or.inl rfl)) (fun _ _ _ _ _ => pts_nil) (fun _ _ _ _ _ => pv 5))))
      (pss_one (ps_ret (pe_lock (pe_dc (own := [("name", 3), ("m", 4)]) (g := gTup K 2 (gCons (gName 3) (gCons (gName 4) gNil))) (tt := tYes) rfl sc_cl.nd (pi_items (pv 1)) (blkOk_by (N := NC) (sc := defScope s__closed) (by decide +kernel))
          (fun _ _ _ _ _ => pg_tup rfl (pgs_cons (pg_name (i := 3) sc_cl.nd rfl (Or.inl rfl)) (pgs_cons (pg_name (i := 4) sc_cl.nd rfl (Or.inl rfl)) pgs_nil))) (fun _ _ _ _ _ => pts_nil) (fun _ _ _ _ _ => pv 3)
          (tv := tIf (tTest (tOp (rIn K false) (tVar 3) (tVar 2))) (tC (.int 0)) (tVar 4))
          (fun _ _ _ _ _ => pe_ifExp (pt_cmpR op_in_seq (pv 3) (pv 2) (by rfl)) pe_int (pv 4)))))), ?_⟩
    obtain ⟨_, _, _, _, _, _, _, _, nd, l7, _, t7⟩ := id ko
    have big : (1000 : Nat) ≤ sizeLine := by decide
    have ndk : (("#" : Str) :: ns).Nodup := List.nodup_cons.mpr ⟨n0, nd⟩
    have tl7 : ∀ w ∈ (("#" : Str) :: ns), (toldAt ns t w).length ≤ 7 := fun w hw => by
      unfold toldAt
      by_cases e : w = "#"
      · rw [if_pos e]
        exact l7
      · rw [if_neg e]
        exact (t7 w ((List.mem_cons.mp hw).resolve_left e)).1
    have lw : (wholeOf (("#" : Str) :: ns) ns t m).length ≤ 56 := by
      have q := whole_len ns t m tl7
      rw [List.length_cons] at q
      omega
    have itm : ∀ {i : Nat} {u v : V}, ((kvG (("#" : Str) :: ns) (numV m))[i]?.map fun kv => kV kv.1) = some u → (kvG (("#" : Str) :: ns) (numV m))[i]?.map Prod.snd = some v → ∃ n, (("#" : Str) :: ns)[i]? = some n ∧ u = .str n ∧ v = iV (m n) := by
      intro i u v e1 e2
      unfold kvG at e1 e2
      rw [List.getElem?_map] at e1 e2
      cases q : (("#" : Str) :: ns)[i]? with
      | none => rw [q] at e1; cases e1
      | some n =>
        rw [q] at e1 e2
        cases e1
        cases e2
        exact ⟨n, rfl, rfl, rfl⟩
    refine ⟨d, _, hd, trivial, fun od => ?_⟩
    have kox : KeysO K (upd H d (.frz od (.dK (kvG (("#" : Str) :: ns) (numV m))))) x ns t := ko.keepD n0 hd fun b o nb q => by rw [upd_ne nb]; exact q
    refine ⟨_, rfl, d, od, _, rfl, upd_same, fun D hD => ?_⟩
    refine walk_by (walk_items (d := d) (o := od) (kvs := kvG (("#" : Str) :: ns) (numV m))) _ (fun i H' => Same (upd H d (.frz od (.dK (kvG (("#" : Str) :: ns) (numV m))))) H' ∧ i ≤ (("#" : Str) :: ns).length ∧ H' D = some (.lst ((wholeOf ((("#" : Str) :: ns).take i) ns t m).map V.str)))
      ⟨Same_new hD, Nat.zero_le _, upd_same⟩ (fun i H' p => p.1 _ _ upd_same) (fun i v H1 H2 hi ⟨s1, li, hD1⟩ y => ?_) (fun H1 ⟨s1, _, hD1⟩ => ?_)
    · obtain ⟨T, u, v', rfl, nT, rfl, e1, e2⟩ := y
      have s2 := s1.trans (Same_new (a := T) (o := HO.tup [u, v']) nT)
      have hD2 := Same_new (a := T) (o := HO.tup [u, v']) nT _ _ hD1
      have hi' : i < (("#" : Str) :: ns).length := by rw [kvG_len] at hi; exact hi
      obtain ⟨n, hn, rfl, rfl⟩ := itm e1 e2
      have hni : n ∈ (("#" : Str) :: ns) := List.mem_of_getElem? hn
      refine ⟨_, _, rfl, SqT.of upd_same, rfl, _, _, rfl, _, _, rfl, rfl, rfl, _, rfl, rfl, _, rfl, two (fun h1 => ?_) (fun h1 => ?_)⟩
      · have m0 : m n = 0 := by
          have e := V.int.inj (of_decide_eq_true h1)
          omega
        have ko2 := kox.same s2
        obtain ⟨dx2, _, _, _, hx2, _⟩ := id ko2
        have hin : n = "#" ∨ n ∈ ns := List.mem_cons.mp hni
        refine ⟨_, rfl, x, dx2, _, rfl, hx2, rfl, _, rfl, x, n, ns, t, rfl, ko2, fun _ p hp => ⟨p, rfl, ⟨_, SqT.of hp⟩, ?_⟩, fun h => absurd hin h⟩
        refine walk_by (walk_tup (xs := (toldAt ns t n).map V.str)) _ (fun j H' => Same (upd H d (.frz od (.dK (kvG (("#" : Str) :: ns) (numV m))))) H' ∧ Same (upd H1 T (.tup [V.str n, iV (m n)])) (upd H' D (.lst ((wholeOf ((("#" : Str) :: ns).take i) ns t m).map V.str))) ∧ j ≤ (toldAt ns t n).length ∧ H' p = some (.tup ((toldAt ns t n).map V.str)) ∧ H' D = some (.lst ((wholeOf ((("#" : Str) :: ns).take i) ns t m ++ (toldAt ns t n).take j).map V.str)))
          ⟨s2, ?_, Nat.zero_le _, hp, by rw [List.take_zero, List.append_nil]; exact hD2⟩ (fun j H' p' => SqT.of p'.2.2.2.1) (fun j v H3 H4 hj ⟨s3, s3', lj, hp3, hD3⟩ y => ?_) (fun H3 ⟨s3, _, _, _, hD3⟩ => ?_)
        · exact fun b o q => by
            by_cases e : b = D
            · subst e
              rw [upd_same, ← hD2]
              exact q
            · rw [upd_ne e]
              exact q
        · obtain ⟨rfl, hv⟩ := y
          obtain ⟨o, ho, rfl⟩ := at_str hv
          have hj' : j < (toldAt ns t n).length := by rw [List.length_map] at hj; exact hj
          refine ⟨rfl, iteT (B := ∃ z : Nat, z = 0) ?_⟩
          have npD : p ≠ D := ne_of hp3 hD3 (by intro z; cases z)
          refine ⟨_, rfl, _, hD3, ?_, fun b o' q' => ?_, ?_, hj', by rw [upd_ne npD]; exact hp3, ?_⟩
          · have q1 := whole_len ns t m (l := (("#" : Str) :: ns).take i) fun w hw => tl7 w (List.mem_of_mem_take hw)
            have q2 := tl7 n hni
            rw [List.length_take, List.length_cons] at q1
            rw [List.length_map, List.length_append, List.length_take]
            omega
          · rw [upd_ne (ne_of_none q' hD)]
            exact s3 _ _ q'
          · exact fun b o' q' => by
              by_cases e : b = D
              · subst e
                rw [upd_same]
                have := s3' _ _ q'
                rw [upd_same] at this
                exact this
              · rw [upd_ne e, upd_ne e]
                have := s3' _ _ q'
                rw [upd_ne e] at this
                exact this
          · rw [upd_same, List.take_add_one, ho, ← List.append_assoc]
            exact congrArg (fun z => some (HO.lst z)) (by simp)
        · refine ⟨s3, hi', ?_⟩
          rw [whole_next hn, if_pos m0]
          rw [List.length_map, List.take_length] at hD3
          exact hD3
      · have m0 : m n ≠ 0 := fun e => of_decide_eq_false h1 (by rw [e]; rfl)
        refine ⟨s2, hi', ?_⟩
        rw [whole_next hn, if_neg m0, List.append_nil]
        exact hD2
    · rw [kvG_len, List.take_length] at hD1
      refine ⟨s1 _ _ upd_same, ?_⟩
      have sm := Same_unlock hd s1
      have nDd : D ≠ d := ne_of hD1 (s1 _ _ upd_same) (by intro z; cases z)
      have hDm : (upd H1 d (.dK (kvG (("#" : Str) :: ns) (numV m)))) D = some (.lst ((wholeOf (("#" : Str) :: ns) ns t m).map V.str)) := by rw [upd_ne nDd]; exact hD1
      have hdm : (upd H1 d (.dK (kvG (("#" : Str) :: ns) (numV m)))) d = some (.dK (kvG (("#" : Str) :: ns) (numV m))) := upd_same
      generalize (upd H1 d (.dK (kvG (("#" : Str) :: ns) (numV m)))) = Hm at sm hDm hdm
      refine ⟨d, _, hdm, trivial, fun od2 => ?_⟩
      refine ⟨_, rfl, d, od2, _, rfl, upd_same, fun D2 hD2 => ?_⟩
      refine walk_by (walk_items (d := d) (o := od2) (kvs := kvG (("#" : Str) :: ns) (numV m))) _ (fun i H' => Same (upd Hm d (.frz od2 (.dK (kvG (("#" : Str) :: ns) (numV m))))) H' ∧ i ≤ (("#" : Str) :: ns).length ∧ H' D2 = some (.dK (kvG ((("#" : Str) :: ns).take i) (numV (closeM ns t m)))))
        ⟨Same_new hD2, Nat.zero_le _, upd_same⟩ (fun i H' p => p.1 _ _ upd_same) (fun i v H3 H4 hi ⟨s3, li, hE⟩ y => ?_) (fun H3 ⟨s3, _, hE⟩ => ?_)
      · obtain ⟨T, u, v', rfl, nT, rfl, e1, e2⟩ := y
        have s4 := s3.trans (Same_new (a := T) (o := HO.tup [u, v']) nT)
        have hE4 := Same_new (a := T) (o := HO.tup [u, v']) nT _ _ hE
        have hD4 : (upd H3 T (.tup [u, v'])) D = some (.lst ((wholeOf (("#" : Str) :: ns) ns t m).map V.str)) := s4 _ _ (by rw [upd_ne nDd]; exact hDm)
        have hi' : i < (("#" : Str) :: ns).length := by rw [kvG_len] at hi; exact hi
        obtain ⟨n, hn, rfl, rfl⟩ := itm e1 e2
        have nin := nd_take ndk hn
        have fin : ∀ z : V, z = numV (closeM ns t m) n → ∃ kvs ky, V.str n = kV ky ∧ (upd H3 T (.tup [V.str n, iV (m n)])) D2 = some (.dK kvs) ∧ kvs.length < sizeLine ∧ (Same (upd Hm d (.frz od2 (.dK (kvG (("#" : Str) :: ns) (numV m))))) (upd (upd H3 T (.tup [V.str n, iV (m n)])) D2 (.dK (putK kvs ky z))) ∧ i + 1 ≤ (("#" : Str) :: ns).length ∧ (upd (upd H3 T (.tup [V.str n, iV (m n)])) D2 (.dK (putK kvs ky z))) D2 = some (.dK (kvG ((("#" : Str) :: ns).take (i + 1)) (numV (closeM ns t m))))) := by
          intro z ez
          subst ez
          refine ⟨_, Sum.inr n, rfl, hE4, ?_, fun b o q => ?_, hi', ?_⟩
          · rw [kvG_len, List.length_take, List.length_cons]
            omega
          · rw [upd_ne (ne_of_none q hD2)]
            exact s4 _ _ q
          · rw [upd_same, take_next hn, putG_new nin]
        refine ⟨_, _, rfl, SqT.of upd_same, rfl, _, _, rfl, _, _, rfl, rfl, rfl, iteT (B := ∃ z : Nat, z = 0) ?_⟩
        refine ⟨_, rfl, _, rfl, _, rfl, D, _, rfl, .inl (SqL.of hD4), rfl, fl_str, _, rfl, two (fun h1 => ?_) (fun h1 => ?_)⟩
        · have h1' : inV (.str n) ((wholeOf (("#" : Str) :: ns) ns t m).map V.str) = true := h1
          rw [inV_str] at h1'
          refine fin _ ?_
          show V.int 0 = iV (closeM ns t m n)
          unfold closeM
          rw [if_pos (of_decide_eq_true h1')]
          rfl
        · have h1' : inV (.str n) ((wholeOf (("#" : Str) :: ns) ns t m).map V.str) = false := h1
          rw [inV_str] at h1'
          refine ⟨_, rfl, fin _ ?_⟩
          show iV (m n) = iV (closeM ns t m n)
          unfold closeM
          rw [if_neg (of_decide_eq_false h1')]
      · rw [kvG_len, List.take_length] at hE
        have nD2d : D2 ≠ d := fun z => by rw [z, upd_same] at hD2; cases hD2
        exact ⟨s3 _ _ upd_same, k _ _ (sm.trans (Same_unlock hdm s3)) (by rw [upd_ne nD2d]; exact hE)⟩
end
end Jd
namespace Jd
open PySem PySem.Spec PyProof.Rows L2
/-! ### dicts of numbers compared -/
def hitN (ms : List Str) (m u : Str → Nat) : List Str → Bool
  | [] => true
  | n :: r => if n ∈ ms then (decide (m n = u n) && hitN ms m u r) else false
theorem hitN_eq (ms : List Str) (t u : Str → Nat) : ∀ ns : List Str, hitN ms t u ns = decide (∀ n ∈ ns, n ∈ ms ∧ t n = u n)
  | [] => by
    unfold hitN
    exact (decide_eq_true fun n h => by cases h).symm
  | n :: r => by
    unfold hitN
    rw [hitN_eq ms t u r]
    by_cases h : n ∈ ms
    · rw [if_pos h, ← Bool.decide_and]
      refine decide_eq_decide.mpr ⟨fun q m hm => ?_, fun q => ⟨(q n List.mem_cons_self).2, fun m hm => q m (List.mem_cons_of_mem _ hm)⟩⟩
      rcases List.mem_cons.mp hm with rfl | hm
      · exact ⟨h, q.1⟩
      · exact q.2 m hm
    · rw [if_neg h]
      exact (decide_eq_false fun q => h (q n List.mem_cons_self).1).symm
def rEqN : R2 := fun x y H Q => ∃ (a b : Addr) (ns ms : List Str) (m u : Str → Nat), x = .ref a ∧ y = .ref b ∧ H a = some (.dK (kvG ns (numV m))) ∧ H b = some (.dK (kvG ms (numV u))) ∧
  Q (.bl (decide (ns.length = ms.length ∧ ∀ n ∈ ns, n ∈ ms ∧ m n = u n))) H
section
variable {X : Cx} {pins : List (Addr × Obj)} {σ : L2.St} {H : Hp} {s : Shared}
theorem hits_N (I : Inv X pins σ H s) {A0 : Around} (hu : A0.units + 1 < cLine) {ms : List Str} {m u : Str → Nat} {vb : List (Key × Value)} (rb : KV (kvG ms (numV u)) vb) :
    ∀ (ns : List Str) (va : List (Key × Value)), KV (kvG ns (numV m)) va → PySem.W.KeqHitsP X.prog X.w A0 s vb va (hitN ms m u ns)
  | [], va, ra => by
    cases ra
    exact .nil
  | n :: r, va, ra => by
    cases ra with
    | @cons p q ps qs h tl =>
      obtain ⟨key, v⟩ := q
      obtain ⟨h1, h2⟩ := h
      have h1' : (Sum.inr n : Key) = key := h1
      subst h1'
      unfold hitN
      by_cases hm : n ∈ ms
      · rw [if_pos hm]
        have rr : RelO (some (iV (u n))) (valueAt vb (Sum.inr n)) := by
          have q := rb.val (Sum.inr n)
          rw [valV_kvG hm] at q
          exact q
        obtain ⟨y, hy, ry⟩ := rr.some_of
        obtain ⟨as, r1⟩ := Dp.reads I _ _ v (show Dp X.K H (iV (m n)) (.int (m n)) from .int _) h2
        obtain ⟨bs, r2⟩ := Dp.reads I _ _ y (show Dp X.K H (iV (u n)) (.int (u n)) from .int _) ry
        have e := SeqAt.eqAt_reads (.int (m n)) (.int (u n)) A0 s _ _ as bs r1 r2 (by simp [PyData.canLay0]) (by simp [PyData.canLay0])
          (by
            have z1 : (PyData.int (m n)).depth = 0 := by simp [PyData.depth]
            rw [z1]
            have := Nat.min_le_left 0 (PyData.int (u n)).depth
            omega)
        have e2 : PyData.eqv (.int (m n)) (.int (u n)) = decide (m n = u n) := by
          rw [PyData.eqv]
          by_cases h : m n = u n
          · rw [h, decide_eq_true rfl, beq_self_eq_true]
          · rw [decide_eq_false h]
            exact beq_eq_false_iff_ne.mpr fun q => h (by omega)
        rw [e2] at e
        exact .hit hy e.eqP (hits_N I hu rb r qs tl)
      · rw [if_neg hm]
        have rr : RelO none (valueAt vb (Sum.inr n)) := by
          have q := rb.val (Sum.inr n)
          rw [valV_kvGN hm] at q
          exact q
        exact .miss rr.none_of
theorem op_eqN (hu : X.A.units + 64 < cLine) : OpR X (compareOp .Eq) rEqN := by
  intro pins s σ H x y v u Q I rx ry h
  obtain ⟨a, b, ns, ms, m, u', rfl, rfl, ha, hb, q⟩ := h
  cases (show v = Value.ref a from rx)
  cases (show u = Value.ref b from ry)
  obtain ⟨_, ya, va, ra, da⟩ := (show ObjOk X.prog X.w H s.heap a (.dK (kvG ns (numV m))) from I.hok a _ ha)
  obtain ⟨_, yb, vb, rb, db⟩ := (show ObjOk X.prog X.w H s.heap b (.dK (kvG ms (numV u'))) from I.hok b _ hb)
  show wpAny (model X.prog X.w) X.A (richCompare .Eq (.ref a) (.ref b)) (EP X pins σ Q) X.xe s
  refine PySem.W.rcP_dicts (knd := mixKind X.prog X.w) (r := hitN ms m u' ns) ya yb da db (by omega) (fun _ => hits_N I (A0 := X.A.in1) (by show X.A.units + 1 + 1 < cLine; omega) rb ns va ra) _ _ ?_
  have e1 : va.length = ns.length := by rw [← ra.length, kvG_len]
  have e2 : vb.length = ms.length := by rw [← rb.length, kvG_len]
  have e : (va.length == vb.length && hitN ms m u' ns) = decide (ns.length = ms.length ∧ ∀ n ∈ ns, n ∈ ms ∧ m n = u' n) := by
    rw [e1, e2, hitN_eq, Bool.decide_and]
    rfl
  rw [e]
  exact ⟨.bl _, H, I, rfl, q⟩
end
end Jd
/-! x[y], binary operators, <, <= by own defs; what is never run -/
namespace Jd
open PySem PySem.Spec PyProof.Rows L2
section
variable {X : Cx} {CX : CXT} {k : Nat} {C f : Addr} {fd : FuncData} {ps : List Str} {sp : Sp} {E : XK}
theorem cmpBack_of {X : Cx} {pins : List (Addr × Obj)} {σ : L2.St} {Q : VK} {v : Value} {s : Shared} (h : EP X pins σ Q v s) : PySem.W.CmpBack (EP X pins σ Q) v s := by
  obtain ⟨y, H', I', rz, q⟩ := id h
  cases v <;> first | exact h | skip
  cases y with
  | non => cases rz
  | bl _ => cases rz
  | ref _ => cases rz
  | ty _ => cases rz
  | int _ => obtain ⟨t, rz⟩ := rz; cases rz
  | str _ => obtain ⟨t, rz⟩ := rz; cases rz
  | byt _ => obtain ⟨t, rz⟩ := rz; cases rz
  | flt _ => obtain ⟨t, rz⟩ := rz; cases rz
def PlainIxO (b : Expr) : Prop := ∀ o i, subscripted b true o i = runValue (.builtin "lifetime.subscript" ⟨[o, i], []⟩)
def rIxOwn (C : Addr) (sp : Sp) (E : XK) : R2 := fun x y H Q => ∃ a dx fs, x = .ref a ∧ H a = some (.ins C dx fs) ∧ sp [x, y] H Q E
def rBinOwn (K : PySem.W.Frag) (C : Addr) (sp : Sp) (E : XK) : R2 := fun x y H Q => ∃ a dx fs, x = .ref a ∧ H a = some (.ins C dx fs) ∧ TyX K H y (.ref C) ∧ sp [x, y] H Q E
theorem pe_ixOwn {a b : Expr} {ta tb : TE} {pos : Pos} (F : FnOk X.prog X.w X.K X.mg X.base CX k f fd ps sp) (hr : Room (k + 1) X.A) (hs : PySem.W.findIn X.K (.ref C) "__getitem__" = some (some (.ref f)) ∧ PySem.W.isFn X.K (.ref f) = true) (hf : PySem.W.fnIn X.K f = true)
    (hb : Binds X.K fd ps []) (hx : Passes CX X E) (ha : PE X a ta) (he : PE X b tb) (hp : PlainIxO b) : PE X (.Subscript a b pos) (tOp (rIxOwn C sp E) ta tb) := by
  refine ⟨fun pins s σ H Q I h => ?_⟩
  refine Subscript_ (binT ha he I h fun v u s2 x y H2 I2 rx ry q => ?_)
  obtain ⟨p, dx, fs, rfl, hi, hsp⟩ := q
  cases rx
  obtain ⟨mA, J, _⟩ := ins_get I2.hok hi
  obtain ⟨od, J, _⟩ := J.look
  obtain ⟨m, hF⟩ := I2.fr
  exact PySem.W.sub_K hF I2.ok.mod.kin J hs.1 hf hs.2 (own_run X.A.in1 rfl F hr.in1 hb hx I2 (.cons (show RelV (V.ref p) (Value.ref p) from rfl) (.cons ry .nil)) hsp) (hp _ _)
theorem op_binOwn {op : Operator} (F : FnOk X.prog X.w X.K X.mg X.base CX k f fd ps sp) (hr : Room k X.A) (hc : PySem.W.selfFirst X.K C = true) (hs : PySem.W.findIn X.K (.ref C) (PySem.dunder op.info.2) = some (some (.ref f)) ∧ PySem.W.isFn X.K (.ref f) = true)
    (hb : Binds X.K fd ps []) (hx : Passes CX X E) : OpR X (binaryOp op) (rBinOwn X.K C sp E) := by
  intro pins s σ H x y v u Q I rx ry h
  obtain ⟨a, dx, fs, rfl, ha, ht, hsp⟩ := h
  obtain ⟨P, kx, hP, _⟩ := kit_of I ry ht
  cases rx
  obtain ⟨mA, J, _⟩ := ins_get I.hok ha
  obtain ⟨od, J, _⟩ := J.look
  obtain ⟨m, hF⟩ := I.fr
  exact PySem.W.binop_K hF I.ok.mod.kin J (kx.ty _ _ I.kIn hP) hc hs.1 hs.2 (wpAny_mono (own_run X.A rfl F hr hb hx I (.cons (show RelV (V.ref a) (Value.ref a) from rfl) (.cons ry .nil)) hsp) (fun v s' z => cmpBack_of z) fun _ _ x => x)
theorem op_cmpOwn {op : CmpOp} (ho : compareOp op = fun u v => richCompare op u v) (F : FnOk X.prog X.w X.K X.mg X.base CX k f fd ps sp) (hr : Room k X.A) (hs : PySem.W.findIn X.K (.ref C) (cmpInfo op).2.1 = some (some (.ref f)) ∧ PySem.W.isFn X.K (.ref f) = true)
    (hb : Binds X.K fd ps []) (hx : Passes CX X E) : OpR X (compareOp op) (rBinOwn X.K C sp E) := by
  intro pins s σ H x y v u Q I rx ry h
  obtain ⟨a, dx, fs, rfl, ha, ht, hsp⟩ := h
  obtain ⟨P, kx, hP, _⟩ := kit_of I ry ht
  cases rx
  obtain ⟨mA, J, _⟩ := ins_get I.hok ha
  obtain ⟨od, J, _⟩ := J.look
  obtain ⟨m, hF⟩ := I.fr
  rw [ho]
  exact PySem.W.cmp_K (op := op) (tb := .ref C) hr.units0 hF I.ok.mod.kin J (kx.ty _ _ I.kIn hP) (by unfold PySem.W.notFirst; rw [beq_self_eq_true, Bool.true_or]) hs.1 hs.2 (wpAny_mono (own_run X.A rfl F hr hb hx I (.cons (show RelV (V.ref a) (Value.ref a) from rfl) (.cons ry .nil)) hsp) (fun v s' z => cmpBack_of z) fun _ _ x => x)
/-- what is never run -/
theorem pe_no {e : Expr} : PE X e (fun _ _ _ => False) := ⟨fun _ _ _ _ _ _ h => h.elim⟩
end
end Jd
namespace Jd
open PySem PySem.Spec PyProof.Rows L2
/-! ### the Stage -/
abbrev hs (ns : List Str) : List Str := ("#" : Str) :: ns
/-- the numbers of a Stage -/
structure StM (ns : List Str) (t : Str → List Str) (m : Str → Nat) : Prop where
  n0 : ("#" : Str) ∉ ns
  nm : ∀ n ∈ ns, isName (cd n) = true
  dv : ∀ n ∈ hs ns, m n = 0 ∨ m n ∣ MB
  cl : ∀ w ∈ hs ns, m w = 0 → ∀ o ∈ toldAt ns t w, m o = 0
/-- an object of Stage; its dict may stand locked -/
def StageR (K : PySem.W.Frag) (H : Hp) (x kk d : Addr) (ns : List Str) (m : Str → Nat) : Prop := (∃ dx, H x = some (.ins (He.ga K "Stage") dx [("_schema", .ref kk), ("_numbers", .ref d)])) ∧ Rd H d (.dK (kvG (hs ns) (numV m)))
structure StageO (K : PySem.W.Frag) (H : Hp) (x kk d : Addr) (ns : List Str) (t : Str → List Str) (m : Str → Nat) : Prop where
  x : ∃ dx, H x = some (.ins (He.ga K "Stage") dx [("_schema", .ref kk), ("_numbers", .ref d)])
  k : KeysO K H kk ns t
  d : H d = some (.dK (kvG (hs ns) (numV m)))
theorem StageO.r {K : PySem.W.Frag} {H : Hp} {x kk d : Addr} {ns : List Str} {t : Str → List Str} {m : Str → Nat} (h : StageO K H x kk d ns t m) : StageR K H x kk d ns m := ⟨h.x, .inl h.d⟩
theorem StageO.same {K : PySem.W.Frag} {H H' : Hp} {x kk d : Addr} {ns : List Str} {t : Str → List Str} {m : Str → Nat} (h : StageO K H x kk d ns t m) (s : Same H H') : StageO K H' x kk d ns t m := ⟨let ⟨dx, e⟩ := h.x; ⟨dx, s _ _ e⟩, h.k.same s, s _ _ h.d⟩
theorem StageR.same {K : PySem.W.Frag} {H H' : Hp} {x kk d : Addr} {ns : List Str} {m : Str → Nat} (h : StageR K H x kk d ns m) (s : Same H H') : StageR K H' x kk d ns m := ⟨let ⟨dx, e⟩ := h.1; ⟨dx, s _ _ e⟩, h.2.elim (fun e => .inl (s _ _ e)) fun ⟨o, e⟩ => .inr ⟨o, s _ _ e⟩⟩
/-- where any dict is locked -/
theorem StageR.lock {K : PySem.W.Frag} {H : Hp} {x kk d e : Addr} {ns : List Str} {m : Str → Nat} {kvs : List (Key × V)} {od : Obj} (h : StageR K H x kk d ns m) (he : H e = some (.dK kvs)) : StageR K (upd H e (.frz od (.dK kvs))) x kk d ns m := by
  obtain ⟨⟨dx, h1⟩, h2⟩ := h
  refine ⟨⟨dx, by rw [upd_ne (ne_of h1 he (by intro z; cases z))]; exact h1⟩, ?_⟩
  by_cases q : d = e
  · subst q
    rcases h2 with h2 | ⟨o, h2⟩
    · rw [he] at h2
      cases h2
      exact .inr ⟨od, upd_same⟩
    · rw [he] at h2
      cases h2
  · rcases h2 with h2 | ⟨o, h2⟩
    · exact .inl (by rw [upd_ne q]; exact h2)
    · exact .inr ⟨o, by rw [upd_ne q]; exact h2⟩
theorem kvG_congr {ns : List Str} {f g : Str → V} (h : ∀ n ∈ ns, f n = g n) : kvG ns f = kvG ns g := by
  unfold kvG
  exact List.map_congr_left fun n hn => by rw [h n hn]
theorem gd_R {H : Hp} {d : Addr} {ns : List Str} {f : Str → V} {n : Str} (hd : Rd H d (.dK (kvG ns f))) (hn : n ∈ ns) : DGet H d (.str n) (some (f n)) := .inl ⟨_, Sum.inr n, hd, rfl, (valV_kvG hn).symm⟩
theorem gd_RN {H : Hp} {d : Addr} {ns : List Str} {f : Str → V} {n : Str} (hd : Rd H d (.dK (kvG ns f))) (hn : n ∉ ns) : DGet H d (.str n) none := .inl ⟨_, Sum.inr n, hd, rfl, (valV_kvGN hn).symm⟩
theorem KeysO.keepS {K : PySem.W.Frag} {H H' : Hp} {x u : Addr} {ns : List Str} {t : Str → List Str} {C dx : Addr} {fs : List (Str × V)} (h : KeysO K H x ns t) (hu : H u = some (.ins C dx fs)) (hf : ∀ a b, [(("_names" : Str), a), (("_told" : Str), b)] ≠ fs) (s : KeepX u H H') : KeysO K H' x ns t := by
  obtain ⟨dx0, tn, d, A, h1, h2, h3, h4, h5⟩ := h
  refine ⟨dx0, tn, d, A, s _ _ (ne_of h1 hu ?_) h1, s _ _ (ne_of h2 hu (by intro z; cases z)) h2, s _ _ (ne_of h3 hu (by intro z; cases z)) h3, fun n hn => s _ _ (ne_of (h4 n hn) hu (by intro z; cases z)) (h4 n hn), h5⟩
  intro z
  injection z with _ _ z
  exact hf _ _ z
theorem nf_self {K : PySem.W.Frag} {C : Addr} : PySem.W.notFirst K C (.ref C) = true := by
  unfold PySem.W.notFirst
  rw [beq_self_eq_true, Bool.true_or]
def spSI (K : PySem.W.Frag) : Sp := fun vs H Q _ => ∃ (x dx kk f : Addr) (ns zs : List Str) (t : Str → List Str), vs = [.ref x, .ref kk, .ref f] ∧ H x = some (.ins (He.ga K "Stage") dx []) ∧ KeysO K H kk ns t ∧ ("#" : Str) ∉ ns ∧ Sq K H f (zs.map V.str) ∧ zs.length ≤ 100 ∧ (∀ z ∈ zs, FldOk (hs ns) z) ∧
  ∀ H' d, KeepX x H H' → StageO K H' x kk d ns t (closeM ns t (joinS zs)) → Q .non H'
def spGet (K : PySem.W.Frag) : Sp := fun vs H Q E => ∃ (x kk d : Addr) (z : Str) (ns : List Str) (m : Str → Nat), vs = [.ref x, .str z] ∧ StageR K H x kk d ns m ∧ (z ∈ hs ns → Q (iV (m z)) H) ∧
  (z ∉ hs ns → ∀ H' d, Same H H' → H' d = some (.xd [("name", .str z)]) → E (.ref (He.ga K "NoName")) (some d) H')
def spSch (K : PySem.W.Frag) : Sp := fun vs H Q _ => ∃ (x kk d : Addr) (ns : List Str) (m : Str → Nat), vs = [.ref x] ∧ StageR K H x kk d ns m ∧ Q (.ref kk) H
def dvB (a b : Nat) : Bool := decide (a ∣ b)
def spDv : Sp := fun vs H Q _ => ∃ a b : Nat, vs = [iV a, iV b] ∧ a < 2 ^ 60 ∧ b < 2 ^ 60 ∧ Q (.bl (decide (a ∣ b))) H
def spEqS (K : PySem.W.Frag) : Sp := fun vs H Q _ => ∃ (x y kx ky dx dy : Addr) (ns ms : List Str) (t u : Str → List Str) (m m' : Str → Nat), vs = [.ref x, .ref y] ∧ StageO K H x kx dx ns t m ∧
  ((StageO K H y ky dy ms u m' ∧ Q (.bl (decide (ns.length = ms.length ∧ ∀ n ∈ ns, n ∈ ms ∧ t n = u n) && decide ((hs ns).length = (hs ms).length ∧ ∀ n ∈ hs ns, n ∈ hs ms ∧ m n = m' n))) H) ∨ ((∃ xs, H y = some (.tup xs)) ∧ Q (.bl false) H))
section
variable {P : Program} {w : World} {K : PySem.W.Frag} {mg : Str → Option Value} {base : Heap}
theorem sc_si : FnScope ["self", "keys", "fields"] ["self", "keys", "fields"] (defScope s_Stage___init__) := ⟨rfl, rfl, rfl, by decide +kernel, rfl, by decide +kernel, by decide +kernel⟩
theorem ok_Stage_init (B : Bk K mg) : ∃ fd, FnOk P w K mg base CX0 6 (He.ma K (He.ga K "Stage") "__init__") fd ["self", "keys", "fields"] (spSI K) ∧ Binds K fd ["self", "keys", "fields"] [] := by
  obtain ⟨fd, F⟩ := B.F_Stage___init
  obtain ⟨fdJ, GJ, bJ⟩ := (ok_joined (P := P) (w := w) (base := base) B).ex
  have kJ := (ok_joined (P := P) (w := w) (base := base) B).kp
  obtain ⟨fdC, GC, bC⟩ := (ok_closed (P := P) (w := w) (base := base) B).ex
  have kC := (ok_closed (P := P) (w := w) (base := base) B).kp
  refine ⟨fd, ?_, F.binds fun _ _ _ _ _ _ us hl => match us, hl with | [_, _, _], _ => rfl⟩
  refine F.ok sc_si (fun vs H Q E h => ?_) (fun cdv A outer s H vs Q E hr h => ?_)
  · obtain ⟨_, _, _, _, _, _, _, rfl, _⟩ := h
    rfl
  · obtain ⟨x, dx, kk, f, ns, zs, t, rfl, hx, ko, n0, hf, l100, hz, k⟩ := h
    have hr4 : Room 4 _ := hr.mono (by decide)
    refine ⟨_, pss_cons (ps_fld (pv 0) (pv 1) rfl)
      (pss_one (ps_fld (pv 0) (pe_call GC hr rfl B.g_closed kC bC .nil pass0 (pa_cons (pv 1) (pa_cons (pe_call GJ hr4 rfl B.g_joined kJ bJ .nil pass0 (pa_cons (pv 1) (pa_cons (pv 2) pa_nil))) pa_nil))) rfl)), ?_⟩
    refine ⟨_, rfl, _, rfl, x, _, dx, [], rfl, hx, B.cl_Stage, B.no_Stage__schema, by decide, ?_⟩
    have ep : putF ("_schema" : Str) (V.ref kk) [] = [(("_schema" : Str), V.ref kk)] := rfl
    rw [ep]
    have kp : KeepX x H (upd H x (.ins (He.ga K "Stage") dx [("_schema", .ref kk)])) := fun b o n q => by
      rw [upd_ne n]
      exact q
    have ko1 := ko.keepS hx (by intro a b z; cases z) kp
    have hf1 := hf.keep hx kp
    have hx1 : (upd H x (.ins (He.ga K "Stage") dx [("_schema", .ref kk)])) x = some (.ins (He.ga K "Stage") dx [("_schema", .ref kk)]) := upd_same
    generalize (upd H x (.ins (He.ga K "Stage") dx [("_schema", .ref kk)])) = H1 at kp ko1 hf1 hx1
    refine ⟨_, rfl, _, rfl, _, rfl, kk, f, ns, zs, t, rfl, ko1, n0, hf1, l100, hz, fun H2 d2 s2 hd2 => ?_⟩
    refine ⟨kk, d2, ns, t, joinS zs, rfl, ko1.same s2, n0, hd2, fun H3 r s3 hr3 => ?_⟩
    have s13 := s2.trans s3
    have hx3 := s13 _ _ hx1
    refine ⟨_, rfl, x, _, dx, _, rfl, hx3, B.cl_Stage, B.no_Stage__numbers, (by show 1 < 1000; decide), ?_⟩
    have ep : putF ("_numbers" : Str) (V.ref r) [(("_schema" : Str), V.ref kk)] = [(("_schema" : Str), V.ref kk), (("_numbers" : Str), V.ref r)] := rfl
    rw [ep]
    refine k _ r (fun b o n q => ?_) ⟨⟨dx, upd_same⟩, ?_, ?_⟩
    · rw [upd_ne n]
      exact s13 _ _ (kp _ _ n q)
    · exact (ko1.same s13).keepS hx3 (by intro a b z; cases z) fun b o n q => by rw [upd_ne n]; exact q
    · rw [upd_ne (ne_of hr3 hx3 (by intro z; cases z))]
      exact hr3
theorem sc_sg : FnScope ["self", "name"] ["self", "name"] (defScope s_Stage___getitem__) := ⟨rfl, rfl, rfl, by decide +kernel, rfl, by decide +kernel, by decide +kernel⟩
theorem ok_get (B : Bk K mg) : ∃ fd, FnOk P w K mg base (L2.CX P w) 3 (He.ma K (He.ga K "Stage") "__getitem__") fd ["self", "name"] (spGet K) ∧ Binds K fd ["self", "name"] [] := by
  obtain ⟨fd, F⟩ := B.F_Stage___getitem
  obtain ⟨fdE, GE, bE⟩ := ok_nn (P := P) (w := w) (base := base) B
  obtain ⟨lxc, li, lt⟩ := B.lx_NoName
  refine ⟨fd, ?_, F.binds fun _ _ _ _ _ _ us hl => match us, hl with | [_, _], _ => rfl⟩
  refine F.okX sc_sg (fun vs H Q E h => ?_) (fun cdv A outer s H vs Q E hr h => ?_)
  · obtain ⟨_, _, _, _, _, _, rfl, _⟩ := h
    rfl
  · obtain ⟨x, kk, d, z, ns, m, rfl, ⟨⟨dx, hx⟩, hd⟩, k, kE⟩ := h
    have hu := hu_of hr
    refine ⟨_, pss_cons (ps_if (pt_cmp (pc_dnotin hu (pv 1) (pe_fld (pv 0) rfl)))
      (pss_one (ps_raise rfl (takes_of rfl rfl rfl rfl) (pmk_lex lxc li lt GE hr bE .nil pass0 (by rfl) B.g_NoName (pa_cons (pv 1) pa_nil)))) pss_nil)
      (pss_one (ps_ret (pe_dget hu (pe_fld (pv 0) rfl) (pv 1) (fun _ _ => rfl)))), ?_⟩
    by_cases hz : z ∈ hs ns
    · refine ⟨_, rfl, _, rfl, x, _, dx, _, _, rfl, hx, B.cl_Stage, B.no_Stage__numbers, rfl, d, _, rfl, gd_R hd hz, _, rfl, iteF ?_⟩
      exact ⟨_, rfl, x, _, dx, _, _, rfl, hx, B.cl_Stage, B.no_Stage__numbers, rfl, _, rfl, d, _, rfl, gd_R hd hz, k hz⟩
    · refine ⟨_, rfl, _, rfl, x, _, dx, _, _, rfl, hx, B.cl_Stage, B.no_Stage__numbers, rfl, d, _, rfl, gd_RN hd hz, _, rfl, iteT ?_⟩
      exact rd_nn rfl (kE hz)
theorem sc_sh : FnScope ["self"] ["self"] (defScope s_Stage_p_schema) := ⟨rfl, rfl, rfl, by decide +kernel, rfl, by decide +kernel, by decide +kernel⟩
theorem ok_schema (B : Bk K mg) : ∃ fd, FnOk P w K mg base CX0 1 (propG K "Stage" "schema") fd ["self"] (spSch K) ∧ Binds K fd ["self"] [] := by
  obtain ⟨fd, F⟩ := B.F_Stage_p_schema
  refine ⟨fd, ?_, F.binds fun _ _ _ _ _ _ us hl => match us, hl with | [_], _ => rfl⟩
  refine F.ok sc_sh (fun vs H Q E h => ?_) (fun cdv A outer s H vs Q E hr h => ?_)
  · obtain ⟨_, _, _, _, _, rfl, _⟩ := h
    rfl
  · obtain ⟨x, kk, d, ns, m, rfl, ⟨⟨dx, hx⟩, hd⟩, k⟩ := h
    refine ⟨_, pss_one (ps_ret (pe_fld (pv 0) rfl)), ?_⟩
    exact ⟨_, rfl, x, _, dx, _, _, rfl, hx, B.cl_Stage, B.no_Stage__schema, rfl, k⟩
theorem sc_dv : FnScope ["m", "number"] ["m", "number"] (defScope s__divides) := ⟨rfl, rfl, rfl, by decide +kernel, rfl, by decide +kernel, by decide +kernel⟩
theorem ok_divides (B : Bk K mg) : Df P w K mg base CX0 1 "_divides" ["m", "number"] spDv := by
  obtain ⟨fd, F⟩ := B.F_divides
  refine ⟨⟨fd, ?_, F.binds fun _ _ _ _ _ _ us hl => match us, hl with | [_, _], _ => rfl⟩, B.g_divides, F.kp⟩
  refine F.ok sc_dv (fun vs H Q E h => ?_) (fun cdv A outer s H vs Q E hr h => ?_)
  · obtain ⟨_, _, rfl, _⟩ := h
    rfl
  · obtain ⟨a, b, rfl, ha, hb, k⟩ := h
    refine ⟨_, pss_one (ps_ret (pe_or (pe_cmpR op_eq (pv 1) pe_int (nomark _)) (pe_one (pe_and (pe_cmpR op_ne (pv 0) pe_int (nomark _)) (pe_one (pe_cmpR op_eq (pe_op op_mod (pv 1) (pv 0)) pe_int (nomark _))))))), ?_⟩
    refine ⟨_, rfl, rfl, _, rfl, two (fun h1 => ?_) (fun h1 => ?_)⟩
    · have e : b = 0 := by
        have q := V.int.inj (of_decide_eq_true h1)
        omega
      subst e
      rw [decide_eq_true (Nat.dvd_zero a)] at k
      exact k
    · have e : b ≠ 0 := fun q => of_decide_eq_false h1 (by rw [q]; rfl)
      refine ⟨_, rfl, rfl, _, rfl, two (fun h2 => ?_) (fun h2 => ?_)⟩
      · have e2 : a ≠ 0 := fun q => by
          subst q
          have z : (!decide (V.int ((0 : Nat) : Int) = V.int 0)) = true := h2
          rw [decide_eq_true (show V.int ((0 : Nat) : Int) = V.int 0 from rfl)] at z
          cases z
        refine ⟨_, rfl, _, rfl, (b : Int), (a : Int), rfl, rfl, by omega, rfl, ?_⟩
        have q : decide (V.int ((b : Int) % (a : Int)) = V.int 0) = decide (a ∣ b) := decide_eq_decide.mpr ⟨fun z => by
          have z2 := V.int.inj z
          exact Nat.dvd_of_mod_eq_zero (by omega), fun z => by
          have z2 := Nat.mod_eq_zero_of_dvd z
          congr 1
          omega⟩
        show Q (.bl (decide (V.int ((b : Int) % (a : Int)) = V.int 0))) H
        rw [q]
        exact k
      · have e2 : a = 0 := by
          have z : (!decide (V.int (a : Int) = V.int 0)) = false := h2
          by_cases q : a = 0
          · exact q
          · rw [decide_eq_false fun y => q (by have := V.int.inj y; omega)] at z
            cases z
        subst e2
        rw [decide_eq_false fun z => e (Nat.eq_zero_of_zero_dvd z)] at k
        exact k
theorem sc_qs : FnScope ["self", "other"] ["self", "other"] (defScope s_Stage___eq__) := ⟨rfl, rfl, rfl, by decide +kernel, rfl, by decide +kernel, by decide +kernel⟩
theorem ok_eqS (B : Bk K mg) : ∃ fd, FnOk P w K mg base CX0 2 (He.ma K (He.ga K "Stage") "__eq__") fd ["self", "other"] (spEqS K) ∧ Binds K fd ["self", "other"] [] := by
  obtain ⟨fd, F⟩ := B.F_Stage___eq
  obtain ⟨fdK, GK, bK⟩ := ok_eqK (P := P) (w := w) (base := base) B
  refine ⟨fd, ?_, F.binds fun _ _ _ _ _ _ us hl => match us, hl with | [_, _], _ => rfl⟩
  refine F.ok sc_qs (fun vs H Q E h => ?_) (fun cdv A outer s H vs Q E hr h => ?_)
  · obtain ⟨_, _, _, _, _, _, _, _, _, _, _, _, rfl, _⟩ := h
    rfl
  · obtain ⟨x, y, kx, ky, dx, dy, ns, ms, t, u, m, m', rfl, so, h⟩ := h
    refine ⟨_, pss_one (ps_ret (pe_and (pe_callB call_isi (by rfl) B.b_isinstance (by decide +kernel) (pa_cons (pv 1) (pa_cons (pe_glob (v := .ref (He.ga K "Stage")) rfl B.g_Stage rfl) pa_nil)))
      (pe_and (pe_cmpR (op_eqOwn GK hr B.sp_Keys_eq.1 B.sp_Keys_eq.2 bK pass0) (pe_fld (pv 0) rfl) (pe_fld (pv 1) rfl) (nomark _))
      (pe_one (pe_cmpR (op_eqN hr.units) (pe_fld (pv 0) rfl) (pe_fld (pv 1) rfl) (nomark _)))))), ?_⟩
    obtain ⟨⟨ax, hx⟩, ko, hd⟩ := so
    rcases h with ⟨⟨⟨ay, hy⟩, ko', hd'⟩, k⟩ | ⟨⟨xs, hy⟩, k⟩
    · obtain ⟨ha, hn, htk, hmo⟩ := B.ty_Stage
      obtain ⟨hka, hkn, hkt, hkm⟩ := B.ty_Keys
      refine ⟨_, rfl, _, _, _, _, _, rfl, .own _, .base (.ins hy B.cl_Stage ha hn htk hmo), B.kit_Stage_Stage, _, rfl, iteT ?_⟩
      obtain ⟨d1, _, _, _, hk1, _⟩ := id ko
      obtain ⟨d2, _, _, _, hk2, _⟩ := id ko'
      refine ⟨_, rfl, x, _, ax, _, _, rfl, hx, B.cl_Stage, B.no_Stage__schema, rfl, _, rfl, y, _, ay, _, _, rfl, hy, B.cl_Stage, B.no_Stage__schema, rfl, ?_⟩
      refine ⟨kx, d1, _, _, rfl, hk1, .base (.ins hk2 B.cl_Keys hka hkn hkt hkm), nf_self, kx, ky, ns, t, rfl, ko, .inl ⟨ms, u, ko', _, rfl, _, rfl, two (fun h1 => ?_) (fun h1 => ?_)⟩⟩
      · rw [h1, Bool.true_and] at k
        exact ⟨_, rfl, x, _, ax, _, _, rfl, hx, B.cl_Stage, B.no_Stage__numbers, rfl, _, rfl, y, _, ay, _, _, rfl, hy, B.cl_Stage, B.no_Stage__numbers, rfl, dx, dy, _, _, m, m', rfl, rfl, hd, hd', k⟩
      · rw [h1, Bool.false_and] at k
        exact k
    · exact ⟨_, rfl, _, _, _, _, _, rfl, .own _, .base (.tup hy), B.kit_tuple_Stage, _, rfl, iteF k⟩
end
end Jd
namespace Jd
open PySem PySem.Spec PyProof.Rows L2
/-! ### the law's numbers -/
def spGcd : Sp := fun vs H Q _ => ∃ a b : Nat, vs = [iV a, iV b] ∧ Q (iV (Nat.gcd a b)) H
def spLcm : Sp := fun vs H Q _ => ∃ a b : Nat, vs = [iV a, iV b] ∧ a ≤ MB ∧ b ≤ MB ∧ Q (iV (Nat.lcm a b)) H
theorem dv_le {n : Nat} (h : n = 0 ∨ n ∣ MB) : n ≤ MB := h.elim (fun e => e ▸ Nat.zero_le _) fun h => Nat.le_of_dvd (by decide) h
section
variable {P : Program} {w : World} {K : PySem.W.Frag} {mg : Str → Option Value} {base : Heap}
abbrev NG : List Str := ["_law_one_so", "_law_far_so"]
theorem sc_gc : FnScope NG NG (defScope s__law_gcd) := ⟨rfl, rfl, rfl, by decide +kernel, rfl, by decide +kernel, by decide +kernel⟩
theorem ok_gcdL (B : Bk K mg) : Df P w K mg base CX0 1 "_law_gcd" NG spGcd := by
  obtain ⟨fd, F⟩ := B.F_law_gcd
  refine ⟨⟨fd, ?_, F.binds fun _ _ _ _ _ _ us hl => match us, hl with | [_, _], _ => rfl⟩, B.g_law_gcd, F.kp⟩
  refine F.ok sc_gc (fun vs H Q E h => ?_) (fun cdv A outer s H vs Q E hr h => ?_)
  · obtain ⟨_, _, rfl, _⟩ := h
    rfl
  · obtain ⟨a, b, rfl, k⟩ := h
    refine ⟨_, pss_cons (ps_while PassesOwn.never (pt_cmpR op_ne (pv 1) pe_int (nomark _))
        (pss_one (ps_par (i := 0) (j := 1) (by rfl) sc_gc.nd rfl rfl (by decide) rfl rfl (pa_cons (pv 1) (pa_cons (pe_op op_mod (pe_callTy call_int1 (by rfl) B.b_int (by decide +kernel) (pa_cons (pv 0) pa_nil)) (pv 1)) pa_nil)) (by rfl))))
      (pss_one (ps_ret (pv 0))), ?_⟩
    refine ⟨fun m σ H' => ∃ x y : Nat, m = y ∧ σ = [some (iV x), some (iV y)] ∧ H' = H ∧ Nat.gcd x y = Nat.gcd a b, ⟨b, a, b, rfl, rfl, rfl, rfl⟩, ?_⟩
    rintro m σ H1 ⟨x, y, rfl, rfl, rfl, e⟩
    refine ⟨_, rfl, rfl, _, rfl, two (fun h1 => ?_) (fun h1 => ?_)⟩
    · have y0 : m ≠ 0 := fun q => by
        have z : (!decide (V.int ((m : Nat) : Int) = V.int 0)) = true := h1
        subst q
        rw [decide_eq_true (show V.int ((0 : Nat) : Int) = V.int 0 from rfl)] at z
        cases z
      have mp : 0 < m := Nat.pos_of_ne_zero y0
      refine ⟨fun σ' H' => ∃ x' y' : Nat, y' < m ∧ σ' = [some (iV x'), some (iV y')] ∧ H' = H1 ∧ Nat.gcd x' y' = Nat.gcd a b, fun σ' H' ⟨x', y', l, q⟩ => ⟨y', l, x', y', rfl, q⟩, ?_⟩
      refine ⟨_, rfl, _, rfl, .inl ⟨_, rfl, _, rfl, _, _, rfl, rfl, (by show (0 : Int) < (m : Int); omega), _, _, rfl, m, x % m, Nat.mod_lt _ mp, rfl, rfl, ?_⟩⟩
      rw [← e, Nat.gcd_comm x m, Nat.gcd_rec m x, Nat.gcd_comm]
    · have y0 : m = 0 := by
        have z : (!decide (V.int ((m : Nat) : Int) = V.int 0)) = false := h1
        by_cases q : m = 0
        · exact q
        · rw [decide_eq_false fun e => q (by have := V.int.inj e; omega)] at z
          cases z
      subst y0
      rw [Nat.gcd_zero_right] at e
      subst e
      exact ⟨_, rfl, k⟩
theorem sc_lm : FnScope NG NG (defScope s__law_lcm) := ⟨rfl, rfl, rfl, by decide +kernel, rfl, by decide +kernel, by decide +kernel⟩
theorem ok_lcmL (B : Bk K mg) : Df P w K mg base CX0 2 "_law_lcm" NG spLcm := by
  obtain ⟨fd, F⟩ := B.F_law_lcm
  obtain ⟨fdG, GG, bG⟩ := (ok_gcdL (P := P) (w := w) (base := base) B).ex
  have kG := (ok_gcdL (P := P) (w := w) (base := base) B).kp
  refine ⟨⟨fd, ?_, F.binds fun _ _ _ _ _ _ us hl => match us, hl with | [_, _], _ => rfl⟩, B.g_law_lcm, F.kp⟩
  refine F.ok sc_lm (fun vs H Q E h => ?_) (fun cdv A outer s H vs Q E hr h => ?_)
  · obtain ⟨_, _, rfl, _⟩ := h
    rfl
  · obtain ⟨a, b, rfl, ha, hb, k⟩ := h
    refine ⟨_, pss_one (ps_ret (pe_ifExp (PW.pt (pw_or (pt_cmpR op_eq (pv 0) pe_int (nomark _)) (pw_or1 (pt_cmpR op_eq (pv 1) pe_int (nomark _))))) pe_int
      (pe_op op_fdiv (pe_op op_mul (pv 0) (pv 1)) (pe_call GG hr rfl B.g_law_gcd kG bG .nil pass0 (pa_cons (pv 0) (pa_cons (pv 1) pa_nil)))))), ?_⟩
    have mb : MB = 441000000 := rfl
    refine ⟨_, rfl, rfl, _, rfl, two (fun h1 => ?_) (fun h1 => ?_)⟩
    · have e : a = 0 := by
        have q := V.int.inj (of_decide_eq_true h1)
        omega
      subst e
      rw [Nat.lcm_zero_left] at k
      exact iteT k
    · have e : a ≠ 0 := fun q => of_decide_eq_false h1 (by rw [q]; rfl)
      refine ⟨_, rfl, rfl, _, rfl, two (fun h2 => ?_) (fun h2 => ?_)⟩
      · have e2 : b = 0 := by
          have q := V.int.inj (of_decide_eq_true h2)
          omega
        subst e2
        rw [Nat.lcm_zero_right] at k
        exact k
      · have e2 : b ≠ 0 := fun q => of_decide_eq_false h2 (by rw [q]; rfl)
        have g0 : 0 < Nat.gcd a b := Nat.gcd_pos_of_pos_left _ (Nat.pos_of_ne_zero e)
        have gl : Nat.gcd a b ≤ a := Nat.le_of_dvd (Nat.pos_of_ne_zero e) (Nat.gcd_dvd_left a b)
        refine ⟨_, rfl, _, rfl, _, _, rfl, rfl, .inl ⟨by omega, by omega⟩, _, rfl, _, rfl, a, b, rfl, _, _, rfl, rfl, ⟨by omega, by omega⟩, ?_⟩
        have q : ((a : Int) * (b : Int)) / ((Nat.gcd a b : Nat) : Int) = ((Nat.lcm a b : Nat) : Int) := by
          unfold Nat.lcm
          rw [← Int.natCast_mul, ← Int.natCast_ediv]
        show Q (.int (((a : Int) * (b : Int)) / ((Nat.gcd a b : Nat) : Int))) H
        rw [q]
        exact k
end
end Jd
namespace Jd
open PySem PySem.Spec PyProof.Rows L2
/-! ### what right asks of Keys -/
theorem via_perm {R R' : List (Str × Str)} (h : ∀ p, p ∈ R' ↔ p ∈ R) {M : List Str} {a b : Str} (v : Via R' M a b) : Via R M a b := by
  induction v with
  | one q => exact .one ((h _).mp q)
  | two _ m _ ih1 ih2 => exact .two ih1 m ih2
theorem told_perm {R R' : List (Str × Str)} (h : R'.Perm R) (ns : List Str) : toldOf R' ns = toldOf R ns := by
  funext n
  unfold toldOf
  refine List.filter_congr fun b _ => decide_eq_decide.mpr ?_
  rw [close_in, close_in]
  exact ⟨via_perm fun p => h.mem_iff, via_perm fun p => h.mem_iff.symm⟩
theorem txAdd_nd {xs : List Str} {x : Str} (h : xs.Nodup) : (txAdd xs x).Nodup := by
  unfold txAdd
  split
  · exact h
  · rename_i q
    exact List.nodup_cons.mpr ⟨q, h⟩
theorem txAll_nd0 : ∀ (xs acc : List Str), acc.Nodup → (xs.foldl txAdd acc).Nodup
  | [], _, h => h
  | x :: r, acc, h => txAll_nd0 r _ (txAdd_nd h)
theorem perm_of_nd {l m : List Str} (hl : l.Nodup) (hm : m.Nodup) (h : ∀ z, z ∈ l ↔ z ∈ m) : l.Perm m := by
  rw [List.perm_iff_count]
  intro a
  rw [hl.count, hm.count]
  by_cases q : a ∈ l
  · rw [if_pos q, if_pos ((h a).mp q)]
  · rw [if_neg q, if_neg fun z => q ((h a).mpr z)]
theorem names_one {names ns : List Str} (nd : ns.Nodup) (so : sortedS ns = true) (h : ∀ z, z ∈ names ↔ z ∈ ns) : ∀ ns' : List Str, ns'.Perm (txAll names) → sortedS ns' = true → ns' = ns := fun ns' pm so' => by
  refine sorted_one (pm.trans (perm_of_nd (txAll_nd0 names [] List.nodup_nil) nd fun z => ?_)) so' so
  rw [← h z]
  have q := txAll_in names [] z
  exact ⟨fun e => (q.mp e).resolve_right List.not_mem_nil, fun e => q.mpr (.inl e)⟩
theorem names_len {names ns : List Str} (nd : ns.Nodup) (h : ∀ z, z ∈ names ↔ z ∈ ns) : (txAll names).length = ns.length := by
  refine (perm_of_nd (txAll_nd0 names [] List.nodup_nil) nd fun z => ?_).length_eq
  rw [← h z]
  have q := txAll_in names [] z
  exact ⟨fun e => (q.mp e).resolve_right List.not_mem_nil, fun e => q.mpr (.inl e)⟩
theorem pr_to {H : Hp} : ∀ {qs : List Addr} {prs : List (Str × Str)}, PrAt H qs prs → Paired (fun q (pr : Str × Str) => H q = some (.tup [.str pr.1, .str pr.2])) qs prs
  | [], [], _ => .nil
  | [], _ :: _, h => by
    have := h.1
    cases this
  | _ :: _, [], h => by
    have := h.1
    cases this
  | q :: qs, pr :: prs, h => by
    refine .cons ?_ (pr_to ⟨by have := h.1; simpa using this, fun i p hp => h.2 (i + 1) p hp⟩)
    obtain ⟨pr', e, z⟩ := h.2 0 q rfl
    cases e
    exact z
theorem paired_perm {α β : Type} {F : α → β → Prop} {zs qs : List α} (pm : zs.Perm qs) : ∀ {R : List β}, Paired F qs R → ∃ R' : List β, R'.Perm R ∧ Paired F zs R' := by
  induction pm with
  | nil => intro R h; cases h; exact ⟨[], .nil, .nil⟩
  | cons x _ ih =>
    intro R h
    cases h with
    | cons a b =>
      obtain ⟨R', p, q⟩ := ih b
      exact ⟨_ :: R', p.cons _, .cons a q⟩
  | swap x y l =>
    intro R h
    cases h with
    | cons a b =>
      cases b with
      | cons c d => exact ⟨_, List.Perm.swap _ _ _, .cons c (.cons a d)⟩
  | trans _ _ ih1 ih2 =>
    intro R h
    obtain ⟨R1, p1, q1⟩ := ih2 h
    obtain ⟨R2, p2, q2⟩ := ih1 q1
    exact ⟨R2, p2.trans p1, q2⟩
theorem KeysO.congr {K : PySem.W.Frag} {H : Hp} {x : Addr} {ns : List Str} {t t' : Str → List Str} (h : KeysO K H x ns t) (e : t = t') : KeysO K H x ns t' := e ▸ h
theorem pool_ok : ∀ z ∈ pool7, PyData.strOk z = true := by decide +kernel
theorem noq : ("q" : Str) ∉ pool7 := by decide +kernel
theorem noh : ("#" : Str) ∉ pool7 := by decide +kernel
theorem nob : ("b" : Str) ∉ pool7 := by decide +kernel
theorem told_nil (ns : List Str) (n : Str) : toldOf [] ns n = [] := by
  unfold toldOf
  rw [List.filter_eq_nil_iff]
  intro b _ h
  have v := close_in.mp (of_decide_eq_true h)
  have key : ∀ {a b : Str}, Via ([] : List (Str × Str)) ns a b → False := by
    intro a b v
    induction v with
    | one q => cases q
    | two _ _ _ ih1 _ => exact ih1
  exact key v
theorem noring_of {R : List (Str × Str)} {ns M : List Str} (h : ∃ rk : Str → Nat, (∀ p ∈ R, rk p.1 < rk p.2) ∧ ∀ p ∈ R, rk p.2 ≤ M.length) : ∀ n ∈ ns, n ∉ toldOf R ns n := fun n _ q => by
  obtain ⟨rk, h1, _⟩ := h
  exact no_ring h1 n (told_in.mp q).2
theorem atI_zero {x : V} {xs : List V} : atI (x :: xs) 0 = some x := by
  have e : ixN (x :: xs).length 0 = some 0 := by
    unfold ixN
    rw [if_pos (Int.le_refl 0), if_pos (by rw [List.length_cons]; omega)]
    rfl
  unfold atI
  rw [e]
  rfl
theorem pairs_mem {ns : List Str} {t : Str → List Str} {p : Str × Str} (h : p ∈ pairsOf ns t) : p.1 ∈ ns ∧ p.2 ∈ t p.1 := by
  unfold pairsOf at h
  obtain ⟨n, hn, h⟩ := List.mem_flatMap.mp h
  obtain ⟨o, ho, rfl⟩ := List.mem_map.mp h
  exact ⟨hn, ho⟩
end Jd
namespace Jd
open PySem PySem.Spec PyProof.Rows L2
/-! ### a drawn FIELD -/
def parts15 : List Nat := [0, 0, 0, 2, 3, 4, 5, 6, 8, 9, 12, 18, 30, 49, 1000000]
theorem parts_ok : ∀ p ∈ parts15, p = 0 ∨ (p ∣ MB ∧ 2 ≤ p) := by decide +kernel
/-- a FIELD of the law's -/
def FldL (ns : List Str) (z : Str) : Prop := ∃ o p, o ∈ hs ns ∧ p ∈ parts15 ∧ cd z = if p = 0 then cd o else cd o ++ 47 :: TL.numL p
def spFl : Sp := fun vs H Q _ => ∃ (u f : Addr) (n : Nat) (ns : List Str), vs = [.ref u, .ref f] ∧ Urn H u n ∧ n < 90000 ∧ H f = some (.tup (ns.map V.str)) ∧ 1 ≤ ns.length ∧ ns.length ≤ 5 ∧ (∀ z ∈ ns, isName (cd z) = true) ∧
  ∀ H' z, Urn H' u (n + 3) → Keep u H H' → FldL ns z → Q (.str z) H'
theorem fld_ok {ks : List Str} {z o : Str} {p : Nat} (hz : cd z = if p = 0 then cd o else cd o ++ 47 :: TL.numL p) (ho : OwnF o) (hk : o ∈ ks) (hp : p = 0 ∨ (p ∣ MB ∧ 2 ≤ p)) : FldOk ks z := by
  rcases hp with rfl | ⟨hp, h2⟩
  · have e : z = fldT o 0 := cd_ext (by rw [hz, if_pos rfl]; unfold fldT; rw [if_pos rfl])
    obtain ⟨f1, f2, f3, f4⟩ := fld_facts ho (n := 0) (.inl rfl)
    rw [← e] at f1 f2 f3 f4
    have f5 : fnum z = 0 := by
      unfold fnum
      rw [f3]
      rfl
    exact ⟨f1, Nat.le_trans f4 (by decide), by rw [f2]; exact hk, by rw [f5]; exact f3, .inl f5⟩
  · have N := num_facts hp h2
    have e : z = fldT o p := cd_ext (by
      unfold fldT
      rw [hz, if_neg (by omega), if_neg (by omega), cd_ftext o p N.dig, cd_dec])
    subst e
    obtain ⟨f1, f2, f3, f4⟩ := fld_facts ho (n := p) (.inr ⟨hp, h2⟩)
    have f5 : fnum (fldT o p) = p := by
      unfold fnum
      rw [f3]
      rfl
    exact ⟨f1, Nat.le_trans f4 (by decide), by rw [f2]; exact hk, by rw [f5]; exact f3, .inr (by rw [f5]; exact hp)⟩
theorem FldL.ok {ns : List Str} {z : Str} (h : FldL ns z) (hn : ∀ o ∈ ns, isName (cd o) = true) : FldOk (hs ns) z := by
  obtain ⟨o, p, ho, hp, hz⟩ := h
  exact fld_ok hz ((List.mem_cons.mp ho).elim (fun e => e ▸ own_hash) fun q => own_name (hn o q)) ho (parts_ok p hp)
section
variable {P : Program} {w : World} {K : PySem.W.Frag} {mg : Str → Option Value} {base : Heap}
theorem sc_lof : FnScope ["_law_urn", "_law_some_so"] ["_law_urn", "_law_some_so"] (defScope s__law_of) := ⟨rfl, rfl, rfl, by decide +kernel, rfl, by decide +kernel, by decide +kernel⟩
theorem ok_ofL (B : Bk K mg) : Df P w K mg base CX0 2 "_law_of" ["_law_urn", "_law_some_so"] (spOf K) := by
  obtain ⟨fd, F⟩ := B.F_law_of
  obtain ⟨fdT, GT, bT⟩ := (ok_law_take (P := P) (w := w) (base := base) B).ex
  have kT := (ok_law_take (P := P) (w := w) (base := base) B).kp
  refine ⟨⟨fd, ?_, F.binds fun _ _ _ _ _ _ us hl => match us, hl with | [_, _], _ => rfl⟩, B.g_law_of, F.kp⟩
  refine F.ok sc_lof (fun vs H Q E h => ?_) (fun cdv A outer s H vs Q E hr h => ?_)
  · obtain ⟨u, lo, xs, n, rfl, _⟩ := h
    rfl
  · obtain ⟨u, l, xs, n, rfl, hu, hn, hs, ne, h0, h1, k⟩ := h
    refine ⟨_, pss_one (ps_ret (pe_ix ix_list (pv 1) (pe_call GT hr rfl B.g_law_take kT bT .nil pass0 (pa_cons (pv 0) (pa_cons (pe_callB call_len (by rfl) B.b_len (by decide +kernel) (pa_cons (pv 1) pa_nil)) pa_nil))) (fun _ _ => rfl))), ?_⟩
    refine ⟨_, rfl, _, rfl, _, rfl, _, _, rfl, .inl ⟨_, hs, rfl⟩, u, _, n, rfl, hu, hn, by omega, by omega, fun r H' r0 r1 hu' kp => ?_⟩
    have hr' : r = (r.toNat : Int) := by omega
    have hl : r.toNat < xs.length := by omega
    exact ⟨l, xs, _, xs[r.toNat], rfl, rfl, kp.seq hs ne, at_of hr' (List.getElem?_eq_getElem hl), k r.toNat _ H' (List.getElem?_eq_getElem hl) hu' kp⟩
abbrev NF : List Str := ["_law_urn", "_law_flats", "_law_own", "_law_part"]
theorem sc_fl : FnScope NF ["_law_urn", "_law_flats"] (defScope s__law_field) := ⟨rfl, rfl, rfl, by decide +kernel, rfl, by decide +kernel, by decide +kernel⟩
theorem ok_fieldL (B : Bk K mg) : Df P w K mg base CX0 3 "_law_field" ["_law_urn", "_law_flats"] spFl := by
  obtain ⟨fd, F⟩ := B.F_law_field
  obtain ⟨fdT, GT, bT⟩ := (ok_law_take (P := P) (w := w) (base := base) B).ex
  have kT := (ok_law_take (P := P) (w := w) (base := base) B).kp
  obtain ⟨fdO, GO, bO⟩ := (ok_ofL (P := P) (w := w) (base := base) B).ex
  have kO := (ok_ofL (P := P) (w := w) (base := base) B).kp
  refine ⟨⟨fd, ?_, F.binds fun _ _ _ _ _ _ us hl => match us, hl with | [_, _], _ => rfl⟩, B.g_law_field, F.kp⟩
  refine F.ok sc_fl (fun vs H Q E h => ?_) (fun cdv A outer s H vs Q E hr h => ?_)
  · obtain ⟨_, _, _, _, rfl, _⟩ := h
    rfl
  · obtain ⟨u, f, n, ns, rfl, hu, hn, hf, l1, l5, nm, k⟩ := h
    have hr1 : Room 1 _ := hr.mono (by decide)
    refine ⟨_, pss_cons (ps_cut (ps_set (i := 2) sc_fl.nd rfl (Or.inl rfl) (pe_call GO hr rfl B.g_law_of kO bO .nil pass0 (pa_cons (pv 0) (pa_cons (pe_op op_cat (pe_op op_rep (pe_callTy call_list_of (by rfl) B.b_list (by decide +kernel) (pa_cons (pv 1) pa_nil)) pe_int) (pe_lst (pa_cons pe_str pa_nil))) pa_nil)))))
      (pss_cons (ps_cut (ps_if (PW.pt (pw_and (pt_cmpR op_eq (pv 2) pe_str (nomark _)) (pw_and1 (pt_cmpR op_gt (pe_call GT hr1 rfl B.g_law_take kT bT .nil pass0 (pa_cons (pv 0) (pa_cons pe_int pa_nil))) pe_int (nomark _)))))
        (pss_one (ps_set (i := 2) sc_fl.nd rfl (Or.inl rfl) (pe_ix ix_tup (pv 1) pe_int (fun _ _ => rfl)))) pss_nil))
      (pss_cons (ps_cut (ps_set (i := 3) sc_fl.nd rfl (Or.inl rfl) (pe_call GO hr rfl B.g_law_of kO bO .nil pass0 (pa_cons (pv 0) (pa_cons (pe_lst (pa_cons pe_int (pa_cons pe_int (pa_cons pe_int (pa_cons pe_int (pa_cons pe_int (pa_cons pe_int (pa_cons pe_int (pa_cons pe_int (pa_cons pe_int (pa_cons pe_int (pa_cons pe_int (pa_cons pe_int (pa_cons pe_int (pa_cons pe_int (pa_cons pe_int pa_nil)))))))))))))))) pa_nil)))))
      (pss_one (ps_ret (pe_ifExp (pt_cmpR op_eq (pv 3) pe_int (nomark _)) (pv 2) (pe_op op_add_str (pe_op op_add_str (pv 2) pe_str) (pe_callTy call_str_int (by rfl) B.b_str (by decide +kernel) (pa_cons (pv 3) pa_nil)))))))), ?_⟩
    obtain ⟨ua, ub, uc, hu0, _⟩ := id hu
    have nfu : f ≠ u := ne_of hf hu0 (by intro z; cases z)
    have own : ∀ o ∈ hs ns, OwnF o := fun o ho => (List.mem_cons.mp ho).elim (fun e => e ▸ own_hash) fun ho => own_name (nm o ho)
    refine ⟨fun σ' H' => ∃ o, σ' = [some (.ref u), some (.ref f), some (.str o), none] ∧ o ∈ hs ns ∧ Urn H' u (n + 1) ∧ Keep u H H', ?_, ?_⟩
    · refine ⟨_, rfl, _, rfl, f, _, rfl, .inr (SqT.of hf), fun L nL => ?_⟩
      refine ⟨L, 4, _, rfl, rfl, upd_same, by decide, by decide, ?_, fun p hp => ?_⟩
      · rw [List.length_map]
        have : (1000 : Nat) < sizeLine := by decide
        show ns.length * 4 ≤ sizeLine
        omega
      · refine ⟨(by show 1 ≤ sizeLine; decide), fun q hq => ?_⟩
        have s1 : Same H (upd H L (.lst (ns.map V.str))) := Same_new nL
        have s2 := Same_lay (o := HO.lst (List.replicate (4 : Int).toNat (ns.map V.str)).flatten) s1 hp
        have s3 := Same_lay (o := HO.lst [V.str "#"]) s2 hq
        have npq : p ≠ q := fun e => by rw [← e, upd_same] at hq; cases hq
        have len : (List.replicate (4 : Int).toNat (ns.map V.str)).flatten.length ≤ 20 := by
          show (List.replicate 4 (ns.map V.str)).flatten.length ≤ 20
          simp only [List.replicate, List.flatten_cons, List.flatten_nil, List.length_append, List.length_map, List.length_nil]
          omega
        refine ⟨p, q, _, _, rfl, rfl, by rw [upd_ne npq, upd_same], upd_same, ?_, fun r hr => ?_⟩
        · have : (1000 : Nat) < sizeLine := by decide
          show _ + 1 ≤ _
          omega
        · have s4 := Same_lay (o := HO.lst ((List.replicate (4 : Int).toNat (ns.map V.str)).flatten ++ [V.str "#"])) s3 hr
          have hu4 := hu.same s4
          obtain ⟨_, _, _, hu40, _⟩ := id hu4
          have nru : r ≠ u := fun e => by
            have z := s3 _ _ hu0
            rw [← e, hr] at z
            cases z
          refine ⟨u, r, _, n, rfl, hu4, by omega, SqL.of upd_same, nru, ?_, ?_, fun i x H' hx hu' kp => ?_⟩
          · rw [List.length_append]
            show 0 < _ + 1
            omega
          · rw [List.length_append]
            show _ + 1 < 1000
            omega
          · obtain ⟨o, ho, rfl⟩ : ∃ o, o ∈ hs ns ∧ x = .str o := by
              rcases List.mem_append.mp (List.mem_of_getElem? hx) with hx | hx
              · obtain ⟨l, hl, hx⟩ := List.mem_flatten.mp hx
                rw [(List.mem_replicate.mp hl).2] at hx
                obtain ⟨o, ho, rfl⟩ := List.mem_map.mp hx
                exact ⟨o, List.mem_cons_of_mem _ ho, rfl⟩
              · exact ⟨"#", List.mem_cons_self, List.mem_singleton.mp hx⟩
            exact ⟨o, rfl, ho, hu', (Same.keep s4).trans kp⟩
    rintro σ1 H1 ⟨o, rfl, ho, hu1, k1⟩
    have hf1 := k1 _ _ nfu hf
    refine ⟨fun σ' H' => ∃ o, σ' = [some (.ref u), some (.ref f), some (.str o), none] ∧ o ∈ hs ns ∧ Urn H' u (n + 2) ∧ Keep u H H', ?_, ?_⟩
    · refine ⟨_, rfl, rfl, _, rfl, two (fun h1 => ?_) (fun h1 => ?_)⟩
      · refine ⟨_, rfl, u, 3, n + 1, rfl, hu1, by omega, by decide, by decide, fun r H2 r0 r1 hu2 k2 => ?_⟩
        refine ⟨_, _, rfl, rfl, _, rfl, two (fun h2 => ?_) (fun h2 => ?_)⟩
        · obtain ⟨z, zs, ez⟩ : ∃ z zs, ns = z :: zs := by
            cases ns with
            | nil => cases l1
            | cons z zs => exact ⟨z, zs, rfl⟩
          refine ⟨_, rfl, f, _, 0, .str z, rfl, rfl, SqT.of (k2 _ _ nfu hf1), by rw [ez]; exact atI_zero, z, rfl, by rw [ez]; exact List.mem_cons_of_mem _ List.mem_cons_self, hu2, k1.trans k2⟩
        · exact ⟨o, rfl, ho, hu2, k1.trans k2⟩
      · exact iteF ⟨o, rfl, ho, hu1.le (by omega), k1⟩
    rintro σ2 H2 ⟨o, rfl, ho, hu2, k2⟩
    refine ⟨fun σ' H' => ∃ p : Nat, σ' = [some (.ref u), some (.ref f), some (.str o), some (iV p)] ∧ p ∈ parts15 ∧ Urn H' u (n + 3) ∧ Keep u H H', ?_, ?_⟩
    · refine ⟨_, rfl, (by show 15 ≤ sizeLine; decide), fun q hq => ?_⟩
      have s1 : Same H2 (upd H2 q (.lst (parts15.map iV))) := Same_new hq
      have hu3 := hu2.same s1
      obtain ⟨_, _, _, hu30, _⟩ := id hu2
      have nqu : q ≠ u := fun e => by rw [← e, hq] at hu30; cases hu30
      refine ⟨u, q, parts15.map iV, n + 2, rfl, hu3, by omega, SqL.of upd_same, nqu, by decide, by decide, fun i x H' hx hu' kp => ?_⟩
      obtain ⟨p, hp, rfl⟩ := List.mem_map.mp (List.mem_of_getElem? hx)
      exact ⟨p, rfl, hp, hu', k2.trans ((Same.keep s1).trans kp)⟩
    rintro σ3 H3 ⟨p, rfl, hp, hu3, k3⟩
    have hpk := parts_ok p hp
    have pb : p ≤ 1000000 := by
      have q : ∀ p ∈ parts15, p ≤ 1000000 := by decide
      exact q p hp
    refine ⟨_, rfl, rfl, _, rfl, two (fun h1 => ?_) (fun h1 => ?_)⟩
    · have e : p = 0 := by
        have q := V.int.inj (of_decide_eq_true h1)
        omega
      exact ⟨_, rfl, k _ _ hu3 k3 ⟨o, 0, ho, by decide, by rw [if_pos rfl]⟩⟩
    · have e : p ≠ 0 := fun q => of_decide_eq_false h1 (by rw [q]; rfl)
      have lo := (own o ho).len
      have big : (1000 : Nat) < sizeLine := by decide
      have N := num_facts (hpk.resolve_left e).1 (hpk.resolve_left e).2
      have l1 : ("/" : Str).length = 1 := by decide +kernel
      have l2 : (dec p).length ≤ 10 := by rw [len_cd, cd_dec]; exact N.len
      refine ⟨_, rfl, _, _, rfl, rfl, ?_, _, rfl, _, rfl, ?_, _, _, rfl, rfl, ?_, k _ _ hu3 k3 ⟨o, p, ho, hp, ?_⟩⟩
      · show o.length + ("/" : Str).length ≤ sizeLine
        omega
      · refine Nat.lt_of_lt_of_le ((Nat.log2_lt (k := 60) ?_).mpr ?_) (by decide)
        · show p ≠ 0
          exact e
        · show p < 2 ^ 60
          omega
      · show (o ++ "/").length + (dec p).length ≤ sizeLine
        rw [app_len]
        omega
      · show cd (o ++ "/" ++ dec p) = _
        rw [if_neg e, cd_cat, cd_cat, cd_dec, show cd ("/" : Str) = [47] by decide +kernel, List.append_assoc]
        rfl
end
end Jd
namespace Jd
open PySem PySem.Spec PyProof.Rows L2
/-! ### _law_split -/
def spSplit : Sp := fun vs H Q _ => ∃ (z : Str) (ns : List Str), vs = [.str z] ∧ FldL ns z ∧ (∀ o ∈ ns, isName (cd o) = true) ∧ ∀ H' p, Same H H' → H p = none → H' p = some (.tup [.str (fieldName z), iV (fnum z)]) → Q (.ref p) H'
section
variable {P : Program} {w : World} {K : PySem.W.Frag} {mg : Str → Option Value} {base : Heap}
abbrev NSp : List Str := ["_law_flat", "_law_own", "_law_gap", "_law_digits"]
theorem sc_sp : FnScope NSp ["_law_flat"] (defScope s__law_split) := ⟨rfl, rfl, rfl, by decide +kernel, rfl, by decide +kernel, by decide +kernel⟩
theorem ok_split (B : Bk K mg) : Df P w K mg base CX0 1 "_law_split" ["_law_flat"] spSplit := by
  obtain ⟨fd, F⟩ := B.F_law_split
  refine ⟨⟨fd, ?_, F.binds fun _ _ _ _ _ _ us hl => match us, hl with | [_], _ => rfl⟩, B.g_law_split, F.kp⟩
  refine F.ok sc_sp (fun vs H Q E h => ?_) (fun cdv A outer s H vs Q E hr h => ?_)
  · obtain ⟨_, _, rfl, _⟩ := h
    rfl
  · obtain ⟨z, ns, rfl, hz, hn, k⟩ := h
    refine ⟨_, pss_cons (ps_asg (pe_partition (pv 0) pe_str) (pg_tup (by rfl) (pgs_cons (pg_name (i := 1) sc_sp.nd rfl (.inl rfl)) (pgs_cons (pg_name (i := 2) sc_sp.nd rfl (.inl rfl)) (pgs_cons (pg_name (i := 3) sc_sp.nd rfl (.inl rfl)) pgs_nil)))))
      (pss_one (ps_ret (pe_tup (pa_cons (pv 1) (pa_cons (pe_ifExp (pt_cmpR op_ne (pv 2) pe_str (nomark _)) (pe_callTy call_int_str (by rfl) B.b_int (by decide +kernel) (pa_cons (pv 3) pa_nil)) pe_int) pa_nil))))), ?_⟩
    have fo := hz.ok hn
    obtain ⟨o, p, ho, hp, hc⟩ := hz
    have hoF : OwnF o := (List.mem_cons.mp ho).elim (fun e => e ▸ own_hash) fun q => own_name (hn o q)
    have big : (1000 : Nat) ≤ sizeLine := by decide
    refine ⟨_, rfl, ⟨_, rfl⟩, _, _, rfl, rfl, by decide, Nat.le_trans fo.len big, fun q hq => ?_⟩
    have s1 : Same H (upd H q (.tup [.str (Txt.partition z "/").1, .str (Txt.partition z "/").2.1, .str (Txt.partition z "/").2.2])) := Same_new hq
    refine ⟨_, _, rfl, SqT.of upd_same, rfl, _, _, rfl, _, _, rfl, _, _, rfl, rfl, ?_⟩
    have fin : ∀ i : Int, i = ((fnum z : Nat) : Int) → (2 : Nat) ≤ sizeLine ∧ ∀ r, (upd H q (.tup [.str (Txt.partition z "/").1, .str (Txt.partition z "/").2.1, .str (Txt.partition z "/").2.2])) r = none → Q (.ref r) (upd (upd H q (.tup [.str (Txt.partition z "/").1, .str (Txt.partition z "/").2.1, .str (Txt.partition z "/").2.2])) r (.tup [.str (Txt.partition z "/").1, .int i])) := fun i hi => by
      refine ⟨by decide, fun r hr' => k _ r (s1.trans (Same_new hr')) (s1.free hr') ?_⟩
      rw [upd_same, hi]
      rfl
    refine ⟨_, rfl, _, rfl, rfl, _, rfl, ?_⟩
    by_cases e : p = 0
    · rw [if_pos e] at hc
      have ez : z = o := cd_ext hc
      have ep := part_no (x := z) (by rw [ez]; exact hoF.no)
      have c1 : decide (V.str (Txt.partition z "/").2.1 = V.str "") = true := by
        rw [ep]
        exact decide_eq_true rfl
      show if (!decide (V.str (Txt.partition z "/").2.1 = V.str "")) = true then _ else _
      rw [c1]
      refine iteF (fin 0 ?_)
      have q1 : fieldNum z = 0 := by
        unfold fieldNum
        rw [ep]
        rfl
      have q2 := fo.num
      rw [q1] at q2
      exact q2
    · rw [if_neg e, ← cd_dec] at hc
      have ep := part_at hc hoF.no
      have c1 : decide (V.str (Txt.partition z "/").2.1 = V.str "") = false := by
        rw [ep]
        show decide (V.str ("/" : Str) = V.str "") = false
        decide +kernel
      show if (!decide (V.str (Txt.partition z "/").2.1 = V.str "")) = true then _ else _
      rw [c1]
      refine iteT ?_
      have N := num_facts ((parts_ok p hp).resolve_left e).1 ((parts_ok p hp).resolve_left e).2
      have l2 : (dec p).length ≤ 10 := by rw [len_cd, cd_dec]; exact N.len
      refine ⟨_, rfl, (Txt.partition z "/").2.2, (p : Int), rfl, ?_, ?_, fin _ ?_⟩
      · rw [ep]
        exact TL.int_num (Nat.le_trans N.len (by decide))
      · rw [ep]
        exact Nat.le_trans l2 (by decide)
      · rw [← fo.num]
        unfold fieldNum
        rw [ep, cd_dec, N.val]
end
end Jd
namespace Jd
open PySem PySem.Spec PyProof.Rows L2
/-! ### told, the law's own -/
def asgArg : Stmt → Expr
  | .Assign _ (.Call _ [e] _ _) _ => e
  | _ => .Name "" ⟨0, 0, 0, 0⟩
def lcScope : Expr → Scope
  | .ListComp _ _ sc _ => sc
  | _ => { kind := .function, names := [], isGenerator := false, isCoroutine := false }
def lcElt : Expr → Expr
  | .ListComp e _ _ _ => e
  | _ => .Name "" ⟨0, 0, 0, 0⟩
def tupSnd : Expr → Expr
  | .Tuple [_, e] _ _ => e
  | _ => .Name "" ⟨0, 0, 0, 0⟩
abbrev NT : List Str := ["_law_book_here", "_law_flats", "_law_pairs_so", "_law_table", "_law_own", "_law_pair", "_law_turn", "_law_far", "_law_bit"]
abbrev tdSt (i : Nat) : Stmt := (defBody s__law_told).getD i (.Pass ⟨0, 0, 0, 0⟩)
abbrev tdSc1 : Scope := lcScope (asgArg (tdSt 1))
abbrev tdIn1 : Expr := tupSnd (lcElt (asgArg (tdSt 1)))
abbrev tdSc2 : Scope := lcScope (asgArg (tdSt 3))
abbrev tdIn2 : Expr := tupSnd (lcElt (asgArg (tdSt 3)))
def tRow1 (K : PySem.W.Frag) : TE := tLc (iTup K (tVar 2)) (gName 5) (tTest (tOp rEq (tOp (rIxT K) (tVar 5) (tC (.int 0))) (tVar 4))) (tOp (rIxT K) (tVar 5) (tC (.int 1))) [5]
def tRow2 (K : PySem.W.Frag) : TE := tLc (iTup K (tVar 1)) (gName 7) (tTest (tOp (rIn K false) (tVar 7) (tDGet (tVar 3) (tVar 4)))) (tVar 7) [7]
theorem merge_kvT {A : Str → Addr} : ∀ {ns acc : List Str}, (acc ++ ns).Nodup → mergeK (kvT acc A) (kvT ns A) = kvT (acc ++ ns) A
  | [], acc, _ => by
    rw [List.append_nil]
    rfl
  | n :: r, acc, nd => by
    have hn : n ∉ acc := fun h => by
      obtain ⟨_, _, h3⟩ := List.nodup_append.mp nd
      exact h3 n h n List.mem_cons_self rfl
    show mergeK (putK (kvT acc A) (Sum.inr n) (.ref (A n))) (kvT r A) = _
    rw [putK_new hn]
    have e : kvT (acc ++ [n]) (atA A n (A n)) = kvT (acc ++ [n]) A := by
      unfold kvT
      refine List.map_congr_left fun m _ => ?_
      by_cases q : m = n
      · subst q
        rw [atA_at]
      · rw [atA_ne q]
    rw [e, merge_kvT (by rw [List.append_assoc]; exact nd), List.append_assoc]
    rfl
theorem kvT_snoc {A : Str → Addr} {ns : List Str} {n : Str} {p : Addr} (h : n ∉ ns) : kvT (ns ++ [n]) (atA A n p) = kvT ns A ++ [(Sum.inr n, V.ref p)] := by
  unfold kvT
  rw [List.map_append]
  congr 1
  · refine List.map_congr_left fun m hm => ?_
    rw [atA_ne (fun (q : m = n) => h (q ▸ hm))]
  · show [((Sum.inr n : Key), V.ref (atA A n p n))] = [((Sum.inr n : Key), V.ref p)]
    rw [atA_at]
theorem pr_imp {α β : Type} {F G : α → β → Prop} (h : ∀ a b, F a b → G a b) : ∀ {xs : List α} {ys : List β}, Paired F xs ys → Paired G xs ys
  | _, _, .nil => .nil
  | _, _, .cons q r => .cons (h _ _ q) (pr_imp h r)
/-- what told asks of names and pairs -/
structure Tbl (ns : List Str) (R : List (Str × Str)) : Prop where
  nd : ns.Nodup
  l5 : ns.length ≤ 5
  noh : ("#" : Str) ∉ ns
  dup : ∀ a b, (tab0 R a).count b ≤ 2
  r1 : ∀ p ∈ R, p.1 ∈ ns
  r2 : ∀ p ∈ R, p.2 ∈ ns
  rk : ∃ rk : Str → Nat, (∀ p ∈ R, rk p.1 < rk p.2) ∧ ∀ p ∈ R, rk p.2 ≤ ns.length
  rl : R.length ≤ 31
def spToldL : Sp := fun vs H Q _ => ∃ (b f g : Addr) (ns : List Str) (qs : List Addr) (R : List (Str × Str)), vs = [.ref b] ∧ H b = some (.tup [.ref f, .ref g]) ∧ H f = some (.tup (ns.map V.str)) ∧ H g = some (.tup (qs.map V.ref)) ∧ PrAt H qs R ∧ Tbl ns R ∧
  ∀ H' d A, Same H H' → TabA H' d (ns ++ [("#" : Str)]) A (toldAt ns (toldOf R ns)) → Q (.ref d) H'
theorem fine_lists {ns : List Str} (l : List Str) {o : Str} {T : Str → List Str} (f : Fine ns T) : Fine ns (l.foldl (farT o) T) := by
  induction l generalizing T with
  | nil => exact f
  | cons x l ih => exact ih (fine_far f)
theorem fine_own {ns : List Str} {o : Str} {T : Str → List Str} (f : Fine ns T) : Fine ns (ownT T o) := fine_lists _ f
theorem fine_owns {ns : List Str} (l : List Str) {T : Str → List Str} (f : Fine ns T) : Fine ns (l.foldl ownT T) := by
  induction l generalizing T with
  | nil => exact f
  | cons x l ih => exact ih (fine_own f)
theorem fine_law {R : List (Str × Str)} {ns : List Str} (f : Fine ns (tab0 R)) : ∀ k, Fine ns (lawT R ns k)
  | 0 => f
  | k + 1 => by
    unfold lawT
    rw [List.range_succ, List.foldl_append]
    exact fine_owns ns (fine_law f k)
theorem lawT_next {R : List (Str × Str)} {ns : List Str} {k : Nat} : lawT R ns (k + 1) = roundT ns (lawT R ns k) := by
  unfold lawT
  rw [List.range_succ, List.foldl_append]
  rfl
theorem fold_next {α β : Type} {f : β → α → β} {b : β} {l : List α} {i : Nat} {x : α} (h : l[i]? = some x) : (l.take (i + 1)).foldl f b = f ((l.take i).foldl f b) x := by
  rw [List.take_add_one, h, List.foldl_append]
  rfl
section
variable {P : Program} {w : World} {K : PySem.W.Frag} {mg : Str → Option Value} {base : Heap}
theorem sc_tdl : FnScope NT ["_law_book_here"] (defScope s__law_told) := ⟨rfl, rfl, rfl, by decide +kernel, rfl, by decide +kernel, by decide +kernel⟩
theorem ok_toldL (B : Bk K mg) : Df P w K mg base CX0 1 "_law_told" ["_law_book_here"] spToldL := by
  obtain ⟨fd, F⟩ := B.F_law_told
  refine ⟨⟨fd, ?_, F.binds fun _ _ _ _ _ _ us hl => match us, hl with | [_], _ => rfl⟩, B.g_law_told, F.kp⟩
  refine F.ok sc_tdl (fun vs H Q E h => ?_) (fun cdv A0 outer s H vs Q E hr h => ?_)
  · obtain ⟨_, _, _, _, _, _, rfl, _⟩ := h
    rfl
  · obtain ⟨b, f, g, ns, qs, R, rfl, hb, hf, hg, hp, bk, k⟩ := h
    have hu := hu_of hr
    have inner1 := fun (s' : Shared) (H' : Hp) (C : Addr) (cl : List (Str × Addr)) (fp : List Addr) => (show PE ((cxOf CX0 P w K mg base NT "_law_told" (defScope s__law_told) (He.ga K "_law_told") cdv A0 outer s H E).nox.blk s' H' tdSc1 (compEnvC tdSc1 cl C (cxOf CX0 P w K mg base NT "_law_told" (defScope s__law_told) (He.ga K "_law_told") cdv A0 outer s H E).nox.env) fp) tdIn1 (tRow1 K) from
      pe_lc (own := [("_law_pair", 5)]) (g := gName 5) (tt := tTest (tOp rEq (tOp (rIxT K) (tVar 5) (tC (.int 0))) (tVar 4))) rfl sc_tdl.nd (pi_tup (pv 2)) (blkOk_by (N := NT) (sc := relS tdSc1 (defScope s__law_told)) (scope := lcScope tdIn1) (own := [("_law_pair", 5)]) (by decide +kernel)) (fun _ _ _ _ _ => pg_name (i := 5) sc_tdl.nd rfl (Or.inl rfl))
        (fun _ _ _ _ _ => pts_one (pt_cmpR op_eq (pe_ix ix_tup (pv 5) pe_int (fun _ _ => rfl)) (pv 4) (nomark _))) (fun _ _ _ _ _ => pe_ix ix_tup (pv 5) pe_int (fun _ _ => rfl)))
    have inner2 := fun (s' : Shared) (H' : Hp) (C : Addr) (cl : List (Str × Addr)) (fp : List Addr) => (show PE ((cxOf CX0 P w K mg base NT "_law_told" (defScope s__law_told) (He.ga K "_law_told") cdv A0 outer s H E).nox.blk s' H' tdSc2 (compEnvC tdSc2 cl C (cxOf CX0 P w K mg base NT "_law_told" (defScope s__law_told) (He.ga K "_law_told") cdv A0 outer s H E).nox.env) fp) tdIn2 (tRow2 K) from
      pe_lc (own := [("_law_far", 7)]) (g := gName 7) (tt := tTest (tOp (rIn K false) (tVar 7) (tDGet (tVar 3) (tVar 4)))) rfl sc_tdl.nd (pi_tup (pv 1)) (blkOk_by (N := NT) (sc := relS tdSc2 (defScope s__law_told)) (scope := lcScope tdIn2) (own := [("_law_far", 7)]) (by decide +kernel)) (fun _ _ _ _ _ => pg_name (i := 7) sc_tdl.nd rfl (Or.inl rfl))
        (fun _ _ _ _ _ => pts_one (pt_cmpR op_in_seq (pv 7) (pe_dget hu (pv 3) (pv 4) (fun _ _ => rfl)) (by rfl))) (fun _ _ _ _ _ => pv 7))
    refine ⟨_, pss_cons (ps_asg (pv 0) (pg_tup rfl (pgs_cons (pg_name (i := 1) sc_tdl.nd rfl (Or.inr rfl)) (pgs_cons (pg_name (i := 2) sc_tdl.nd rfl (Or.inr rfl)) pgs_nil))))
      (pss_cons (ps_set (i := 3) sc_tdl.nd rfl (Or.inr rfl) (pe_callTy (call_dictP rfl) (by rfl) B.b_dict (by decide +kernel) (pa_cons (pe_lc (own := [("_law_own", 4)]) (g := gName 4) (tt := tYes) rfl sc_tdl.nd (pi_tup (pv 1)) (blkOk_by (N := NT) (sc := defScope s__law_told) (by decide +kernel))
          (fun _ _ _ _ _ => pg_name (i := 4) sc_tdl.nd rfl (Or.inr rfl)) (fun _ _ _ _ _ => pts_nil) (fun s' H' C cl fp => pe_tup (pa_cons (pv 4) (pa_cons (inner1 s' H' C cl fp) pa_nil)))) pa_nil)))
      (pss_cons (ps_for PassesOwn.never rfl (pi_range1 rfl B.b_range (pa_cons (pe_callB call_len (by rfl) B.b_len (by decide +kernel) (pa_cons (pv 1) pa_nil)) pa_nil)) (pg_name (i := 6) sc_tdl.nd rfl (Or.inl rfl))
        (pss_one (ps_for PassesOwn.never rfl (pi_tup (pv 1)) (pg_name (i := 4) sc_tdl.nd rfl (Or.inr rfl))
          (pss_one (ps_for PassesOwn.never rfl (pi_list (pe_callTy call_list_of (by rfl) B.b_list (by decide +kernel) (pa_cons (pe_dget hu (pv 3) (pv 4) (fun _ _ => rfl)) pa_nil))) (pg_name (i := 7) sc_tdl.nd rfl (Or.inl rfl))
            (pss_one (ps_dput hu (pv 3) (pv 4) (pe_op op_cat (pe_dget hu (pv 3) (pv 4) (fun _ _ => rfl))
              (pe_lc (own := [("_law_bit", 8)]) (g := gName 8) (tt := tTest (tOp (rIn K true) (tVar 8) (tDGet (tVar 3) (tVar 4)))) rfl sc_tdl.nd (pi_list (pe_dget hu (pv 3) (pv 7) (fun _ _ => rfl))) (blkOk_by (N := NT) (sc := defScope s__law_told) (by decide +kernel))
                (fun _ _ _ _ _ => pg_name (i := 8) sc_tdl.nd rfl (Or.inl rfl)) (fun _ _ _ _ _ => pts_one (pt_cmpR op_notIn_seq (pv 8) (pe_dget hu (pv 3) (pv 4) (fun _ _ => rfl)) (by rfl))) (fun _ _ _ _ _ => pv 8))) rfl)))))))
      (pss_cons (ps_set (i := 3) sc_tdl.nd rfl (Or.inr rfl) (pe_callTy (call_dictP rfl) (by rfl) B.b_dict (by decide +kernel) (pa_cons (pe_lc (own := [("_law_own", 4)]) (g := gName 4) (tt := tYes) rfl sc_tdl.nd (pi_tup (pv 1)) (blkOk_by (N := NT) (sc := defScope s__law_told) (by decide +kernel))
          (fun _ _ _ _ _ => pg_name (i := 4) sc_tdl.nd rfl (Or.inr rfl)) (fun _ _ _ _ _ => pts_nil) (fun s' H' C cl fp => pe_tup (pa_cons (pv 4) (pa_cons (inner2 s' H' C cl fp) pa_nil)))) pa_nil)))
      (pss_cons (ps_dput hu (pv 3) pe_str (pe_callTy call_list_of (by rfl) B.b_list (by decide +kernel) (pa_cons (pv 1) pa_nil)) rfl)
      (pss_one (ps_ret (pv 3))))))), ?_⟩
    have l5 := bk.l5
    have nd := bk.nd
    refine ⟨_, rfl, _, _, rfl, SqT.of hb, rfl, _, _, rfl, _, _, rfl, rfl, ?_⟩
    -- the rows of a dict made of pairs
    refine ⟨_, rfl, f, rfl, ⟨_, SqT.of hf⟩, fun D hD => ?_⟩
    refine lc_it (walk_tup (xs := ns.map V.str)) (fun i H' => Same H H' ∧ ∃ (ps : List Addr) (A : Str → Addr), H' D = some (.lst (ps.map V.ref)) ∧ ps.length = i ∧ Paired (fun p (kv : Key × V) => H' p = some (.tup [kV kv.1, kv.2])) ps (kvT (ns.take i) A) ∧ ∀ n ∈ ns.take i, H' (A n) = some (.lst ((tab0 R n).map V.str)))
      ⟨Same_new hD, [], fun _ => 0, upd_same, rfl, .nil, fun n h => by cases h⟩ (fun i H' _ ⟨s', _⟩ => sm_seqT s' (SqT.of hf)) (fun i x H1 H2 hi ⟨s1, ps, A, hD1, pl1, pp1, hA1⟩ y => ?_) (fun H1 ⟨s1, ps, A, hD1, pl1, pp1, hA1⟩ => ?_)
    · obtain ⟨rfl, hx⟩ := y
      obtain ⟨n, hn, rfl⟩ := at_str hx
      have hi' : i < ns.length := (List.getElem?_eq_some_iff.mp hn).1
      refine ⟨rfl, iteT (B := ∃ z : Nat, z = 0) ?_⟩
      refine ⟨_, rfl, _, rfl, g, rfl, ⟨_, SqT.of (s1 _ _ hg)⟩, fun D2 hD2 => ?_⟩
      have hql : (qs.map V.ref).length = R.length := by rw [List.length_map, hp.1]
      refine lc_fm (walk_tup (xs := qs.map V.ref)) (fun j => (R[j]?).bind fun pr => if pr.1 = n then some (V.str pr.2) else Option.none) hD2 (by rw [hql]; exact Nat.le_trans bk.rl (by decide)) (fun H' s' => sm_seqT (s1.trans s') (SqT.of hg)) (fun j v H3 H4 Kt Kf hj s3 y kt kf => ?_) (fun H3 s3 hD3 => ?_)
      · obtain ⟨rfl, hv⟩ := y
        obtain ⟨q, hq, rfl⟩ := at_ref hv
        obtain ⟨pr, hpr, hqo⟩ := hp.2 j q hq
        have hq4 := s3 _ _ (s1 _ _ hqo)
        refine ⟨rfl, _, rfl, q, _, _, _, rfl, rfl, SqT.of hq4, rfl, _, rfl, rfl, _, rfl, two (fun h1 => ?_) (fun h1 => ?_)⟩
        · have e1 : pr.1 = n := V.str.inj (of_decide_eq_true h1)
          exact ⟨_, rfl, q, _, _, _, rfl, rfl, SqT.of hq4, rfl, kt _ _ (by rw [hpr]; show (if pr.1 = n then _ else _) = _; rw [if_pos e1]) (Same.refl _)⟩
        · have e1 : ¬ pr.1 = n := fun q => of_decide_eq_false h1 (by rw [q])
          exact kf _ (by rw [hpr]; show (if pr.1 = n then _ else _) = _; rw [if_neg e1]) (Same.refl _)
      · have eD : (List.range (qs.map V.ref).length).filterMap (fun j => (R[j]?).bind fun pr => if pr.1 = n then some (V.str pr.2) else Option.none) = (tab0 R n).map V.str := by
          rw [hql, fm_bind, fm_tab0]
        rw [eD] at hD3
        refine ⟨(by show 2 ≤ sizeLine; decide), fun p hpn => ?_⟩
        have s4 := Same_new (o := HO.tup [V.str n, V.ref D2]) hpn
        have hDp := s4 _ _ (s3 _ _ hD1)
        have npD : p ≠ D := fun z => by rw [z, s3 _ _ hD1] at hpn; cases hpn
        have n2D : D2 ≠ D := fun z => by rw [z, hD1] at hD2; cases hD2
        refine ⟨_, hDp, by rw [List.length_map, pl1]; exact Nat.lt_of_lt_of_le hi' (Nat.le_trans l5 (by decide)), fun b' o q => ?_, ps ++ [p], atA A n D2, by rw [upd_same, List.map_append]; rfl, by rw [List.length_append, pl1]; rfl, ?_, fun m hm => ?_⟩
        · rw [upd_ne (ne_of_none q hD)]
          exact s4 _ _ (s3 _ _ (s1 _ _ q))
        · rw [take_next hn, kvT_snoc (nd_take nd hn)]
          refine Paired.snoc (pr_imp (fun a kv h => ?_) pp1) ?_
          · have h4 := s4 _ _ (s3 _ _ h)
            rw [upd_ne (ne_of h4 hDp (by intro z; cases z))]
            exact h4
          · rw [upd_ne npD, upd_same]
            rfl
        · rw [take_next hn] at hm
          by_cases e : m = n
          · subst e
            rw [atA_at, upd_ne n2D]
            exact s4 _ _ hD3
          · have hm' := (List.mem_append.mp hm).resolve_right fun q => e (List.mem_singleton.mp q)
            have h4 := s4 _ _ (s3 _ _ (hA1 m hm'))
            have nAD : A m ≠ D := fun z => by
              have q := hA1 m hm'
              rw [z, hD1] at q
              have q2 := Option.some.inj q
              injection q2 with q2
              cases ps with
              | nil =>
                have : ns.take i = [] := List.eq_nil_of_length_eq_zero (by rw [List.length_take]; simp at pl1; omega)
                rw [this] at hm'
                cases hm'
              | cons p0 ps =>
                cases hT : tab0 R m with
                | nil => rw [hT] at q2; cases q2
                | cons z1 zs => rw [hT] at q2; cases q2
            rw [atA_ne e, upd_ne nAD]
            exact h4
    · rw [List.length_map, List.take_length] at pp1 hA1
      refine ⟨D, ps, kvT ns A, rfl, SqL.of hD1, pr_imp (fun a kv h => SqT.of h) pp1, fun d hd => ?_⟩
      have hdH : H d = none := s1.free hd
      have em : mergeK [] (kvT ns A) = kvT ns A := merge_kvT (acc := []) nd
      rw [em]
      have sd := Same_new (o := HO.dK (kvT ns A)) hd
      have ta0 : TabA (upd H1 d (.dK (kvT ns A))) d ns A (tab0 R) := ⟨upd_same, fun n hn => sd _ _ (hA1 n hn)⟩
      have s2 : Same H (upd H1 d (.dK (kvT ns A))) := Same_lay s1 hd
      generalize (upd H1 d (.dK (kvT ns A))) = H2 at ta0 s2
      clear hD1 pp1 hA1 sd em hD s1
      have fine0 : Fine ns (tab0 R) := fine_tab0 bk.dup bk.r2
      refine ⟨_, rfl, _, (ns.map V.str).length, rfl, .inr ⟨_, SqT.of (s2 _ _ hf), rfl⟩, ((ns.map V.str).length : Int), rfl, by rw [List.length_map]; omega, by rw [List.length_map]; omega, ?_⟩
      rw [show (((ns.map V.str).length : Int)).toNat = ns.length by rw [List.length_map]; omega]
      refine for_it walk_range (fun i σ H' => ∃ (v4 v5 v6 v7 v8 : Option V) (A : Str → Addr), σ = [some (.ref b), some (.ref f), some (.ref g), some (.ref d), v4, v5, v6, v7, v8] ∧ Same H H' ∧ TabA H' d ns A (lawT R ns i))
        ⟨_, _, _, _, _, A, rfl, s2, ta0⟩ (fun _ _ _ _ _ => trivial) (fun i x σ H3 H4 hi ⟨v4, v5, v6, v7, v8, A3, e, s3, ta3⟩ y => ?_) (fun σ H3 ⟨v4, v5, v6, v7, v8, A3, e, s3, ta3⟩ => ?_)
      · obtain ⟨rfl, rfl⟩ := y
        subst e
        have fi := fine_law fine0 i
        refine ⟨_, rfl, f, rfl, ⟨_, SqT.of (s3 _ _ hf)⟩, ?_⟩
        refine for_it (walk_tup (xs := ns.map V.str)) (fun j σ H' => ∃ (v4 v5 v7 v8 : Option V) (A : Str → Addr), σ = [some (.ref b), some (.ref f), some (.ref g), some (.ref d), v4, v5, some (.int (0 + (i : Int))), v7, v8] ∧ Same H H' ∧ TabA H' d ns A ((ns.take j).foldl ownT (lawT R ns i)))
          ⟨_, _, _, _, A3, rfl, s3, ta3⟩ (fun i σ H' _ ⟨_, _, _, _, _, _, s', _⟩ => sm_seqT s' (SqT.of hf)) (fun j x σ H5 H6 hj ⟨w4, w5, w7, w8, A5, e, s5, ta5⟩ y => ?_) (fun σ H5 ⟨w4, w5, w7, w8, A5, e, s5, ta5⟩ => ?_)
        · obtain ⟨rfl, hx⟩ := y
          subst e
          obtain ⟨n, hn, rfl⟩ := at_str hx
          have hni : n ∈ ns := List.mem_of_getElem? hn
          have fj := fine_owns (ns.take j) fi
          rw [fold_next hn (f := ownT)] 
          generalize (ns.take j).foldl ownT (lawT R ns i) = T at ta5 fj
          have hAn := ta5.lst n hni
          refine ⟨_, rfl, _, rfl, d, _, rfl, ta5.get hni, _, _, rfl, .inl (SqL.of hAn), fun L hL => ?_⟩
          have sL := Same_new (o := HO.lst ((T n).map V.str)) hL
          refine ⟨L, rfl, ⟨_, SqL.of upd_same⟩, ?_⟩
          refine for_it (walk_list (xs := (T n).map V.str)) (fun q σ H' => ∃ (v5 v7 v8 : Option V) (A : Str → Addr), σ = [some (.ref b), some (.ref f), some (.ref g), some (.ref d), some (.str n), v5, some (.int (0 + (i : Int))), v7, v8] ∧ Same H H' ∧ H' L = some (.lst ((T n).map V.str)) ∧ TabA H' d ns A (((T n).take q).foldl (farT n) T))
            ⟨_, _, _, A5, rfl, Same_lay s5 hL, upd_same, ta5.same sL⟩ (fun q σ H' _ ⟨_, _, _, _, _, _, e, _⟩ => SqL.of e) (fun q x σ H7 H8 hq ⟨u5, u7, u8, A7, e, s7, hL7, ta7⟩ y => ?_) (fun σ H7 ⟨u5, u7, u8, A7, e, s7, hL7, ta7⟩ => ?_)
          · obtain ⟨rfl, hx⟩ := y
            subst e
            obtain ⟨z, hz, rfl⟩ := at_str hx
            have hzi : z ∈ ns := (fj n).2 z (List.mem_of_getElem? hz)
            have fq := fine_lists ((T n).take q) (o := n) fj
            rw [fold_next hz (f := farT n)]
            generalize ((T n).take q).foldl (farT n) T = T7 at ta7 fq
            have hAn7 := ta7.lst n hni
            have hAz7 := ta7.lst z hzi
            have lT : ∀ a, (T7 a).length ≤ 10 := fun a => Nat.le_trans (fine_len fq a) (by omega)
            refine ⟨_, rfl, _, rfl, d, _, rfl, ta7.get hni, _, rfl, _, rfl, d, _, rfl, ta7.get hzi, _, rfl, ⟨_, SqL.of hAz7⟩, fun D9 hD9 => ?_⟩
            refine lc_fm (walk_list (xs := (T7 z).map V.str)) (fun j => ((T7 z)[j]?).bind fun o => if decide (o ∉ T7 n) = true then some (V.str o) else Option.none) hD9 (by rw [List.length_map]; exact Nat.le_trans (lT z) (by decide)) (fun H' s' => sm_seqL s' (SqL.of hAz7)) (fun j v H9 HA Kt Kf hj s9 y kt kf => ?_) (fun H9 s9 hD10 => ?_)
            · obtain ⟨rfl, hv⟩ := y
              obtain ⟨o, ho, rfl⟩ := at_str hv
              refine ⟨rfl, _, rfl, _, rfl, _, rfl, d, _, rfl, (ta7.same s9).get hni, _, _, rfl, .inl (SqL.of (s9 _ _ hAn7)), rfl, fl_str, _, rfl, two (fun h2 => ?_) (fun h2 => ?_)⟩
              · have h2' : (!inV (.str o) ((T7 n).map V.str)) = true := h2
                rw [inV_str] at h2'
                have e1 : decide (o ∉ T7 n) = true := by
                  rw [decide_not]
                  exact h2'
                exact ⟨_, rfl, kt _ _ (by rw [ho]; show (if decide (o ∉ T7 n) = true then _ else _) = _; rw [if_pos e1]) (Same.refl _)⟩
              · have h2' : (!inV (.str o) ((T7 n).map V.str)) = false := h2
                rw [inV_str] at h2'
                have e1 : decide (o ∉ T7 n) = false := by
                  rw [decide_not]
                  exact h2'
                exact kf _ (by rw [ho]; show (if decide (o ∉ T7 n) = true then _ else _) = _; rw [e1, if_neg Bool.false_ne_true]) (Same.refl _)
            · have eD : (List.range ((T7 z).map V.str).length).filterMap (fun j => ((T7 z)[j]?).bind fun o => if decide (o ∉ T7 n) = true then some (V.str o) else Option.none) = ((T7 z).filter fun o => decide (o ∉ T7 n)).map V.str := by
                rw [List.length_map, fm_bind, fm_filter]
              rw [eD] at hD10
              have lF : ((T7 z).filter fun o => decide (o ∉ T7 n)).length ≤ 10 := Nat.le_trans (List.length_filter_le _ _) (lT z)
              refine ⟨_, _, _, _, rfl, rfl, s9 _ _ hAn7, hD10, ?_, fun p hp' => ?_⟩
              · rw [List.length_map, List.length_map]
                have := lT n
                have : (1000 : Nat) ≤ sizeLine := by decide
                omega
              · have sP := Same_new (o := HO.lst ((T7 n).map V.str ++ ((T7 z).filter fun o => decide (o ∉ T7 n)).map V.str)) hp'
                have ta9 := (ta7.same s9).same sP
                have hP : (upd H9 p (.lst ((T7 n).map V.str ++ ((T7 z).filter fun o => decide (o ∉ T7 n)).map V.str))) p = some (.lst ((T7 n ++ (T7 z).filter fun o => decide (o ∉ T7 n)).map V.str)) := by
                  rw [upd_same, List.map_append]
                refine ⟨_, rfl, _, rfl, d, _, rfl, DPut.k (k := Sum.inr n) ta9.at_ (by rw [kvT_len]; exact Nat.lt_of_le_of_lt l5 (by decide)), ?_⟩
                have q' := ta9.put_old hni hP
                refine ⟨_, _, _, _, rfl, fun b' o q2 => ?_, ?_, q'⟩
                · rw [upd_ne (ne_of_none q2 hdH)]
                  exact sP _ _ (s9 _ _ (s7 _ _ q2))
                · have hL9 := sP _ _ (s9 _ _ hL7)
                  rw [upd_ne (ne_of hL9 ta9.at_ (by intro z; cases z))]
                  exact hL9
          · subst e
            rw [List.length_map, List.take_length] at ta7
            exact ⟨_, _, _, _, A7, rfl, s7, ta7⟩
        · subst e
          rw [List.length_map, List.take_length] at ta5
          exact ⟨_, _, _, _, _, A5, rfl, s5, by rw [lawT_next]; exact ta5⟩
      · subst e
        -- the last table
        refine ⟨_, rfl, f, rfl, ⟨_, SqT.of (s3 _ _ hf)⟩, fun D hD => ?_⟩
        have hDH : H D = none := s3.free hD
        have fl := fine_law fine0 ns.length
        refine lc_it (walk_tup (xs := ns.map V.str)) (fun i H' => Same H3 H' ∧ ∃ (ps : List Addr) (A : Str → Addr), H' D = some (.lst (ps.map V.ref)) ∧ ps.length = i ∧ Paired (fun p (kv : Key × V) => H' p = some (.tup [kV kv.1, kv.2])) ps (kvT (ns.take i) A) ∧ ∀ n ∈ ns.take i, A n ≠ D ∧ H' (A n) = some (.lst ((lawTold R ns n).map V.str)))
          ⟨Same_new hD, [], fun _ => 0, upd_same, rfl, .nil, fun n h => by cases h⟩ (fun i H' _ ⟨s', _⟩ => sm_seqT (s3.trans s') (SqT.of hf)) (fun i x H4 H5 hi ⟨s4, ps, A4, hD4, pl4, pp4, hA4⟩ y => ?_) (fun H4 ⟨s4, ps, A4, hD4, pl4, pp4, hA4⟩ => ?_)
        · obtain ⟨rfl, hx⟩ := y
          obtain ⟨n, hn, rfl⟩ := at_str hx
          have hni : n ∈ ns := List.mem_of_getElem? hn
          have hi' : i < ns.length := (List.getElem?_eq_some_iff.mp hn).1
          refine ⟨rfl, iteT (B := ∃ z : Nat, z = 0) ?_⟩
          refine ⟨_, rfl, _, rfl, f, rfl, ⟨_, SqT.of (s4 _ _ (s3 _ _ hf))⟩, fun D2 hD2 => ?_⟩
          have ta5 := ta3.same s4
          have hAn := ta5.lst n hni
          refine lc_fm (walk_tup (xs := ns.map V.str)) (fun j => (ns[j]?).bind fun o => if decide (o ∈ lawT R ns ns.length n) = true then some (V.str o) else Option.none) hD2 (by rw [List.length_map]; exact Nat.le_trans l5 (by decide)) (fun H' s' => sm_seqT ((s3.trans s4).trans s') (SqT.of hf)) (fun j v H6 H7 Kt Kf hj s6 y kt kf => ?_) (fun H6 s6 hD6 => ?_)
          · obtain ⟨rfl, hv⟩ := y
            obtain ⟨o, ho, rfl⟩ := at_str hv
            refine ⟨rfl, _, rfl, _, rfl, _, rfl, d, _, rfl, (ta5.same s6).get hni, _, _, rfl, .inl (SqL.of (s6 _ _ hAn)), rfl, fl_str, _, rfl, two (fun h2 => ?_) (fun h2 => ?_)⟩
            · have h2' : inV (.str o) ((lawT R ns ns.length n).map V.str) = true := h2
              rw [inV_str] at h2'
              exact ⟨_, rfl, kt _ _ (by rw [ho]; show (if decide (o ∈ lawT R ns ns.length n) = true then _ else _) = _; rw [if_pos h2']) (Same.refl _)⟩
            · have h2' : inV (.str o) ((lawT R ns ns.length n).map V.str) = false := h2
              rw [inV_str] at h2'
              exact kf _ (by rw [ho]; show (if decide (o ∈ lawT R ns ns.length n) = true then _ else _) = _; rw [h2', if_neg Bool.false_ne_true]) (Same.refl _)
          · have eD : (List.range (ns.map V.str).length).filterMap (fun j => (ns[j]?).bind fun o => if decide (o ∈ lawT R ns ns.length n) = true then some (V.str o) else Option.none) = (lawTold R ns n).map V.str := by
              rw [List.length_map, fm_bind, fm_filter]
              rfl
            rw [eD] at hD6
            refine ⟨(by show 2 ≤ sizeLine; decide), fun p hpn => ?_⟩
            have sp := Same_new (o := HO.tup [V.str n, V.ref D2]) hpn
            have hDp := sp _ _ (s6 _ _ hD4)
            have npD : p ≠ D := fun z => by rw [z, s6 _ _ hD4] at hpn; cases hpn
            have n2D : D2 ≠ D := fun z => by rw [z, hD4] at hD2; cases hD2
            refine ⟨_, hDp, by rw [List.length_map, pl4]; exact Nat.lt_of_lt_of_le hi' (Nat.le_trans l5 (by decide)), fun b' o q => ?_, ps ++ [p], atA A4 n D2, by rw [upd_same, List.map_append]; rfl, by rw [List.length_append, pl4]; rfl, ?_, fun m hm => ?_⟩
            · rw [upd_ne (ne_of_none q hD)]
              exact sp _ _ (s6 _ _ (s4 _ _ q))
            · rw [take_next hn, kvT_snoc (nd_take nd hn)]
              refine Paired.snoc (pr_imp (fun a kv h => ?_) pp4) ?_
              · have h4 := sp _ _ (s6 _ _ h)
                rw [upd_ne (ne_of h4 hDp (by intro z; cases z))]
                exact h4
              · rw [upd_ne npD, upd_same]
                rfl
            · rw [take_next hn] at hm
              by_cases e : m = n
              · subst e
                rw [atA_at]
                exact ⟨n2D, by rw [upd_ne n2D]; exact sp _ _ hD6⟩
              · have hm' := (List.mem_append.mp hm).resolve_right fun q => e (List.mem_singleton.mp q)
                obtain ⟨nA, hA⟩ := hA4 m hm'
                rw [atA_ne e]
                exact ⟨nA, by rw [upd_ne nA]; exact sp _ _ (s6 _ _ hA)⟩
        · rw [List.length_map, List.take_length] at pp4 hA4
          refine ⟨D, ps, kvT ns A4, rfl, SqL.of hD4, pr_imp (fun a kv h => SqT.of h) pp4, fun d2 hd2 => ?_⟩
          have em : mergeK [] (kvT ns A4) = kvT ns A4 := merge_kvT (acc := []) nd
          rw [em]
          have sd := Same_new (o := HO.dK (kvT ns A4)) hd2
          have ta4 : TabA (upd H4 d2 (.dK (kvT ns A4))) d2 ns A4 (lawTold R ns) := ⟨upd_same, fun n hn => sd _ _ (hA4 n hn).2⟩
          have s5 : Same H (upd H4 d2 (.dK (kvT ns A4))) := Same_lay (s3.trans s4) hd2
          have hd2H : H d2 = none := (s3.trans s4).free hd2
          generalize (upd H4 d2 (.dK (kvT ns A4))) = H5 at ta4 s5
          refine ⟨_, rfl, f, _, rfl, .inr (SqT.of (s5 _ _ hf)), fun l hl => ?_⟩
          have sl := Same_new (o := HO.lst (ns.map V.str)) hl
          have ta6 := ta4.same sl
          refine ⟨_, rfl, d2, _, rfl, DPut.k (k := Sum.inr "#") ta6.at_ (by rw [kvT_len]; exact Nat.lt_of_le_of_lt l5 (by decide)), ?_⟩
          have n0 := bk.noh
          have rk := bk.rk
          obtain ⟨rk, hr1, hr2⟩ := rk
          have ta7 : TabA (upd H5 l (.lst (ns.map V.str))) d2 ns A4 (toldAt ns (toldOf R ns)) := ta6.congr fun n hn => by
            have e : n ≠ "#" := fun z => n0 (z ▸ hn)
            unfold toldAt
            rw [if_neg e]
            exact law_told bk.r1 bk.r2 hr1 hr2 n
          have q := ta7.put_new n0 (D := l) (by unfold toldAt; rw [if_pos rfl]; exact upd_same)
          refine ⟨_, rfl, k _ d2 _ (fun b' o q2 => ?_) q⟩
          rw [upd_ne (ne_of_none q2 hd2H)]
          exact sl _ _ (s5 _ _ q2)
end
end Jd
namespace Jd
open PySem PySem.Spec PyProof.Rows L2
/-! ### _law_mods -/
/-- a book: names and pairs -/
def BkAt (H : Hp) (b : Addr) (ns : List Str) (R : List (Str × Str)) : Prop := ∃ f g qs, H b = some (.tup [.ref f, .ref g]) ∧ H f = some (.tup (ns.map V.str)) ∧ H g = some (.tup (qs.map V.ref)) ∧ PrAt H qs R
theorem BkAt.same {H H' : Hp} {b : Addr} {ns : List Str} {R : List (Str × Str)} (h : BkAt H b ns R) (s : Same H H') : BkAt H' b ns R := by
  obtain ⟨f, g, qs, h1, h2, h3, h4⟩ := h
  exact ⟨f, g, qs, s _ _ h1, s _ _ h2, s _ _ h3, h4.same s⟩
theorem merge_kvG {f : Str → V} : ∀ {ns acc : List Str}, (acc ++ ns).Nodup → mergeK (kvG acc f) (kvG ns f) = kvG (acc ++ ns) f
  | [], acc, _ => by
    rw [List.append_nil]
    rfl
  | n :: r, acc, nd => by
    have hn : n ∉ acc := fun h => by
      obtain ⟨_, _, h3⟩ := List.nodup_append.mp nd
      exact h3 n h n List.mem_cons_self rfl
    show mergeK (putK (kvG acc f) (Sum.inr n) (f n)) (kvG r f) = _
    rw [putG_new hn, merge_kvG (by rw [List.append_assoc]; exact nd), List.append_assoc]
    rfl
/-- one name's turn of the law's closing -/
def clStep (ns : List Str) (t : Str → List Str) (M : Str → Nat) (own : Str) : Str → Nat := fun x => if M own = 0 ∧ x ∈ toldAt ns t own then 0 else M x
def clAll (ns : List Str) (t : Str → List Str) (l : List Str) (M : Str → Nat) : Str → Nat := l.foldl (clStep ns t) M
theorem cl_zero {ns : List Str} {t : Str → List Str} {x : Str} : ∀ {l : List Str} {M : Str → Nat}, M x = 0 → clAll ns t l M x = 0
  | [], _, h => h
  | w :: l, M, h => cl_zero (l := l) (by
    unfold clStep
    split
    · rfl
    · exact h)
theorem cl_out {ns : List Str} {t : Str → List Str} {M0 : Str → Nat} (tr : ∀ v w x, v ∈ hs ns → w ∈ toldAt ns t v → x ∈ toldAt ns t w → x ∈ toldAt ns t v) : ∀ {l : List Str} {M : Str → Nat}, (∀ w ∈ l, w ∈ hs ns) → (∀ x, M x = M0 x ∨ (M x = 0 ∧ x ∈ wholeOf (hs ns) ns t M0)) → ∀ x, clAll ns t l M x = M0 x ∨ (clAll ns t l M x = 0 ∧ x ∈ wholeOf (hs ns) ns t M0)
  | [], _, _, h => h
  | w :: l, M, hl, h => by
    refine cl_out tr (l := l) (fun x hx => hl x (List.mem_cons_of_mem _ hx)) fun x => ?_
    unfold clStep
    by_cases c : M w = 0 ∧ x ∈ toldAt ns t w
    · rw [if_pos c]
      refine .inr ⟨rfl, ?_⟩
      rcases h w with e | ⟨_, hw⟩
      · refine List.mem_flatMap.mpr ⟨w, hl w List.mem_cons_self, ?_⟩
        rw [if_pos (e ▸ c.1)]
        exact c.2
      · obtain ⟨v, hv, hq⟩ := List.mem_flatMap.mp hw
        refine List.mem_flatMap.mpr ⟨v, hv, ?_⟩
        by_cases z : M0 v = 0
        · rw [if_pos z] at hq ⊢
          exact tr v w x hv hq c.2
        · rw [if_neg z] at hq
          cases hq
    · rw [if_neg c]
      exact h x
theorem cl_in {ns : List Str} {t : Str → List Str} {w x : Str} (hx : x ∈ toldAt ns t w) : ∀ {l : List Str} {M : Str → Nat}, w ∈ l → M w = 0 → clAll ns t l M x = 0
  | v :: l, M, hw, h => by
    rcases List.mem_cons.mp hw with rfl | hw
    · refine cl_zero (l := l) ?_
      unfold clStep
      rw [if_pos ⟨h, hx⟩]
    · refine cl_in hx (l := l) hw ?_
      unfold clStep
      split
      · rfl
      · exact h
theorem cl_close {ns : List Str} {t : Str → List Str} {M : Str → Nat} (tr : ∀ v w x, v ∈ hs ns → w ∈ toldAt ns t v → x ∈ toldAt ns t w → x ∈ toldAt ns t v) (x : Str) : clAll ns t (hs ns) M x = closeM ns t M x := by
  unfold closeM
  by_cases h : x ∈ wholeOf (hs ns) ns t M
  · rw [if_pos h]
    obtain ⟨w, hw, hq⟩ := List.mem_flatMap.mp h
    by_cases z : M w = 0
    · rw [if_pos z] at hq
      exact cl_in hq hw z
    · rw [if_neg z] at hq
      cases hq
  · rw [if_neg h]
    rcases cl_out tr (l := hs ns) (M := M) (fun _ z => z) (fun _ => .inl rfl) x with e | ⟨_, e⟩
    · exact e
    · exact absurd e h
theorem told_tr {ns : List Str} {R : List (Str × Str)} (n0 : ("#" : Str) ∉ ns) : ∀ v w x, v ∈ hs ns → w ∈ toldAt ns (toldOf R ns) v → x ∈ toldAt ns (toldOf R ns) w → x ∈ toldAt ns (toldOf R ns) v := fun v w x hv hw hx => by
  have wns : w ∈ ns := by
    unfold toldAt at hw
    split at hw
    · exact hw
    · exact (told_in.mp hw).1
  have w0 : w ≠ "#" := fun q => n0 (q ▸ wns)
  unfold toldAt at hx hw ⊢
  rw [if_neg w0] at hx
  split
  · exact (told_in.mp hx).1
  · rename_i v0
    rw [if_neg v0] at hw
    exact told_in.mpr ⟨(told_in.mp hx).1, .two (told_in.mp hw).2 wns (told_in.mp hx).2⟩
/-- ('#',) + tuple(book[0]) -/
def tNames (K : PySem.W.Frag) : TE := tOp (rCatA K) (tTup (tCons (tC (.str "#")) tNil)) (tCB (fun xs H Q => ∃ a ys, xs = [V.ref a] ∧ SqT K H a ys ∧ Q (.ref a) H) (tCons (tOp (rIxT K) (tVar 0) (tC (.int 0))) tNil))
theorem rd_names {K : PySem.W.Frag} {σ : L2.St} {H : Hp} {Q : VK} {b : Addr} {ns : List Str} {R : List (Str × Str)} (hσ : σ[0]? = some (some (.ref b))) (hb : BkAt H b ns R) (l5 : ns.length ≤ 5) (k : ∀ H' p, Same H H' → H' p = some (.tup ((hs ns).map V.str)) → Q (.ref p) H') : tNames K σ H Q := by
  obtain ⟨f, g, qs, h1, h2, h3, h4⟩ := hb
  refine ⟨(by show 1 ≤ sizeLine; decide), fun a na => ?_⟩
  have s1 : Same H (upd H a (.tup [.str "#"])) := Same_new na
  refine ⟨_, hσ, b, [.ref f, .ref g], 0, .ref f, rfl, rfl, SqT.of (s1 _ _ h1), rfl, f, _, rfl, SqT.of (s1 _ _ h2), a, f, _, _, rfl, rfl, SqT.of upd_same, SqT.of (s1 _ _ h2), ?_, fun e => absurd e (List.cons_ne_nil _ _), fun _ e => ?_, fun _ _ p np => k _ p (Same_lay s1 np) upd_same⟩
  · rw [List.length_map]
    have : (1000 : Nat) ≤ sizeLine := by decide
    show 1 + ns.length ≤ _
    omega
  · have e0 : ns = [] := List.map_eq_nil_iff.mp e
    subst e0
    exact k _ a s1 upd_same
def spMods (K : PySem.W.Frag) : Sp := fun vs H Q _ => ∃ (b z : Addr) (ns zs : List Str) (R : List (Str × Str)), vs = [.ref b, .ref z] ∧ BkAt H b ns R ∧ Tbl ns R ∧ (∀ o ∈ ns, isName (cd o) = true) ∧ SqL K H z (zs.map V.str) ∧ zs.length ≤ 100 ∧ (∀ x ∈ zs, FldL ns x) ∧
  ∀ H' d, Same H H' → H' d = some (.dK (kvG (hs ns) (numV (closeM ns (toldOf R ns) (joinS zs))))) → Q (.ref d) H'
section
variable {P : Program} {w : World} {K : PySem.W.Frag} {mg : Str → Option Value} {base : Heap}
abbrev NMo : List Str := ["_law_book_here", "_law_bag", "_law_own", "_law_table", "_law_told_so", "_law_flat", "_law_number", "_law_far"]
theorem sc_mo : FnScope NMo ["_law_book_here", "_law_bag"] (defScope s__law_mods) := ⟨rfl, rfl, rfl, by decide +kernel, rfl, by decide +kernel, by decide +kernel⟩
theorem ok_mods (B : Bk K mg) : Df P w K mg base CX0 3 "_law_mods" ["_law_book_here", "_law_bag"] (spMods K) := by
  obtain ⟨fd, F⟩ := B.F_law_mods
  obtain ⟨fdT, GT, bT⟩ := (ok_toldL (P := P) (w := w) (base := base) B).ex
  have kT := (ok_toldL (P := P) (w := w) (base := base) B).kp
  obtain ⟨fdS, GS, bS⟩ := (ok_split (P := P) (w := w) (base := base) B).ex
  have kS := (ok_split (P := P) (w := w) (base := base) B).kp
  obtain ⟨fdL, GL, bL⟩ := (ok_lcmL (P := P) (w := w) (base := base) B).ex
  have kL := (ok_lcmL (P := P) (w := w) (base := base) B).kp
  refine ⟨⟨fd, ?_, F.binds fun _ _ _ _ _ _ us hl => match us, hl with | [_, _], _ => rfl⟩, B.g_law_mods, F.kp⟩
  refine F.ok sc_mo (fun vs H Q E h => ?_) (fun cdv A outer s H vs Q E hr h => ?_)
  · obtain ⟨_, _, _, _, _, rfl, _⟩ := h
    rfl
  · obtain ⟨b, z, ns, zs, R, rfl, hb, tb, hn, hz, l100, fl, k⟩ := h
    have hu := hu_of hr
    have hr1 : Room 1 _ := hr.mono (by decide)
    refine ⟨_, pss_cons (ps_par (i := 3) (j := 4) (by rfl) sc_mo.nd rfl rfl (by decide) rfl rfl (pa_cons
          (pe_callTy (call_dictP rfl) (by rfl) B.b_dict (by decide +kernel) (pa_cons (pe_lc (own := [("_law_own", 2)]) (g := gName 2) (tt := tYes) (te := tTup (tCons (tVar 2) (tCons (tC (.int 1)) tNil))) rfl sc_mo.nd (pi_tup (pe_op op_catA (pe_tup (pa_cons pe_str pa_nil)) (pe_callTy call_tupleT (by rfl) B.b_tuple (by decide +kernel) (pa_cons (pe_ix ix_tup (pv 0) pe_int (fun _ _ => rfl)) pa_nil)))) (blkOk_by (N := NMo) (sc := defScope s__law_mods) (by decide +kernel))
            (fun _ _ _ _ _ => pg_name (i := 2) sc_mo.nd rfl (Or.inl rfl)) (fun _ _ _ _ _ => pts_nil) (fun _ _ _ _ _ => pe_tup (pa_cons (pv 2) (pa_cons pe_int pa_nil)))) pa_nil))
          (pa_cons (pe_call GT hr1 rfl B.g_law_told kT bT .nil pass0 (pa_cons (pv 0) pa_nil)) pa_nil)) (by rfl))
      (pss_cons (ps_for PassesOwn.never rfl (pi_list (pv 1)) (pg_name (i := 5) sc_mo.nd rfl (Or.inl rfl))
        (pss_cons (ps_asg (pe_call GS hr1 rfl B.g_law_split kS bS .nil pass0 (pa_cons (pv 5) pa_nil)) (pg_tup rfl (pgs_cons (pg_name (i := 2) sc_mo.nd rfl (Or.inl rfl)) (pgs_cons (pg_name (i := 6) sc_mo.nd rfl (Or.inl rfl)) pgs_nil))))
        (pss_one (ps_dput hu (pv 3) (pv 2) (pe_call GL hr rfl B.g_law_lcm kL bL .nil pass0 (pa_cons (pe_dget hu (pv 3) (pv 2) (fun _ _ => rfl)) (pa_cons (pv 6) pa_nil))) rfl))))
      (pss_cons (ps_for PassesOwn.never rfl (pi_tup (pe_op op_catA (pe_tup (pa_cons pe_str pa_nil)) (pe_callTy call_tupleT (by rfl) B.b_tuple (by decide +kernel) (pa_cons (pe_ix ix_tup (pv 0) pe_int (fun _ _ => rfl)) pa_nil)))) (pg_name (i := 2) sc_mo.nd rfl (Or.inl rfl))
        (pss_one (ps_for PassesOwn.never rfl (pi_list (pe_dget hu (pv 4) (pv 2) (fun _ _ => rfl))) (pg_name (i := 7) sc_mo.nd rfl (Or.inl rfl))
          (pss_one (ps_if (pt_cmpR op_eq (pe_dget hu (pv 3) (pv 2) (fun _ _ => rfl)) pe_int (nomark _)) (pss_one (ps_dput hu (pv 3) (pv 7) pe_int rfl)) pss_nil)))))
      (pss_one (ps_ret (pv 3))))), ?_⟩
    have nd := tb.nd
    have n0 := tb.noh
    have l5 := tb.l5
    have ndk : (hs ns).Nodup := List.nodup_cons.mpr ⟨n0, nd⟩
    have l8 : (hs ns).length ≤ 8 := by rw [List.length_cons]; omega
    have big : (1000 : Nat) ≤ sizeLine := by decide
    refine rd_names (b := b) rfl hb l5 fun H1 p s1 hp => ⟨p, rfl, ⟨_, SqT.of hp⟩, fun D hD => ?_⟩
    refine lc_it (walk_tup (xs := (hs ns).map V.str)) (fun i H' => Same H1 H' ∧ ∃ ps : List Addr, H' D = some (.lst (ps.map V.ref)) ∧ ps.length = i ∧ Paired (fun p (kv : Key × V) => H' p = some (.tup [kV kv.1, kv.2])) ps (kvG ((hs ns).take i) (numV fun _ => 1)))
      ⟨Same_new hD, [], upd_same, rfl, .nil⟩ (fun i H' _ ⟨s', _⟩ => sm_seqT s' (SqT.of hp)) (fun i x H2 H3 hi ⟨s2, ps, hD2, pl, pp⟩ y => ?_) (fun H2 ⟨s2, ps, hD2, pl, pp⟩ => ?_)
    · obtain ⟨rfl, hx⟩ := y
      obtain ⟨n, hni, rfl⟩ := at_str hx
      have hi' : i < (hs ns).length := (List.getElem?_eq_some_iff.mp hni).1
      refine ⟨rfl, iteT (B := ∃ z : Nat, z = 0) ?_⟩
      refine ⟨_, rfl, (by show 2 ≤ sizeLine; decide), fun q hq => ?_⟩
      have s4 := Same_new (o := HO.tup [V.str n, .int 1]) hq
      have hDq := s4 _ _ hD2
      have nqD : q ≠ D := fun z => by rw [z, hD2] at hq; cases hq
      refine ⟨_, hDq, by rw [List.length_map, pl]; omega, Same_upd (s2.trans s4) hD, ps ++ [q], by rw [upd_same, List.map_append]; rfl, by rw [List.length_append, pl]; rfl, ?_⟩
      rw [take_next hni]
      unfold kvG at pp ⊢
      rw [List.map_append]
      refine Paired.snoc (pr_imp (fun a kv h => ?_) pp) ?_
      · have h4 := s4 _ _ h
        rw [upd_ne (ne_of h4 hDq (by intro z; cases z))]
        exact h4
      · rw [upd_ne nqD, upd_same]
        rfl
    · rw [List.length_map, List.take_length] at pp
      refine ⟨D, ps, kvG (hs ns) (numV fun _ => 1), rfl, SqL.of hD2, pr_imp (fun a kv h => SqT.of h) pp, fun d hd => ?_⟩
      have em : mergeK [] (kvG (hs ns) (numV fun _ => 1)) = kvG (hs ns) (numV fun _ => 1) := merge_kvG (acc := []) ndk
      rw [em]
      have s3 : Same H (upd H2 d (.dK (kvG (hs ns) (numV fun _ => 1)))) := Same_lay (s1.trans s2) hd
      have hdH : H d = none := (s1.trans s2).free hd
      have hd3 : (upd H2 d (.dK (kvG (hs ns) (numV fun _ => 1)))) d = some (.dK (kvG (hs ns) (numV fun _ => 1))) := upd_same
      generalize (upd H2 d (.dK (kvG (hs ns) (numV fun _ => 1)))) = H3 at s3 hd3
      obtain ⟨f, g, qs, h1, h2, h3, h4⟩ := hb.same s3
      refine ⟨_, rfl, b, f, g, ns, qs, R, rfl, h1, h2, h3, h4, tb, fun H4 td A s4 ta => ?_⟩
      have s34 := s3.trans s4
      have hd4 := s4 _ _ hd3
      have sH : ∀ H', Keep d H4 H' → Same H H' := fun H' kp b' o q => kp _ _ (ne_of_none q hdH) (s34 _ _ q)
      have ntd : td ≠ d := fun e => by
        have q := ta.at_
        rw [e, hd4] at q
        have q := Option.some.inj q
        injection q with q
        cases ns with
        | nil =>
          unfold kvG kvT at q
          injection q with q _
          injection q with _ q
          cases q
        | cons n r =>
          unfold kvG kvT at q
          injection q with q _
          injection q with q _
          injection q with q
          exact n0 (q ▸ List.mem_cons_self)
      have keepS : ∀ {H' H''}, Keep d H4 H' → Same H' H'' → Keep d H4 H'' := fun k1 k2 b' o nb q => k2 _ _ (k1 _ _ nb q)
      refine ⟨_, _, rfl, _, rfl, z, rfl, ⟨_, sm_seqL s34 hz⟩, ?_⟩
      have gset : ∀ {M M' : Str → Nat}, (∀ x ∈ hs ns, M x = M' x) → HO.dK (kvG (hs ns) (numV M)) = HO.dK (kvG (hs ns) (numV M')) := fun h => congrArg HO.dK (kvG_congr fun n hn => by unfold numV; rw [h n hn])
      refine for_it (walk_list (xs := zs.map V.str)) (fun i σ H' => ∃ v2 v5 v6 : Option V, σ = [some (.ref b), some (.ref z), v2, some (.ref d), some (.ref td), v5, v6, Option.none] ∧ Keep d H4 H' ∧ H' d = some (.dK (kvG (hs ns) (numV (joinS (zs.take i))))))
        ⟨_, _, _, rfl, Keep.refl _ _, hd4⟩ (fun i σ H' _ ⟨_, _, _, _, kp, _⟩ => sm_seqL (sH _ kp) hz) (fun i x σ H5 H6 hi ⟨v2, v5, v6, e, kp, hd5⟩ y => ?_) (fun σ H5 ⟨v2, v5, v6, e, kp, hd5⟩ => ?_)
      · obtain ⟨rfl, hx⟩ := y
        subst e
        obtain ⟨x, hxi, rfl⟩ := at_str hx
        have fx := fl x (List.mem_of_getElem? hxi)
        have fo := fx.ok hn
        refine ⟨_, rfl, x, ns, rfl, fx, hn, fun H7 p7 s7 np7 hp7 => ?_⟩
        have hd7 := s7 _ _ hd5
        have dv := join_dv (ks := hs ns) (zs := zs.take i) (fun y hy => (fl y (List.mem_of_mem_take hy)).ok hn) (fieldName x)
        have le : ∀ n : Nat, n = 0 ∨ n ∣ MB → n ≤ MB := fun n h => h.elim (fun e => e ▸ Nat.zero_le _) fun h => Nat.le_of_dvd (by decide) h
        refine ⟨_, _, rfl, SqT.of hp7, rfl, _, _, rfl, _, _, rfl, rfl, ?_⟩
        refine ⟨_, rfl, _, rfl, d, _, rfl, gd_kvG hd7 fo.nam, _, rfl, joinS (zs.take i) (fieldName x), fnum x, rfl, le _ dv, le _ fo.dv, _, rfl, _, rfl, d, _, rfl, DPut.k (k := Sum.inr (fieldName x)) hd7 ?_, ?_⟩
        · rw [kvG_len]
          omega
        · refine ⟨_, _, _, rfl, fun b' o nb q => by rw [upd_ne nb]; exact s7 _ _ (kp _ _ nb q), ?_⟩
          rw [upd_same, putG_old fo.nam]
          congr 2
          unfold kvG
          refine List.map_congr_left fun n _ => ?_
          unfold atF numV
          rw [join_next hxi]
          by_cases q : n = fieldName x
          · subst q
            rw [if_pos rfl, if_pos rfl]
          · rw [if_neg q, if_neg fun e => q e.symm]
      · subst e
        rw [List.length_map, List.take_length] at hd5
        refine rd_names (b := b) rfl (hb.same (sH _ kp)) l5 fun H6 p6 s6 hp6 => ?_
        have hd6 := s6 _ _ hd5
        have kp6 := keepS kp s6
        have np6 : p6 ≠ d := ne_of hp6 hd6 (by intro z; cases z)
        refine ⟨p6, rfl, ⟨_, SqT.of hp6⟩, ?_⟩
        refine for_it (walk_tup (xs := (hs ns).map V.str)) (fun i σ H' => ∃ v2 v5 v6 v7 : Option V, σ = [some (.ref b), some (.ref z), v2, some (.ref d), some (.ref td), v5, v6, v7] ∧ Keep d H6 H' ∧ H' d = some (.dK (kvG (hs ns) (numV (clAll ns (toldOf R ns) ((hs ns).take i) (joinS zs))))))
          ⟨_, _, _, _, rfl, Keep.refl _ _, hd6⟩ (fun i σ H' _ ⟨_, _, _, _, _, kp, _⟩ => SqT.of (kp _ _ np6 hp6)) (fun i x σ H7 H8 hi ⟨v2, v5, v6, v7, e, kp7, hd7⟩ y => ?_) (fun σ H7 ⟨v2, v5, v6, v7, e, kp7, hd7⟩ => ?_)
        · obtain ⟨rfl, hx⟩ := y
          subst e
          obtain ⟨own, ho, rfl⟩ := at_str hx
          have hoi : own ∈ hs ns := List.mem_of_getElem? ho
          have hoT : own ∈ ns ++ [("#" : Str)] := (List.mem_cons.mp hoi).elim (fun e => e ▸ List.mem_append_right _ (List.mem_singleton.mpr rfl)) fun h => List.mem_append_left _ h
          have htd := kp7 _ _ ntd (kp6 _ _ ntd ta.at_)
          have hA0 := kp6 _ _ (ne_of (ta.lst own hoT) hd4 (by intro z; cases z)) (ta.lst own hoT)
          have nAd : A own ≠ d := ne_of (ta.lst own hoT) hd4 (by intro z; cases z)
          have hA := kp7 _ _ nAd hA0
          have gt : DGet H8 td (.str own) (some (.ref (A own))) := by
            have q := DGet.k (k := Sum.inr own) htd
            rw [valV_kvT hoT] at q
            exact q
          refine ⟨_, rfl, _, rfl, td, _, rfl, gt, A own, rfl, ⟨_, SqL.of hA⟩, ?_⟩
          generalize hM : clAll ns (toldOf R ns) ((hs ns).take i) (joinS zs) = M at hd7
          refine for_it (walk_list (xs := (toldAt ns (toldOf R ns) own).map V.str)) (fun j σ H' => ∃ v5 v6 v7 : Option V, σ = [some (.ref b), some (.ref z), some (.str own), some (.ref d), some (.ref td), v5, v6, v7] ∧ Keep d H6 H' ∧ H' d = some (.dK (kvG (hs ns) (numV fun x => if M own = 0 ∧ x ∈ (toldAt ns (toldOf R ns) own).take j then 0 else M x))))
            ⟨_, _, _, rfl, kp7, by
              rw [hd7]
              refine congrArg some (gset fun x _ => ?_)
              rw [if_neg]
              exact fun h => by cases h.2⟩ (fun j σ H' _ ⟨_, _, _, _, kp, _⟩ => SqL.of (kp _ _ nAd hA0)) (fun j x σ H8 H9 hj ⟨w5, w6, w7, e, kp8, hd8⟩ y => ?_) (fun σ H8 ⟨w5, w6, w7, e, kp8, hd8⟩ => ?_)
          · obtain ⟨rfl, hx⟩ := y
            subst e
            obtain ⟨far, hf, rfl⟩ := at_str hx
            have hfi : far ∈ hs ns := by
              have q := List.mem_of_getElem? hf
              unfold toldAt at q
              split at q
              · exact List.mem_cons_of_mem _ q
              · exact List.mem_cons_of_mem _ (told_in.mp q).1
            refine ⟨_, rfl, _, rfl, d, _, rfl, gd_kvG hd8 hoi, rfl, _, rfl, ?_⟩
            by_cases m0 : M own = 0
            · have c1 : decide (numV (fun x => if M own = 0 ∧ x ∈ (toldAt ns (toldOf R ns) own).take j then 0 else M x) own = V.int 0) = true := decide_eq_true (by
                unfold numV
                show iV (if M own = 0 ∧ own ∈ (toldAt ns (toldOf R ns) own).take j then 0 else M own) = _
                split
                · rfl
                · rw [m0]
                  rfl)
              show if decide (numV (fun x => if M own = 0 ∧ x ∈ (toldAt ns (toldOf R ns) own).take j then 0 else M x) own = V.int 0) = true then _ else _
              rw [c1]
              refine iteT ?_
              refine ⟨_, rfl, _, rfl, d, _, rfl, DPut.k (k := Sum.inr far) hd8 ?_, ?_⟩
              · rw [kvG_len]
                omega
              · refine ⟨_, _, _, rfl, fun b' o nb q => by rw [upd_ne nb]; exact kp8 _ _ nb q, ?_⟩
                rw [upd_same, putG_old hfi, take_next hf]
                congr 2
                unfold kvG
                refine List.map_congr_left fun n _ => ?_
                unfold atF numV
                dsimp only
                by_cases q : n = far
                · subst q
                  rw [if_pos rfl, if_pos ⟨m0, List.mem_append_right _ (List.mem_singleton.mpr rfl)⟩]
                  rfl
                · rw [if_neg q]
                  by_cases w : n ∈ (toldAt ns (toldOf R ns) own).take j
                  · rw [if_pos ⟨m0, w⟩, if_pos ⟨m0, List.mem_append_left _ w⟩]
                  · rw [if_neg (fun h => w h.2), if_neg (fun h => (List.mem_append.mp h.2).elim w fun h => q (List.mem_singleton.mp h))]
            · have c1 : decide (numV (fun x => if M own = 0 ∧ x ∈ (toldAt ns (toldOf R ns) own).take j then 0 else M x) own = V.int 0) = false := decide_eq_false (fun e => by
                unfold numV at e
                have e2 : V.int ((if M own = 0 ∧ own ∈ (toldAt ns (toldOf R ns) own).take j then 0 else M own : Nat) : Int) = V.int 0 := e
                rw [if_neg (fun h => m0 h.1)] at e2
                have := V.int.inj e2
                omega)
              show if decide (numV (fun x => if M own = 0 ∧ x ∈ (toldAt ns (toldOf R ns) own).take j then 0 else M x) own = V.int 0) = true then _ else _
              rw [c1]
              refine iteF ⟨_, _, _, rfl, kp8, ?_⟩
              rw [hd8]
              refine congrArg some (gset fun x _ => ?_)
              rw [if_neg (fun h => m0 h.1), if_neg (fun h => m0 h.1)]
          · subst e
            rw [List.length_map, List.take_length] at hd8
            refine ⟨_, _, _, _, rfl, kp8, ?_⟩
            rw [hd8, take_next ho]
            unfold clAll
            rw [List.foldl_append]
            refine congrArg some (gset fun x _ => ?_)
            show _ = clStep ns (toldOf R ns) (clAll ns (toldOf R ns) ((hs ns).take i) (joinS zs)) own x
            rw [hM]
            rfl
        · subst e
          rw [List.length_map, List.take_length] at hd7
          refine ⟨_, rfl, k H7 d (sH _ fun b' o nb q => kp7 _ _ nb (kp6 _ _ nb q)) ?_⟩
          rw [hd7]
          exact congrArg some (gset fun x _ => cl_close (told_tr n0) x)
end
end Jd
namespace Jd
open PySem PySem.Spec PyProof.Rows L2
/-! ### a RECORD; is_int, _is_record, _first_doubled -/
def RecAt (H : Hp) (rc : Addr) (r : Int × List Int) : Prop := ∃ va, H rc = some (.tup [.int r.1, .ref va]) ∧ H va = some (.tup (r.2.map V.int))
theorem RecAt.same {H H' : Hp} {rc : Addr} {r : Int × List Int} (h : RecAt H rc r) (s : Same H H') : RecAt H' rc r := let ⟨va, a, b⟩ := h; ⟨va, s _ _ a, s _ _ b⟩
def RowAt (H : Hp) (rs : List Addr) (row : List (Int × List Int)) : Prop := Paired (fun a r => RecAt H a r) rs row
def spInt : Sp := fun vs H Q _ => ∃ n : Int, vs = [.int n] ∧ Q (.bl true) H
def spRec (K : PySem.W.Frag) : Sp := fun vs H Q _ => ∃ (kk rc : Addr) (ns : List Str) (t : Str → List Str) (r : Int × List Int), vs = [.ref kk, .ref rc] ∧ KeysO K H kk ns t ∧ RecAt H rc r ∧ 0 ≤ r.1 ∧ r.2.length = ns.length ∧ ns.length ≤ 7 ∧ ∀ H', Same H H' → Q (.bl true) H'
section
variable {P : Program} {w : World} {K : PySem.W.Frag} {mg : Str → Option Value} {base : Heap}
theorem sc_ii : FnScope ["thing"] ["thing"] (defScope s_is_int) := ⟨rfl, rfl, rfl, by decide +kernel, rfl, by decide +kernel, by decide +kernel⟩
theorem ok_is_int (B : Bk K mg) : Df P w K mg base CX0 1 "is_int" ["thing"] spInt := by
  obtain ⟨fd, F⟩ := B.F_is_int
  refine ⟨⟨fd, ?_, F.binds fun _ _ _ _ _ _ us hl => match us, hl with | [_], _ => rfl⟩, B.g_is_int, F.kp⟩
  refine F.ok sc_ii (fun vs H Q E h => ?_) (fun cdv A outer s H vs Q E hr h => ?_)
  · obtain ⟨_, rfl, _⟩ := h
    rfl
  · obtain ⟨n, rfl, k⟩ := h
    have hf : FlatV (.int n) := trivial
    refine ⟨_, pss_one (ps_ret (pe_and (pe_callB call_isi (by rfl) B.b_isinstance (by decide +kernel) (pa_cons (pv 0) (pa_cons (pe_bltn (by rfl) B.b_int (by decide +kernel) (show RelV (.ty "int") (.type "int") from rfl)) pa_nil))) (pe_one (pe_not (pe_callB call_isi (by rfl) B.b_isinstance (by decide +kernel) (pa_cons (pv 0) (pa_cons (pe_bltn (by rfl) B.b_bool (by decide +kernel) (show RelV (.ty "bool") (.type "bool") from rfl)) pa_nil))))))), ?_⟩
    refine ⟨_, rfl, _, _, _, _, _, rfl, .ty "int", ty_flat hf, kit_ty (a := "int") (r := true) (by decide +kernel), _, rfl, iteT ?_⟩
    exact ⟨_, rfl, _, _, _, _, _, rfl, .ty "bool", ty_flat hf, kit_ty (a := "int") (r := false) (by decide +kernel), _, rfl, k⟩
abbrev NRe : List Str := ["keys", "thing", "number", "values", "worth"]
theorem sc_re : FnScope NRe ["keys", "thing"] (defScope s__is_record) := ⟨rfl, rfl, rfl, by decide +kernel, rfl, by decide +kernel, by decide +kernel⟩
theorem ok_is_record (B : Bk K mg) : Df P w K mg base CX0 3 "_is_record" ["keys", "thing"] (spRec K) := by
  obtain ⟨fd, F⟩ := B.F_is_record
  obtain ⟨fdI, GI, bI⟩ := (ok_is_int (P := P) (w := w) (base := base) B).ex
  have kI := (ok_is_int (P := P) (w := w) (base := base) B).kp
  obtain ⟨fdL, GL, bL⟩ := ok_lenK (P := P) (w := w) (base := base) B
  refine ⟨⟨fd, ?_, F.binds fun _ _ _ _ _ _ us hl => match us, hl with | [_, _], _ => rfl⟩, B.g_is_record, F.kp⟩
  refine F.ok sc_re (fun vs H Q E h => ?_) (fun cdv A outer s H vs Q E hr h => ?_)
  · obtain ⟨_, _, _, _, _, rfl, _⟩ := h
    rfl
  · obtain ⟨kk, rc, ns, t, r, rfl, ko, ⟨va, hrc, hva⟩, r0, rl, l7, k⟩ := h
    have hr1 : Room 1 _ := hr.mono (by decide)
    have hr2 : Room 2 _ := hr.mono (by decide)
    refine ⟨_, pss_cons (ps_if (PW.pt (pw_or (pt_not (pt_val (pe_callB call_isi (by rfl) B.b_isinstance (by decide +kernel) (pa_cons (pv 1) (pa_cons (pe_bltn (by rfl) B.b_tuple (by decide +kernel) (show RelV (.ty "tuple") (.type "tuple") from rfl)) pa_nil))))) (pw_or1 (pt_cmpR op_ne (pe_callB call_len (by rfl) B.b_len (by decide +kernel) (pa_cons (pv 1) pa_nil)) pe_int (nomark _))))) (pss_one (ps_ret pe_bl)) pss_nil)
      (pss_cons (ps_asg (pv 1) (pg_tup (by rfl) (pgs_cons (pg_name (i := 2) sc_re.nd rfl (.inl rfl)) (pgs_cons (pg_name (i := 3) sc_re.nd rfl (.inl rfl)) pgs_nil))))
      (pss_cons (ps_if (PW.pt (pw_or (pt_not (pt_val (pe_call GI hr1 rfl B.g_is_int kI bI .nil pass0 (pa_cons (pv 2) pa_nil)))) (pw_or1 (pt_cmpR op_lt (pv 2) pe_int (nomark _))))) (pss_one (ps_ret pe_bl)) pss_nil)
      (pss_cons (ps_if (PW.pt (pw_or (pt_not (pt_val (pe_callB call_isi (by rfl) B.b_isinstance (by decide +kernel) (pa_cons (pv 3) (pa_cons (pe_bltn (by rfl) B.b_tuple (by decide +kernel) (show RelV (.ty "tuple") (.type "tuple") from rfl)) pa_nil))))) (pw_or1 (pt_cmpR op_ne (pe_callB call_len (by rfl) B.b_len (by decide +kernel) (pa_cons (pv 3) pa_nil)) (pe_callB (call_lenOwn (E := E0) GL hr2 B.sp_Keys_len.1 B.sp_Keys_len.2 bL pass0) (by rfl) B.b_len (by decide +kernel) (pa_cons (pv 0) pa_nil)) (nomark _))))) (pss_one (ps_ret pe_bl)) pss_nil)
      (pss_one (ps_ret (pe_callB (cr_all rfl) (by rfl) B.b_all (by decide +kernel) (pa_cons (pe_lc (own := [("worth", 4)]) (g := gName 4) (tt := tYes) rfl sc_re.nd (pi_tup (pv 3)) (blkOk_by (N := NRe) (sc := defScope s__is_record) (by decide +kernel)) (fun _ _ _ _ _ => pg_name (i := 4) sc_re.nd rfl (Or.inl rfl)) (fun _ _ _ _ _ => pts_nil) (fun _ _ _ _ _ => pe_call GI hr1 rfl B.g_is_int kI bI .nil pass0 (pa_cons (pv 4) pa_nil))) pa_nil))))))), ?_⟩
    obtain ⟨dk, tn, dd, AA, hk, _⟩ := id ko
    refine ⟨_, rfl, _, _, _, _, _, rfl, .ty "tuple", .base (.tup hrc), kit_ty (a := "tuple") (r := true) (by decide +kernel), _, rfl, iteF ?_⟩
    refine ⟨_, rfl, _, _, rfl, .inr ⟨_, SqT.of hrc, rfl⟩, rfl, _, rfl, iteF ?_⟩
    refine ⟨_, rfl, _, _, rfl, SqT.of hrc, rfl, _, _, rfl, _, _, rfl, rfl, ?_⟩
    refine ⟨_, rfl, r.1, rfl, _, rfl, iteF ?_⟩
    refine ⟨_, rfl, _, _, rfl, rfl, _, rfl, ifdn (fun z => by omega) ?_⟩
    refine ⟨_, rfl, _, _, _, _, _, rfl, .ty "tuple", .base (.tup hva), kit_ty (a := "tuple") (r := true) (by decide +kernel), _, rfl, iteF ?_⟩
    refine ⟨_, rfl, _, _, rfl, .inr ⟨_, SqT.of hva, rfl⟩, _, rfl, kk, dk, _, rfl, hk, kk, ns, t, rfl, ko, _, rfl, by omega, by omega, rfl, _, rfl, ?_⟩
    rw [List.length_map, rl, decide_eq_true rfl]
    refine iteF ?_
    refine ⟨_, rfl, va, rfl, ⟨_, SqT.of hva⟩, fun D hD => ?_⟩
    refine lc_fm (walk_tup (xs := r.2.map V.int)) (fun _ => some (.bl true)) hD (by rw [List.length_map, rl]; exact Nat.le_trans l7 (by decide)) (fun H' s' => SqT.of (s' _ _ hva)) (fun i v H2 H3 Kt Kf hi s2 y kt kf => ?_) (fun H2 s2 hD2 => ?_)
    · obtain ⟨rfl, hv⟩ := y
      obtain ⟨z, _, rfl⟩ := List.mem_map.mp (List.mem_of_getElem? hv)
      exact ⟨rfl, iteT (B := Kf H3) ⟨_, rfl, z, rfl, kt _ _ rfl (Same.refl _)⟩⟩
    · refine ⟨D, List.replicate (r.2.map V.int).length true, rfl, SqL.of (hD2.trans (by rw [rep_true])), ?_⟩
      rw [rep_all]
      exact k _ s2
end
end Jd
namespace Jd
open PySem PySem.Spec PyProof.Rows L2
/-! ### _first_doubled, of a row whose numbers are all different -/
theorem fl_int {xs : List Int} : (xs.map V.int).all flatV = true := by
  rw [List.all_eq_true]
  intro x hx
  obtain ⟨z, _, rfl⟩ := List.mem_map.mp hx
  rfl
theorem inV_int (z : Int) (xs : List Int) : inV (.int z) (xs.map V.int) = decide (z ∈ xs) := by
  unfold inV
  induction xs with
  | nil => rfl
  | cons x xs ih =>
    rw [List.map_cons, List.any_cons, ih]
    show ((x == z) || _) = _
    by_cases h : x = z
    · subst h
      simp
    · have hb : (x == z) = false := beq_eq_false_iff_ne.mpr h
      rw [hb, Bool.false_or]
      refine decide_eq_decide.mpr ⟨List.mem_cons_of_mem _, fun q => (List.mem_cons.mp q).resolve_left fun e => h e.symm⟩
theorem row_at {H : Hp} : ∀ {rs : List Addr} {row : List (Int × List Int)}, RowAt H rs row → rs.length = row.length ∧ ∀ (i : Nat) (a : Addr), rs[i]? = some a → ∃ r, row[i]? = some r ∧ RecAt H a r
  | [], [], _ => ⟨rfl, fun i a h => by cases h⟩
  | _ :: _, _ :: _, .cons h t => by
    obtain ⟨l, q⟩ := row_at t
    refine ⟨by rw [List.length_cons, List.length_cons, l], fun i a e => ?_⟩
    match i with
    | 0 =>
      cases e
      exact ⟨_, rfl, h⟩
    | i + 1 => exact q i a e
theorem RowAt.same {H H' : Hp} (s : Same H H') : ∀ {rs : List Addr} {row : List (Int × List Int)}, RowAt H rs row → RowAt H' rs row
  | [], [], _ => .nil
  | _ :: _, _ :: _, .cons h t => .cons (h.same s) (RowAt.same s t)
def spFd (K : PySem.W.Frag) : Sp := fun vs H Q _ => ∃ (p : Addr) (rs : List Addr) (row : List (Int × List Int)), vs = [.ref p] ∧ H p = some (.tup (rs.map V.ref)) ∧ RowAt H rs row ∧ row.length ≤ 1000 ∧ (row.map Prod.fst).Nodup ∧ ∀ H', Same H H' → Q .non H'
section
variable {P : Program} {w : World} {K : PySem.W.Frag} {mg : Str → Option Value} {base : Heap}
abbrev NFd : List Str := ["row", "record", "numbers", "at", "number"]
theorem sc_fd : FnScope NFd ["row"] (defScope s__first_doubled) := ⟨rfl, rfl, rfl, by decide +kernel, rfl, by decide +kernel, by decide +kernel⟩
theorem ok_first_doubled (B : Bk K mg) : Df P w K mg base CX0 1 "_first_doubled" ["row"] (spFd K) := by
  obtain ⟨fd, F⟩ := B.F_first_doubled
  refine ⟨⟨fd, ?_, F.binds fun _ _ _ _ _ _ us hl => match us, hl with | [_], _ => rfl⟩, B.g_first_doubled, F.kp⟩
  refine F.ok sc_fd (fun vs H Q E h => ?_) (fun cdv A outer s H vs Q E hr h => ?_)
  · obtain ⟨_, _, _, rfl, _⟩ := h
    rfl
  · obtain ⟨p, rs, row, rfl, hp, hrow, l, nd, k⟩ := h
    refine ⟨_, pss_cons (ps_setLc (i := 2) (own := [("record", 1)]) (g := gName 1) (tt := tYes) (te := tOp (rIxT K) (tVar 1) (tC (.int 0))) rfl sc_fd.nd rfl rfl (sw_true rfl rfl rfl (by decide +kernel)) (pi_tup (pv 0)) (blkOk_by (N := NFd) (sc := defScope s__first_doubled) (by decide +kernel))
        (fun _ _ _ _ _ => pg_name (i := 1) sc_fd.nd rfl (Or.inl rfl)) (fun _ _ _ _ _ => pts_nil) (fun _ _ _ _ _ => pe_ix ix_tup (pv 1) pe_int (fun _ _ => rfl)))
      (pss_cons (ps_for PassesOwn.never rfl (pi_enum (by rfl) B.b_enumerate (pa_cons (pv 2) pa_nil)) (pg_tup rfl (pgs_cons (pg_name (i := 3) sc_fd.nd rfl (.inl rfl)) (pgs_cons (pg_name (i := 4) sc_fd.nd rfl (.inl rfl)) pgs_nil)))
        (pss_one (ps_if (pt_cmpR op_in_seq (pv 4) (pe_slice sl_list (pv 2) po_none (po_some (pv 3))) (by rfl)) (pss_one (ps_ret (pv 4))) pss_nil)))
      (pss_one (ps_ret pe_non))), ?_⟩
    obtain ⟨lr, at_r⟩ := row_at hrow
    refine ⟨_, rfl, p, rfl, ⟨_, SqT.of hp⟩, fun D hD => ?_⟩
    refine lc_fm (walk_tup (xs := rs.map V.ref)) (fun i => (row[i]?).map fun r => V.int r.1) hD (by rw [List.length_map, lr]; exact Nat.le_trans l (by decide)) (fun H' s' => SqT.of (s' _ _ hp)) (fun i v H2 H3 Kt Kf hi s2 y kt kf => ?_) (fun H2 s2 hD2 => ?_)
    · obtain ⟨rfl, hv⟩ := y
      obtain ⟨a, ha, rfl⟩ := at_ref hv
      obtain ⟨r, hr1, va, h1, h2⟩ := at_r i a ha
      exact ⟨rfl, iteT (B := Kf H3) ⟨_, rfl, a, _, 0, .int r.1, rfl, rfl, SqT.of (s2 _ _ h1), rfl, kt _ _ (by rw [hr1]; rfl) (Same.refl _)⟩⟩
    have eD : (List.range (rs.map V.ref).length).filterMap (fun i => (row[i]?).map fun r => V.int r.1) = (row.map Prod.fst).map V.int := by
      rw [List.length_map, lr, List.map_map]
      exact fm_some fun i x hx => (by rw [hx]; rfl)
    rw [eD] at hD2
    have hDH : H D = none := hD
    refine ⟨_, rfl, D, _, rfl, SqL.of hD2, ?_⟩
    refine for_it (n := ((row.map Prod.fst).map V.int).length) walk_enum (fun i σ H' => ∃ v3 v4 : Option V, σ = [some (.ref p), none, some (.ref D), v3, v4] ∧ Same H2 H')
      ⟨_, _, rfl, Same.refl _⟩ (fun i σ H' _ ⟨_, _, _, s'⟩ => SqL.of (s' _ _ hD2)) (fun i x σ H5 H6 hi ⟨v3, v4, e, s5⟩ y => ?_) (fun σ H5 ⟨v3, v4, e, s5⟩ => ?_)
    · obtain ⟨T, x1, x2, rfl, nT, rfl, e1, e2⟩ := y
      cases e1
      subst e
      obtain ⟨z, hz, rfl⟩ : ∃ z, (row.map Prod.fst)[i]? = some z ∧ x2 = .int z := by
        have q : ((row.map Prod.fst).map V.int)[i]? = some x2 := e2
        rw [List.getElem?_map] at q
        obtain ⟨z, a, b⟩ := Option.map_eq_some_iff.mp q
        exact ⟨z, a, b.symm⟩
      have sT := Same_new (o := HO.tup [V.int (i : Nat), V.int z]) nT
      refine ⟨_, _, rfl, SqT.of upd_same, rfl, _, _, rfl, _, _, rfl, rfl, ?_⟩
      have hD6 := sT _ _ (s5 _ _ hD2)
      refine ⟨_, rfl, _, rfl, _, rfl, _, rfl, D, _, rfl, SqL.of hD6, fun q nq => ?_⟩
      rw [cut_to, ← List.map_take]
      have sq := Same_new (o := HO.lst (((row.map Prod.fst).take i).map V.int)) nq
      refine ⟨q, _, rfl, .inl (SqL.of upd_same), rfl, fl_int, _, rfl, ?_⟩
      rw [inV_int, decide_eq_false (fun h => ?_)]
      · exact iteF ⟨_, _, rfl, (s5.trans sT).trans sq⟩
      · obtain ⟨j, hj, e3⟩ := List.getElem_of_mem h
        rw [List.length_take] at hj
        rw [List.getElem_take] at e3
        have hi2 : i < (row.map Prod.fst).length := (List.getElem?_eq_some_iff.mp hz).1
        have e4 : (row.map Prod.fst)[i] = z := (List.getElem?_eq_some_iff.mp hz).2
        have ne : j ≠ i := by omega
        exact ne ((List.getElem_inj nd).mp (e3.trans e4.symm))
    · subst e
      exact k _ (s2.trans s5)
end
end Jd
namespace Jd
open PySem PySem.Spec PyProof.Rows L2
/-! ### _tuples of a row -/
theorem RowAt.snoc {H : Hp} : ∀ {rs : List Addr} {row : List (Int × List Int)} {a : Addr} {r : Int × List Int}, RowAt H rs row → RecAt H a r → RowAt H (rs ++ [a]) (row ++ [r])
  | [], [], _, _, _, h => .cons h .nil
  | _ :: _, _ :: _, _, _, .cons h t, g => .cons h (RowAt.snoc t g)
theorem RowAt.off {H : Hp} {D : Addr} {o : HO} {xs : List V} (hD : H D = some (.lst xs)) : ∀ {rs : List Addr} {row : List (Int × List Int)}, RowAt H rs row → RowAt (upd H D o) rs row
  | [], [], _ => .nil
  | _ :: _, _ :: _, .cons ⟨va, h1, h2⟩ t => .cons ⟨va, by rw [upd_ne (ne_of h1 hD (by intro z; cases z))]; exact h1, by rw [upd_ne (ne_of h2 hD (by intro z; cases z))]; exact h2⟩ (RowAt.off hD t)
def spTup (K : PySem.W.Frag) : Sp := fun vs H Q _ => ∃ (p : Addr) (rs : List Addr) (row : List (Int × List Int)), vs = [.ref p] ∧ H p = some (.tup (rs.map V.ref)) ∧ RowAt H rs row ∧ row.length ≤ 1000 ∧
  ∀ H' q rs', Same H H' → H' q = some (.tup (rs'.map V.ref)) → RowAt H' rs' row → Q (.ref q) H'
section
variable {P : Program} {w : World} {K : PySem.W.Frag} {mg : Str → Option Value} {base : Heap}
abbrev NTu : List Str := ["row", "number", "values"]
theorem sc_tu : FnScope NTu ["row"] (defScope s__tuples) := ⟨rfl, rfl, rfl, by decide +kernel, rfl, by decide +kernel, by decide +kernel⟩
theorem ok_tuples (B : Bk K mg) : Df P w K mg base CX0 1 "_tuples" ["row"] (spTup K) := by
  obtain ⟨fd, F⟩ := B.F_tuples
  refine ⟨⟨fd, ?_, F.binds fun _ _ _ _ _ _ us hl => match us, hl with | [_], _ => rfl⟩, B.g_tuples, F.kp⟩
  refine F.ok sc_tu (fun vs H Q E h => ?_) (fun cdv A outer s H vs Q E hr h => ?_)
  · obtain ⟨_, _, _, rfl, _⟩ := h
    rfl
  · obtain ⟨p, rs, row, rfl, hp, hrow, l, k⟩ := h
    refine ⟨_, pss_one (ps_ret (pe_callTy call_tuple_of (by rfl) B.b_tuple (by decide +kernel) (pa_cons (pe_lc (own := [("number", 1), ("values", 2)]) (g := gTup K 2 (gCons (gName 1) (gCons (gName 2) gNil))) (tt := tYes) (te := tTup (tCons (tVar 1) (tCons (tCB (fun xs H Q => ∃ a ys, xs = [V.ref a] ∧ SqT K H a ys ∧ Q (V.ref a) H) (tCons (tVar 2) tNil)) tNil))) rfl sc_tu.nd (pi_tup (pv 0)) (blkOk_by (N := NTu) (sc := defScope s__tuples) (by decide +kernel))
        (fun _ _ _ _ _ => pg_tup rfl (pgs_cons (pg_name (i := 1) sc_tu.nd rfl (Or.inl rfl)) (pgs_cons (pg_name (i := 2) sc_tu.nd rfl (Or.inl rfl)) pgs_nil))) (fun _ _ _ _ _ => pts_nil)
        (fun _ _ _ _ _ => pe_tup (pa_cons (pv 1) (pa_cons (pe_callTy call_tupleT (by rfl) B.b_tuple (by decide +kernel) (pa_cons (pv 2) pa_nil)) pa_nil)))) pa_nil))), ?_⟩
    obtain ⟨lr, at_r⟩ := row_at hrow
    refine ⟨_, rfl, p, rfl, ⟨_, SqT.of hp⟩, fun D hD => ?_⟩
    refine lc_it (walk_tup (xs := rs.map V.ref)) (fun i H' => Same H H' ∧ ∃ ps : List Addr, H' D = some (.lst (ps.map V.ref)) ∧ ps.length = i ∧ RowAt H' ps (row.take i)) ⟨Same_new hD, [], upd_same, rfl, .nil⟩ (fun i H' _ q => SqT.of (q.1 _ _ hp)) (fun i v H1 H2 hi ⟨s1, ps, hD1, lp, pp⟩ y => ?_) (fun H1 ⟨s1, ps, hD1, lp, pp⟩ => ?_)
    · obtain ⟨rfl, hv⟩ := y
      obtain ⟨a, ha, rfl⟩ := at_ref hv
      obtain ⟨r, hr1, va, h1, h2⟩ := at_r i a ha
      have hi2 : i < row.length := (List.getElem?_eq_some_iff.mp hr1).1
      refine ⟨_, _, rfl, SqT.of (s1 _ _ h1), rfl, _, _, rfl, _, _, rfl, rfl, rfl, iteT (B := ∃ z : Nat, z = 0) ?_⟩
      refine ⟨_, rfl, _, rfl, va, _, rfl, SqT.of (s1 _ _ h2), (by show 2 ≤ sizeLine; decide), fun q nq => ?_⟩
      have sq := Same_new (o := HO.tup [V.int r.1, V.ref va]) nq
      have hDq := sq _ _ hD1
      have nqD : q ≠ D := fun e => by rw [e, hD1] at nq; cases nq
      refine ⟨_, hDq, ?_, ?_, ps ++ [q], by rw [upd_same, List.map_append]; rfl, by rw [List.length_append, lp]; rfl, ?_⟩
      · rw [List.length_map, lp]
        have : (1000 : Nat) < sizeLine := by decide
        omega
      · exact Same_upd (s1.trans sq) hD
      · rw [List.take_add_one, hr1]
        refine RowAt.off hDq (RowAt.snoc (RowAt.same sq pp) ⟨va, upd_same, sq _ _ (s1 _ _ h2)⟩)
    · rw [List.length_map, lr, List.take_length] at pp
      refine ⟨D, _, rfl, .inl ⟨SqL.of hD1, fun q nq => ?_⟩⟩
      have sq := Same_new (o := HO.tup (ps.map V.ref)) nq
      exact k _ q ps (s1.trans sq) upd_same (RowAt.same sq pp)
end
end Jd
/-! an own exception class over ValueError, made without arguments; its __init__ sets nothing -/
namespace Jd
open PySem PySem.Spec PyProof.Rows L2
/-- C(), C's own __init__ keeping sp and setting nothing -/
def tMkZ (C : Addr) (sp : Sp) : L2.St → Hp → XK → Prop := fun σ H Q => ∀ a, H a = none → sp [.ref a] (upd H a (exo a C none)) (fun v H2 => v = .non ∧ H2 a = some (exo a C none) ∧ Q (.ref C) none (del H2 a)) (fun _ _ _ => False)
section
variable {X : Cx} {p pos : Pos}
theorem mk_endZ {pins : List (Addr × Obj)} {σ : L2.St} {H1 H2 : Hp} {Q : XK} {hp hp2 h2 : Heap} {g1 g2 : Array GenState} {d1 d2 : Drawn} {t1 t2 : Nat} {os1 os2 : OsState} {a C : Addr} (T : Raises X (.ref C)) (I1 : Inv X pins σ H1 ⟨hp, g1, d1, t1, os1⟩)
    (ha : hp.objs.size ≤ a) (k : ∀ b o, hp.get? b = some o → hp2.get? b = some o) (un : Un (frs X.stack) [] (upd H1 a (exo a C none)) H2 hp2 h2) (hok : HOk X.prog X.w H2 h2) (ho : os2 = os1) (hb : AllBare g2)
    (ea : H2 a = some (exo a C none)) (q : Q (.ref C) none (del H2 a)) : MkP X pins σ Q (.ref a) ⟨h2, g2, d2, t2, os2⟩ := by
  obtain ⟨t0, hoe⟩ := exo_at hok ea
  have hn : H1 a = none := I1.hok.fresh ha
  obtain ⟨G, g1', g2'⟩ := restrict h2 fun b => decide (b ≠ a)
  have gk : ∀ b, b ≠ a → G.get? b = h2.get? b := fun b hb => g1' b (decide_eq_true hb)
  have ge : G.get? a = none := g2' a (by simp)
  have nha : ∀ {b : Addr} {o : Obj}, hp.get? b = some o → b ≠ a := fun {b o} z => Nat.ne_of_lt (Nat.lt_of_lt_of_le (Heap.lt_size z) ha)
  have up : ∀ {b : Addr}, b ≠ a → H1 b = none → upd H1 a (exo a C none) b = none := fun {b} hb n => by rw [upd_ne hb]; exact n
  have U : Un (frs X.stack) [] H1 (del H2 a) hp G := {
    keep := fun b o z n hf hx => by
      rw [gk b (nha z)]
      exact un.keep b o (k b o z) (up (nha z) n) hf hx
    slot := fun b o z n hf hx => by
      rw [gk b (nha z)]
      exact un.slot b o (k b o z) (up (nha z) n) hf hx
    free := fun b o z n hx => by
      rw [del_ne (nha z)]
      exact un.free b o (k b o z) (up (nha z) n) hx
    there := fun b o z hx => by
      rw [gk b (nha z)]
      exact un.there b o (k b o z) hx
    tups := fun b xs z => by
      rw [del_ne (ne_of_none z hn)]
      exact un.tups b xs (by rw [upd_ne (ne_of_none z hn)]; exact z)
    frzs := fun b o v z => by
      rw [del_ne (ne_of_none z hn)]
      exact un.frzs b o v (by rw [upd_ne (ne_of_none z hn)]; exact z)
    tbls := fun b ps z => by
      rw [del_ne (ne_of_none z hn)]
      exact un.tbls b ps (by rw [upd_ne (ne_of_none z hn)]; exact z) }
  have hok3 : HOk X.prog X.w (del H2 a) G := fun b o z => by
    have hba : b ≠ a := fun e => by
      rw [e, del_same] at z
      cases z
    rw [del_ne hba] at z
    have noa : ∀ {c : Addr}, H2 c = some (.own b) → c ≠ a := fun {c} hc => at_ne ea hc exo_own
    exact (hok b o z).stay (fun c v hc y => by
        have hca : c ≠ a := by
          rcases hc with hc | hc
          · rw [hc]
            exact hba
          · exact noa hc
        rw [gk c hca]
        exact y)
      (fun c hc => by rw [del_ne (noa hc)]; exact hc) (fun c xs hc => by rw [del_ne (at_ne ea hc exo_tup)]; exact hc)
  have J : Inv X pins σ (del H2 a) ⟨G, g2, d2, t2, os2⟩ := I1.call' (ch := []) ho U hok3 hb (fun b z => absurd z (by simp))
  refine ⟨a, _, _, ⟨G, g2, d2, t2, os2⟩, _, .ref C, none, rfl, J, fun b o z => ?_, ge, hoe, ⟨rfl, rfl⟩, rfl, rfl, del_same, rfl, hb, T, q⟩
  by_cases hba : b = a
  · subst hba
    have z' : G.get? b = some o := z
    rw [ge] at z'
    cases z'
  · exact (gk b hba).symm.trans z
theorem pmk_oeZ {CX : CXT} {x : Str} {C fI : Addr} {k : Nat} {fd : FuncData} {ps : List Str} {sp : Sp} (T : OexC X.K C) (iC : PySem.W.findIn X.K (.ref C) "__init__" = some (some (.ref fI))) (tI : PySem.W.typeIn X.K (.ref fI) = some (.type "function"))
    (F1 : FnOk X.prog X.w X.K X.mg X.base CX k fI fd ps sp) (hr : Room (k + 1) X.A) (hb : Binds X.K fd ps []) (hx : Passes CX X (fun _ _ _ => False)) (hg : Gl X x) (hm : X.mg x = some (.ref C))
    (hdb : (x == ("__debug__" : Str)) = false := by decide) :
    PMk X (.Call (.Name x p) [] [] pos) (tMkZ C sp) := by
  intro pins s σ H1 Q I1 h
  obtain ⟨nm, q, N, bs, bm, sn, sub, ab, col, dd, k0, k1, k2, k3, k5, hC, hbm⟩ := T.cls
  refine wpAny_Call_Name_kw (ld_glob I1 hg hm ?_ hdb)
  refine PySem.W.callWith_K0 I1.kIn T.kC ?_
  show wpAny _ _ (call (.ref C) []) _ _ _
  obtain ⟨hp, g, dr, tk, os⟩ := s
  have hsz : hp.objs.size ≤ hp.objs.size + 1 := Nat.le_succ _
  have hn : H1 (hp.objs.size + 1) = none := I1.hok.fresh hsz
  have hq := h (hp.objs.size + 1) hn
  have kk : ∀ b o, hp.get? b = some o → ((hp.push (PySem.W.kdv_tup [])).push (PySem.HandSPX.excO C hp.objs.size)).get? b = some o := fun b o e => Heap.get?_push_of_some _ (Heap.get?_push_of_some _ e)
  have hget : ((hp.push (PySem.W.kdv_tup [])).push (PySem.HandSPX.excO C hp.objs.size)).get? (hp.objs.size + 1) = some (PySem.HandSPX.excO C hp.objs.size) := by heap_get
  have I2 : Inv X pins σ (upd H1 (hp.objs.size + 1) (exo (hp.objs.size + 1) C none)) ⟨(hp.push (PySem.W.kdv_tup [])).push (PySem.HandSPX.excO C hp.objs.size), g, dr, tk, os⟩ :=
    I1.laid (t' := tk) (a := hp.objs.size + 1) (o := exo (hp.objs.size + 1) C none) (h' := (hp.push (PySem.W.kdv_tup [])).push (PySem.HandSPX.excO C hp.objs.size)) kk hsz (exo_ok hget)
  have r2 : Vals [V.ref (hp.objs.size + 1)] [Value.ref (hp.objs.size + 1)] := .cons rfl .nil
  have hl : ([Value.ref (hp.objs.size + 1)] ++ ([] : List Value)).length = ps.length := by
    have e := r2.length
    rw [F1.len _ _ _ _ hq] at e
    exact e.symm
  refine wpAny_call (PySem.HandSPX.call_own F.excBase_ValueError (fun Y => PySem.HandSPX.refsVE_contains Y bm hbm) (I1.kIn _ _ hC) (PySem.W.looks_findIn I1.kIn iC) (fun self => PySem.W.bind_fn I1.kIn self tI) (Nat.zero_le _)
    (codeAny_mono (F1.run _ X.stack _ _ ⟨[Value.ref (hp.objs.size + 1)], []⟩ [Value.ref (hp.objs.size + 1)] _ _ (fun _ _ _ => False) (hr.make C [] []) (I2.env0.make C [] []) (by
      have z := hb _ [Value.ref (hp.objs.size + 1)] I2.kIn hl
      rw [List.append_nil] at z
      exact z) r2 hq) fun r s' hq' => ?_))
  cases r with
  | error er => exact hx pins σ _ _ er s' I2 hq'
  | ok fl =>
    cases fl with
    | ret u =>
      obtain ⟨v, H2, os2, bare2, un2, hok2, rv, ev, ea, q2⟩ := hq'
      subst ev
      obtain ⟨h2, g2, d2, t2, os'⟩ := s'
      exact ⟨rv, mk_endZ (raises_own T.exC T.tyC) I1 hsz kk un2 hok2 os2 bare2 ea q2⟩
    | next => exact False.elim hq'
    | brk => exact False.elim hq'
    | cont => exact False.elim hq'
end
end Jd
namespace Jd
open PySem PySem.Spec PyProof.Rows L2
/-! ### Stages joined and met: their numbers -/
abbrev jn (m u : Str → Nat) : Str → Nat := fun n => Nat.lcm (m n) (u n)
abbrev mt (m u : Str → Nat) : Str → Nat := fun n => Nat.gcd (m n) (u n)
theorem StM.jn {ns : List Str} {t : Str → List Str} {m u : Str → Nat} (h : StM ns t m) (g : StM ns t u) : StM ns t (jn m u) := by
  refine ⟨h.n0, h.nm, fun n hn => dvd_lcm (h.dv n hn) (g.dv n hn), fun w hw e o ho => ?_⟩
  show Nat.lcm (m o) (u o) = 0
  rcases Nat.eq_zero_or_pos (m w) with z | z
  · rw [h.cl w hw z o ho, Nat.lcm_zero_left]
  · rcases Nat.eq_zero_or_pos (u w) with z2 | z2
    · rw [g.cl w hw z2 o ho, Nat.lcm_zero_right]
    · have := Nat.lcm_pos z z2
      have e' : Nat.lcm (m w) (u w) = 0 := e
      omega
theorem dvd_gcd' {a b : Nat} (ha : a = 0 ∨ a ∣ MB) (hb : b = 0 ∨ b ∣ MB) : Nat.gcd a b = 0 ∨ Nat.gcd a b ∣ MB := by
  rcases ha with rfl | ha
  · rw [Nat.gcd_zero_left]
    exact hb
  · exact .inr (Nat.dvd_trans (Nat.gcd_dvd_left a b) ha)
theorem StM.mt {ns : List Str} {t : Str → List Str} {m u : Str → Nat} (h : StM ns t m) (g : StM ns t u) : StM ns t (mt m u) := by
  refine ⟨h.n0, h.nm, fun n hn => dvd_gcd' (h.dv n hn) (g.dv n hn), fun w hw e o ho => ?_⟩
  have e' : Nat.gcd (m w) (u w) = 0 := e
  show Nat.gcd (m o) (u o) = 0
  rw [h.cl w hw (Nat.eq_zero_of_gcd_eq_zero_left e') o ho, g.cl w hw (Nat.eq_zero_of_gcd_eq_zero_right e') o ho]
  rfl
theorem close_eq {ns : List Str} {t : Str → List Str} {m : Str → Nat} (h : StM ns t m) (n : Str) : closeM ns t m n = m n := by
  unfold closeM
  by_cases q : n ∈ wholeOf (("#" : Str) :: ns) ns t m
  · rw [if_pos q]
    unfold wholeOf at q
    obtain ⟨w, hw, hq⟩ := List.mem_flatMap.mp q
    by_cases z : m w = 0
    · rw [if_pos z] at hq
      exact (h.cl w hw z n hq).symm
    · rw [if_neg z] at hq
      cases hq
  · rw [if_neg q]
theorem whole_cg {ns l : List Str} {t : Str → List Str} {m u : Str → Nat} (h : ∀ n ∈ l, m n = u n) : wholeOf l ns t m = wholeOf l ns t u := by
  unfold wholeOf
  induction l with
  | nil => rfl
  | cons a l ih =>
    rw [List.flatMap_cons, List.flatMap_cons, ih fun n hn => h n (List.mem_cons_of_mem _ hn), h a List.mem_cons_self]
theorem close_cg {ns : List Str} {t : Str → List Str} {m u : Str → Nat} (h : ∀ n ∈ hs ns, m n = u n) : ∀ n ∈ hs ns, closeM ns t m n = closeM ns t u n := fun n hn => by
  unfold closeM
  rw [whole_cg h, h n hn]
theorem StageO.cg {K : PySem.W.Frag} {H : Hp} {x kk d : Addr} {ns : List Str} {t : Str → List Str} {m u : Str → Nat} (h : StageO K H x kk d ns t m) (e : ∀ n ∈ hs ns, m n = u n) : StageO K H x kk d ns t u :=
  ⟨h.x, h.k, by rw [h.d]; exact congrArg (fun z => some (HO.dK z)) (kvG_congr fun n hn => by show iV (m n) = iV (u n); rw [e n hn])⟩
/-- the FIELDs of numbers -/
def txs (l : List Str) (f : Str → Nat) : List Str := l.filterMap fun n => if f n = 1 then none else some (fldT n (f n))
theorem own_hs {ns : List Str} {t : Str → List Str} {m : Str → Nat} (h : StM ns t m) {n : Str} (hn : n ∈ hs ns) : OwnF n := by
  rcases List.mem_cons.mp hn with rfl | hn
  · exact own_hash
  · exact own_name (h.nm n hn)
theorem num_ok {k : Nat} (h : k = 0 ∨ k ∣ MB) (h1 : k ≠ 1) : k = 0 ∨ (k ∣ MB ∧ 2 ≤ k) := by
  rcases h with h | h
  · exact .inl h
  · right
    refine ⟨h, ?_⟩
    have : 0 < k := Nat.pos_of_dvd_of_pos h (by decide)
    omega
theorem txs_ok {ns : List Str} {t : Str → List Str} {m : Str → Nat} (h : StM ns t m) : ∀ z ∈ txs (hs ns) m, FldOk (hs ns) z := by
  intro z hz
  obtain ⟨n, hn, e⟩ := List.mem_filterMap.mp hz
  by_cases q : m n = 1
  · rw [if_pos q] at e
    cases e
  · rw [if_neg q] at e
    cases e
    obtain ⟨f1, f2, f3, f4⟩ := fld_facts (own_hs h hn) (num_ok (h.dv n hn) q)
    have f5 : fnum (fldT n (m n)) = m n := by
      unfold fnum
      rw [f3]
      rfl
    exact ⟨f1, Nat.le_trans f4 (by decide), by rw [f2]; exact hn, by rw [f5]; exact f3, by rw [f5]; exact h.dv n hn⟩
theorem join_txs {ns : List Str} {t : Str → List Str} {m : Str → Nat} (h : StM ns t m) (nd : (hs ns).Nodup) : ∀ n ∈ hs ns, joinS (txs (hs ns) m) n = m n := by
  have key : ∀ (l : List Str), (∀ o ∈ l, o ∈ hs ns) → l.Nodup → ∀ (n : Str) (a : Nat), (txs l m).foldl (fun a z => if fieldName z = n then Nat.lcm a (fnum z) else a) a = if n ∈ l then Nat.lcm a (m n) else a := by
    intro l
    induction l with
    | nil => intro _ _ n a; rfl
    | cons o l ih =>
      intro hl hd n a
      have ihl := ih (fun z hz => hl z (List.mem_cons_of_mem _ hz)) (List.nodup_cons.mp hd).2
      have no := (List.nodup_cons.mp hd).1
      unfold txs
      rw [List.filterMap_cons]
      by_cases q : m o = 1
      · rw [if_pos q]
        show (txs l m).foldl _ a = _
        rw [ihl n a]
        by_cases e : n = o
        · subst e
          rw [if_neg no, if_pos List.mem_cons_self, q, Nat.lcm_one_right]
        · by_cases e2 : n ∈ l
          · rw [if_pos e2, if_pos (List.mem_cons_of_mem _ e2)]
          · rw [if_neg e2, if_neg fun z => (List.mem_cons.mp z).elim e e2]
      · rw [if_neg q]
        obtain ⟨_, f2, f3, _⟩ := fld_facts (own_hs h (hl o List.mem_cons_self)) (num_ok (h.dv o (hl o List.mem_cons_self)) q)
        have f5 : fnum (fldT o (m o)) = m o := by
          unfold fnum
          rw [f3]
          rfl
        show (txs l m).foldl _ (if fieldName (fldT o (m o)) = n then Nat.lcm a (fnum (fldT o (m o))) else a) = _
        rw [ihl, f2, f5]
        by_cases e : o = n
        · subst e
          rw [if_neg no, if_pos rfl, if_pos List.mem_cons_self]
        · rw [if_neg e]
          by_cases e2 : n ∈ l
          · rw [if_pos e2, if_pos (List.mem_cons_of_mem _ e2)]
          · rw [if_neg e2, if_neg fun z => (List.mem_cons.mp z).elim (fun z => e z.symm) e2]
  intro n hn
  unfold joinS
  rw [key (hs ns) (fun _ h => h) nd n 1, if_pos hn, Nat.lcm_one_left]
theorem txs_len (l : List Str) (m : Str → Nat) : (txs l m).length ≤ l.length := List.length_filterMap_le _ _
/-- pairs of names and their numbers -/
def NpAt (H : Hp) (ps : List Addr) (l : List Str) (f : Str → Nat) : Prop := ps.length = l.length ∧ ∀ (i : Nat) (p : Addr), ps[i]? = some p → ∃ n, l[i]? = some n ∧ H p = some (.tup [.str n, iV (f n)])
theorem NpAt.same {H H' : Hp} {ps : List Addr} {l : List Str} {f : Str → Nat} (h : NpAt H ps l f) (s : Same H H') : NpAt H' ps l f := ⟨h.1, fun i p hp => let ⟨n, a, b⟩ := h.2 i p hp; ⟨n, a, s _ _ b⟩⟩
theorem NpAt.snoc {H : Hp} {ps : List Addr} {l : List Str} {p : Addr} {n : Str} {f : Str → Nat} (h : NpAt H ps l f) (e : H p = some (.tup [.str n, iV (f n)])) : NpAt H (ps ++ [p]) (l ++ [n]) f := by
  refine ⟨by rw [List.length_append, List.length_append, h.1]; rfl, fun i a ha => ?_⟩
  rcases at_last ha with q | ⟨rfl, rfl⟩
  · have hi := (List.getElem?_eq_some_iff.mp q).1
    obtain ⟨y, a1, a2⟩ := h.2 i a q
    exact ⟨y, by rw [List.getElem?_append_left (by rw [← h.1]; exact hi)]; exact a1, a2⟩
  · exact ⟨n, by rw [h.1, List.getElem?_append_right (Nat.le_refl _), Nat.sub_self]; rfl, e⟩
theorem itmG {ns : List Str} {f : Str → V} {i : Nat} {u v : V} (e1 : ((kvG ns f)[i]?.map fun kv => kV kv.1) = some u) (e2 : (kvG ns f)[i]?.map Prod.snd = some v) : ∃ n, ns[i]? = some n ∧ u = .str n ∧ v = f n := by
  unfold kvG at e1 e2
  rw [List.getElem?_map] at e1 e2
  cases q : ns[i]? with
  | none => rw [q] at e1; cases e1
  | some n =>
    rw [q] at e1 e2
    cases e1
    cases e2
    exact ⟨n, rfl, rfl, rfl⟩
def spNu (K : PySem.W.Frag) : Sp := fun vs H Q _ => ∃ (kk l : Addr) (ns : List Str) (t : Str → List Str) (f : Str → Nat) (ps : List Addr), vs = [.ref kk, .ref l] ∧ KeysO K H kk ns t ∧ StM ns t f ∧ H l = some (.lst (ps.map V.ref)) ∧ NpAt H ps (hs ns) f ∧
  ∀ H' x d, Same H H' → StageO K H' x kk d ns t f → Q (.ref x) H'
def spMK (C : Addr) : Sp := fun vs H Q _ => ∃ a : Addr, vs = [.ref a] ∧ H a = some (exo a C none) ∧ Q .non H
def spCk (K : PySem.W.Frag) : Sp := fun vs H Q E => ∃ (x y kx ky dx dy : Addr) (ns ms : List Str) (t u : Str → List Str) (m m' : Str → Nat), vs = [.ref x, .ref y] ∧ StageO K H x kx dx ns t m ∧ StageO K H y ky dy ms u m' ∧
  ((ns = ms ∧ t = u ∧ Q .non H) ∨ (ns.length ≠ ms.length ∧ ∀ H', Same H H' → E (.ref (He.ga K "MixedKeys")) none H'))
theorem made_same {H H' : Hp} {x dx : Addr} {o1 o2 : HO} (n1 : H x = none) (n2 : H dx = none) (k : KeepX x (upd (upd H dx o1) x o2) H') : Same H H' := fun b o q => k _ _ (ne_of_none q n1) (by
  rw [upd_ne (ne_of_none q n1), upd_ne (ne_of_none q n2)]
  exact q)
section
variable {P : Program} {w : World} {K : PySem.W.Frag} {mg : Str → Option Value} {base : Heap}
abbrev NN : List Str := ["keys", "pairs", "name", "m"]
theorem sc_nu : FnScope NN ["keys", "pairs"] (defScope s_stage_of_numbers) := ⟨rfl, rfl, rfl, by decide +kernel, rfl, by decide +kernel, by decide +kernel⟩
theorem ok_numbered (B : Bk K mg) : Df P w K mg base CX0 8 "stage_of_numbers" ["keys", "pairs"] (spNu K) := by
  obtain ⟨fd, F⟩ := B.F_stage_of_numbers
  obtain ⟨fdT, GT, bT⟩ := (ok_fT (P := P) (w := w) (base := base) B).ex
  have kT := (ok_fT (P := P) (w := w) (base := base) B).kp
  obtain ⟨fdS, GS, bS⟩ := ok_Stage_init (P := P) (w := w) (base := base) B
  refine ⟨⟨fd, ?_, F.binds fun _ _ _ _ _ _ us hl => match us, hl with | [_, _], _ => rfl⟩, B.g_stage_of_numbers, F.kp⟩
  refine F.ok sc_nu (fun vs H Q E h => ?_) (fun cdv A outer s H vs Q E hr h => ?_)
  · obtain ⟨_, _, _, _, _, _, rfl, _⟩ := h
    rfl
  · obtain ⟨kk, l, ns, t, f, ps, rfl, ko, sm, hl, np, k⟩ := h
    have hr2 : Room 2 _ := hr.mono (by decide)
    refine ⟨_, pss_one (ps_ret (pe_make B.mk_Stage GS hr rfl B.g_Stage bS .nil pass0 (pa_cons (pv 0) (pa_cons (pe_lc (own := [("name", 2), ("m", 3)]) (g := gTup K 2 (gCons (gName 2) (gCons (gName 3) gNil))) (tt := tTest (tOp rNe (tVar 3) (tC (.int 1)))) rfl sc_nu.nd (pi_list (pv 1)) (blkOk_by (N := NN) (sc := defScope s_stage_of_numbers) (by decide +kernel))
        (fun _ _ _ _ _ => pg_tup rfl (pgs_cons (pg_name (i := 2) sc_nu.nd rfl (Or.inl rfl)) (pgs_cons (pg_name (i := 3) sc_nu.nd rfl (Or.inl rfl)) pgs_nil))) (fun _ _ _ _ _ => pts_one (pt_cmpR op_ne (pv 3) pe_int (nomark _)))
        (fun _ _ _ _ _ => pe_call GT hr2 rfl B.g_field_text kT bT .nil pass0 (pa_cons (pv 2) (pa_cons (pv 3) pa_nil)))) pa_nil)))), ?_⟩
    obtain ⟨_, _, _, _, _, _, _, _, nd, l7, _, t7⟩ := id ko
    have ndk : (hs ns).Nodup := List.nodup_cons.mpr ⟨sm.n0, nd⟩
    have l8 : (hs ns).length ≤ 8 := by rw [List.length_cons]; omega
    refine ⟨_, rfl, _, rfl, l, rfl, ⟨_, SqL.of hl⟩, fun D hD => ?_⟩
    refine lc_fm (walk_list (xs := ps.map V.ref)) (fun i => ((hs ns)[i]?).bind fun n => (if f n = 1 then none else some (fldT n (f n))).map V.str) hD (by rw [List.length_map, np.1]; exact Nat.le_trans l8 (by decide)) (fun H' s' => SqL.of (s' _ _ hl)) (fun i v H2 H3 Kt Kf hi s2 yy kt kf => ?_) (fun H2 s2 hD2 => ?_)
    · obtain ⟨rfl, hv⟩ := yy
      obtain ⟨p, hp, rfl⟩ := at_ref hv
      obtain ⟨n, hn, hpn⟩ := np.2 i p hp
      have hni : n ∈ hs ns := List.mem_of_getElem? hn
      refine ⟨_, _, rfl, SqT.of (s2 _ _ hpn), rfl, _, _, rfl, _, _, rfl, rfl, rfl, _, rfl, rfl, _, rfl, two (fun h1 => ?_) (fun h1 => ?_)⟩
      · have n1 : f n ≠ 1 := fun e => by
          have z : (!decide (V.int ((f n : Nat) : Int) = V.int 1)) = true := h1
          rw [e, decide_eq_true (show V.int ((1 : Nat) : Int) = V.int 1 from rfl)] at z
          cases z
        have nk := num_ok (sm.dv n hni) n1
        refine ⟨_, rfl, _, rfl, n, f n, rfl, nk.imp id fun q => (num_facts q.1 q.2).ok, Nat.le_trans (own_hs sm hni).len (by decide), fun H4 s4 => kt _ _ ?_ s4⟩
        show ((hs ns)[i]?).bind _ = _
        rw [hn]
        show (if f n = 1 then none else some (fldT n (f n))).map V.str = _
        rw [if_neg n1]
        rfl
      · have n1 : f n = 1 := by
          have z : (!decide (V.int ((f n : Nat) : Int) = V.int 1)) = false := h1
          by_cases q : f n = 1
          · exact q
          · rw [decide_eq_false fun e => q (by have := V.int.inj e; omega)] at z
            cases z
        refine kf _ ?_ (Same.refl _)
        show ((hs ns)[i]?).bind _ = _
        rw [hn]
        show (if f n = 1 then none else some (fldT n (f n))).map V.str = _
        rw [if_pos n1]
        rfl
    · have eD : (List.range (ps.map V.ref).length).filterMap (fun i => ((hs ns)[i]?).bind fun n => (if f n = 1 then none else some (fldT n (f n))).map V.str) = (txs (hs ns) f).map V.str := by
        rw [List.length_map, np.1, fm_bind]
        unfold txs
        rw [List.map_filterMap]
      rw [eD] at hD2
      have hD3 : ∀ H', Same H2 H' → Sq K H' D ((txs (hs ns) f).map V.str) := fun H' s' => .inl (SqL.of (s' _ _ hD2))
      refine fun x dx nx ndx ne => ?_
      have s3 : Same H2 (upd (upd H2 dx (.own x)) x (.ins (He.ga K "Stage") dx [])) := fun b o q => by
        rw [upd_ne (ne_of_none q nx), upd_ne (ne_of_none q ndx)]
        exact q
      refine ⟨x, dx, kk, D, ns, txs (hs ns) f, t, rfl, upd_same, ko.same (s2.trans s3), sm.n0, hD3 _ s3, Nat.le_trans (txs_len _ _) (Nat.le_trans l8 (by decide)), txs_ok sm, fun H' d kp so => ⟨rfl, k H' x d (s2.trans (made_same nx ndx kp)) (so.cg fun n hn => ?_)⟩⟩
      rw [close_cg (join_txs sm ndk) n hn]
      exact close_eq sm n
end
end Jd
namespace Jd
open PySem PySem.Spec PyProof.Rows L2
/-! ### Stages compared, joined, met -/
def leB (ns : List Str) (m u : Str → Nat) : Bool := decide (∀ n ∈ hs ns, m n ∣ u n)
def eqB (ns : List Str) (m u : Str → Nat) : Bool := decide (∀ n ∈ hs ns, m n = u n)
/-- two Stages of the same Keys -/
structure Two (K : PySem.W.Frag) (H : Hp) (x y kx ky dx dy : Addr) (ns : List Str) (t : Str → List Str) (m u : Str → Nat) : Prop where
  a : StageO K H x kx dx ns t m
  b : StageO K H y ky dy ns t u
  sa : StM ns t m
  sb : StM ns t u
theorem Two.same {K : PySem.W.Frag} {H H' : Hp} {x y kx ky dx dy : Addr} {ns : List Str} {t : Str → List Str} {m u : Str → Nat} (h : Two K H x y kx ky dx dy ns t m u) (s : Same H H') : Two K H' x y kx ky dx dy ns t m u := ⟨h.a.same s, h.b.same s, h.sa, h.sb⟩
/-- two Stages of Keys that differ: refused -/
def Mix (K : PySem.W.Frag) (vs : List V) (H : Hp) (E : XK) : Prop := ∃ (x y kx ky dx dy : Addr) (ns ms : List Str) (t u : Str → List Str) (m m' : Str → Nat), vs = [.ref x, .ref y] ∧ StageO K H x kx dx ns t m ∧ StageO K H y ky dy ms u m' ∧ ns.length ≠ ms.length ∧ ∀ H', Same H H' → E (.ref (He.ga K "MixedKeys")) none H'
def Pair2 (K : PySem.W.Frag) (vs : List V) (H : Hp) (F : Addr → List Str → (Str → List Str) → (Str → Nat) → (Str → Nat) → Prop) : Prop := ∃ (x y kx ky dx dy : Addr) (ns : List Str) (t : Str → List Str) (m u : Str → Nat), vs = [.ref x, .ref y] ∧ Two K H x y kx ky dx dy ns t m u ∧ F kx ns t m u
def spLe (K : PySem.W.Frag) : Sp := fun vs H Q E => Pair2 K vs H (fun _ ns t m u => ∀ H', Same H H' → Q (.bl (leB ns m u)) H') ∨ Mix K vs H E
def spLt (K : PySem.W.Frag) : Sp := fun vs H Q E => Pair2 K vs H (fun _ ns t m u => ∀ H', Same H H' → Q (.bl (leB ns m u && !eqB ns m u)) H') ∨ Mix K vs H E
def spOr (K : PySem.W.Frag) : Sp := fun vs H Q E => Pair2 K vs H (fun kx ns t m u => ∀ H' z d, Same H H' → StageO K H' z kx d ns t (jn m u) → Q (.ref z) H') ∨ Mix K vs H E
def spAnd (K : PySem.W.Frag) : Sp := fun vs H Q E => Pair2 K vs H (fun kx ns t m u => ∀ H' z d, Same H H' → StageO K H' z kx d ns t (mt m u) → Q (.ref z) H') ∨ Mix K vs H E
def spXr (K : PySem.W.Frag) : Sp := fun vs H Q E => Mix K vs H E
theorem keys_same {ns : List Str} {t : Str → List Str} : decide (ns.length = ns.length ∧ ∀ n ∈ ns, n ∈ ns ∧ t n = t n) = true := decide_eq_true ⟨rfl, fun n h => ⟨h, rfl⟩⟩
theorem keys_len {ns ms : List Str} {t u : Str → List Str} (h : ns.length ≠ ms.length) : decide (ns.length = ms.length ∧ ∀ n ∈ ns, n ∈ ms ∧ t n = u n) = false := decide_eq_false fun q => h q.1
theorem at_map {α : Type} {l : List α} {g : α → V} {i : Nat} {x : α} (h : l[i]? = some x) : (l[i]?.map g) = some (g x) := by rw [h]; rfl
theorem all_le {l : List Str} {m u : Str → Nat} : (l.map fun n => decide (m n ∣ u n)).all id = decide (∀ n ∈ l, m n ∣ u n) := by
  rw [List.all_map]
  induction l with
  | nil => exact (decide_eq_true fun n h => by cases h).symm
  | cons a l ih =>
    rw [List.all_cons, ih]
    show (decide (m a ∣ u a) && _) = _
    rw [← Bool.decide_and]
    exact decide_eq_decide.mpr ⟨fun q n hn => (List.mem_cons.mp hn).elim (fun e => e ▸ q.1) (q.2 n), fun q => ⟨q a List.mem_cons_self, fun n hn => q n (List.mem_cons_of_mem _ hn)⟩⟩
section
variable {P : Program} {w : World} {K : PySem.W.Frag} {mg : Str → Option Value} {base : Heap}
theorem StageO.ty (B : Bk K mg) {H : Hp} {x kk d : Addr} {ns : List Str} {t : Str → List Str} {m : Str → Nat} (h : StageO K H x kk d ns t m) : TyX K H (.ref x) (.ref (He.ga K "Stage")) := by
  obtain ⟨ha, hn, htk, hmo⟩ := B.ty_Stage
  obtain ⟨dx, hx⟩ := h.x
  exact .base (.ins hx B.cl_Stage ha hn htk hmo)
theorem KeysO.ty (B : Bk K mg) {H : Hp} {x : Addr} {ns : List Str} {t : Str → List Str} (h : KeysO K H x ns t) : TyX K H (.ref x) (.ref (He.ga K "Keys")) := by
  obtain ⟨ha, hn, htk, hmo⟩ := B.ty_Keys
  obtain ⟨dx, _, _, _, hx, _⟩ := h
  exact .base (.ins hx B.cl_Keys ha hn htk hmo)
theorem sc_mk : FnScope ["self"] ["self"] (defScope s_MixedKeys___init__) := ⟨rfl, rfl, rfl, by decide +kernel, rfl, by decide +kernel, by decide +kernel⟩
theorem ok_mk (B : Bk K mg) : ∃ fd, FnOk P w K mg base CX0 1 (He.ma K (He.ga K "MixedKeys") "__init__") fd ["self"] (spMK (He.ga K "MixedKeys")) ∧ Binds K fd ["self"] [] := by
  obtain ⟨fd, F⟩ := B.F_MixedKeys___init
  refine ⟨fd, ?_, F.binds fun _ _ _ _ _ _ us hl => match us, hl with | [_], _ => rfl⟩
  refine F.ok sc_mk (fun vs H Q E h => ?_) (fun cdv A outer s H vs Q E hr h => ?_)
  · obtain ⟨a, rfl, _⟩ := h
    rfl
  · obtain ⟨a, rfl, ha, k⟩ := h
    refine ⟨_, pss_one (ps_expr (pe_veinit (by rfl) B.b_ValueError (by rfl) (pa_cons (pv 0) pa_nil))), ?_⟩
    exact ⟨_, rfl, a, _, [], rfl, (by show 0 ≤ 1000; decide), B.ox_MixedKeys.1, ha, k⟩
theorem sc_cs : FnScope ["one", "other"] ["one", "other"] (defScope s_check_same_keys) := ⟨rfl, rfl, rfl, by decide +kernel, rfl, by decide +kernel, by decide +kernel⟩
theorem ok_ck (B : Bk K mg) : Df P w K mg base (L2.CX P w) 4 "check_same_keys" ["one", "other"] (spCk K) := by
  obtain ⟨fd, F⟩ := B.F_check_same_keys
  obtain ⟨fdS, GS, bS⟩ := ok_schema (P := P) (w := w) (base := base) B
  obtain ⟨fdE, GE, bE⟩ := ok_eqK (P := P) (w := w) (base := base) B
  obtain ⟨fdM, GM, bM⟩ := ok_mk (P := P) (w := w) (base := base) B
  obtain ⟨oxc, oi, ot⟩ := B.ox_MixedKeys
  refine ⟨⟨fd, ?_, F.binds fun _ _ _ _ _ _ us hl => match us, hl with | [_, _], _ => rfl⟩, B.g_check_same_keys, F.kp⟩
  refine F.okX sc_cs (fun vs H Q E h => ?_) (fun cdv A outer s H vs Q E hr h => ?_)
  · obtain ⟨_, _, _, _, _, _, _, _, _, _, _, _, rfl, _⟩ := h
    rfl
  · obtain ⟨x, y, kx, ky, dx, dy, ns, ms, t, u, m, m', rfl, ox, oy, h⟩ := h
    have hr1 : Room 1 _ := hr.mono (by decide)
    have hr2 : Room 2 _ := hr.mono (by decide)
    have hu : _ + 1 < cLine := hu_of hr
    refine ⟨_, pss_one (ps_if (pt_cmpR (op_neOwn (E := E0) GE hr2 hu B.sp_Keys_eq.1 B.sp_Keys_eq.2 B.ne_Keys B.ty_Keys.2.2.2 bE pass0) (pe_prop (pv 0) B.cl_Stage B.pr_Stage_schema GS hr2 bS .nil pass0 rfl) (pe_prop (pv 1) B.cl_Stage B.pr_Stage_schema GS hr2 bS .nil pass0 rfl) (nomark _))
      (pss_one (ps_raise rfl (takes_of rfl rfl rfl rfl) (pmk_oeZ oxc oi ot GM hr2 bM pass0 (by rfl) B.g_MixedKeys))) pss_nil), ?_⟩
    obtain ⟨ax, hx⟩ := ox.x
    obtain ⟨ay, hy⟩ := oy.x
    obtain ⟨d1, _, _, _, hk1, _⟩ := id ox.k
    refine ⟨_, rfl, x, ax, _, rfl, hx, x, kx, dx, ns, m, rfl, ox.r, ?_⟩
    refine ⟨_, rfl, y, ay, _, rfl, hy, y, ky, dy, ms, m', rfl, oy.r, ?_⟩
    refine ⟨kx, d1, _, _, rfl, hk1, oy.k.ty B, nf_self, kx, ky, ns, t, rfl, ox.k, .inl ⟨ms, u, oy.k, _, rfl, _, rfl, ?_⟩⟩
    rcases h with ⟨rfl, rfl, k⟩ | ⟨hl, kE⟩
    · rw [keys_same]
      exact iteF k
    · rw [keys_len hl]
      refine iteT fun a na => ⟨a, rfl, upd_same, rfl, upd_same, kE _ fun b o q => ?_⟩
      have nb : b ≠ a := ne_of_none q na
      rw [del_ne nb, upd_ne nb]
      exact q
theorem isi_st (B : Bk K mg) : PySem.W.kitOne K (.ref (He.ga K "Stage")) (.ref (He.ga K "Stage")) = some true := B.kit_Stage_Stage
abbrev NL : List Str := ["self", "other", "name", "m"]
theorem sc_le : FnScope NL ["self", "other"] (defScope s_Stage___le__) := ⟨rfl, rfl, rfl, by decide +kernel, rfl, by decide +kernel, by decide +kernel⟩
theorem ok_le (B : Bk K mg) : ∃ fd, FnOk P w K mg base (L2.CX P w) 5 (He.ma K (He.ga K "Stage") "__le__") fd ["self", "other"] (spLe K) ∧ Binds K fd ["self", "other"] [] := by
  obtain ⟨fd, F⟩ := B.F_Stage___le
  obtain ⟨fdC, GC, bC⟩ := (ok_ck (P := P) (w := w) (base := base) B).ex
  have kC := (ok_ck (P := P) (w := w) (base := base) B).kp
  obtain ⟨fdD, GD, bD⟩ := (ok_divides (P := P) (w := w) (base := base) B).ex
  have kD := (ok_divides (P := P) (w := w) (base := base) B).kp
  obtain ⟨fdG, GG, bG⟩ := ok_get (P := P) (w := w) (base := base) B
  refine ⟨fd, ?_, F.binds fun _ _ _ _ _ _ us hl => match us, hl with | [_, _], _ => rfl⟩
  refine F.okX sc_le (fun vs H Q E h => ?_) (fun cdv A outer s H vs Q E hr h => ?_)
  · rcases h with ⟨_, _, _, _, _, _, _, _, _, _, rfl, _⟩ | ⟨_, _, _, _, _, _, _, _, _, _, _, _, rfl, _⟩ <;> rfl
  · have hr1 : Room 1 _ := hr.mono (by decide)
    refine ⟨_, pss_cons (ps_if (pt_not (pt_val (pe_callB call_isi (by rfl) B.b_isinstance (by decide +kernel) (pa_cons (pv 1) (pa_cons (pe_glob (v := .ref (He.ga K "Stage")) rfl B.g_Stage rfl) pa_nil))))) (pss_one ps_never) pss_nil)
      (pss_cons (ps_expr (pe_call GC hr rfl B.g_check_same_keys kC bC .nil (passes_call (takes_of rfl rfl rfl rfl) (fun _ _ _ _ h => h)) (pa_cons (pv 0) (pa_cons (pv 1) pa_nil))))
      (pss_one (ps_ret (pe_callB (cr_all rfl) (by rfl) B.b_all (by decide +kernel) (pa_cons (pe_lock (pe_lc (own := [("name", 2), ("m", 3)]) (g := gTup K 2 (gCons (gName 2) (gCons (gName 3) gNil))) (tt := tYes) rfl sc_le.nd (pi_items (pe_fld (pv 0) rfl)) (blkOk_by (N := NL) (sc := defScope s_Stage___le__) (by decide +kernel))
        (fun _ _ _ _ _ => pg_tup rfl (pgs_cons (pg_name (i := 2) sc_le.nd rfl (Or.inl rfl)) (pgs_cons (pg_name (i := 3) sc_le.nd rfl (Or.inl rfl)) pgs_nil))) (fun _ _ _ _ _ => pts_nil)
        (fun _ _ _ _ _ => pe_call GD hr1 rfl B.g_divides kD bD .nil pass0 (pa_cons (pv 3) (pa_cons (pe_ixOwn (E := fun _ _ _ => False) GG hr B.sp_Stage_getitem B.fin_Stage_getitem bG passF (pv 1) (pv 2) (fun _ _ => rfl)) pa_nil))))) pa_nil))))), ?_⟩
    rcases h with ⟨x, y, kx, ky, dx, dy, ns, t, m, u, rfl, tw, k⟩ | ⟨x, y, kx, ky, dx, dy, ns, ms, t, u, m, m', rfl, ox, oy, hl, kE⟩
    · obtain ⟨ax, hx⟩ := tw.a.x
      refine ⟨_, rfl, _, _, _, _, _, rfl, .own _, tw.b.ty B, B.kit_Stage_Stage, _, rfl, iteF ?_⟩
      refine ⟨_, rfl, _, rfl, x, y, kx, ky, dx, dy, ns, ns, t, t, m, u, rfl, tw.a, tw.b, .inl ⟨rfl, rfl, ?_⟩⟩
      have l8 : (hs ns).length ≤ 8 := by
        obtain ⟨_, _, _, _, _, _, _, _, _, l7, _⟩ := id tw.a.k
        rw [List.length_cons]
        omega
      refine ⟨dx, _, tw.a.d, trivial, fun od => ?_⟩
      have hx1 : (upd H dx (.frz od (.dK (kvG (hs ns) (numV m))))) x = some (.ins (He.ga K "Stage") ax [("_schema", .ref kx), ("_numbers", .ref dx)]) := by
        rw [upd_ne (ne_of hx tw.a.d (by intro z; cases z))]
        exact hx
      have ry : StageR K (upd H dx (.frz od (.dK (kvG (hs ns) (numV m))))) y ky dy ns u := tw.b.r.lock tw.a.d
      refine ⟨_, rfl, x, _, ax, _, _, rfl, hx1, B.cl_Stage, B.no_Stage__numbers, rfl, dx, od, _, rfl, upd_same, fun D hD => ?_⟩
      refine lc_fm (walk_items (d := dx) (o := od) (kvs := kvG (hs ns) (numV m))) (fun i => (hs ns)[i]?.map fun n => V.bl (decide (m n ∣ u n))) hD (by rw [kvG_len]; exact Nat.le_trans l8 (by decide)) (fun H' s' => s' _ _ upd_same) (fun i v H2 H3 Kt Kf hi s2 yy kt kf => ?_) (fun H2 s2 hD2 => ?_)
      · obtain ⟨T, u', v', rfl, nT, rfl, e1, e2⟩ := yy
        obtain ⟨n, hn, rfl, rfl⟩ := itmG e1 e2
        have hni : n ∈ hs ns := List.mem_of_getElem? hn
        have s3 := s2.trans (Same_new (a := T) (o := HO.tup [.str n, iV (m n)]) nT)
        obtain ⟨⟨ay, hy⟩, _⟩ := id (ry.same s3)
        refine ⟨_, _, rfl, SqT.of upd_same, rfl, _, _, rfl, _, _, rfl, rfl, rfl, iteT (B := ∃ z : Nat, z = 0) ?_⟩
        refine ⟨_, rfl, _, rfl, _, rfl, y, ay, _, rfl, hy, y, ky, dy, n, ns, u, rfl, ry.same s3, fun _ => ?_, fun q => absurd hni q⟩
        exact ⟨m n, u n, rfl, dvd_lt (tw.sa.dv n hni), dvd_lt (tw.sb.dv n hni), kt _ _ (at_map hn) (Same_new nT)⟩
      · have eD : (List.range (kvG (hs ns) (numV m)).length).filterMap (fun i => (hs ns)[i]?.map fun n => V.bl (decide (m n ∣ u n))) = ((hs ns).map fun n => decide (m n ∣ u n)).map V.bl := by
          rw [kvG_len, fm_some (g := fun n => V.bl (decide (m n ∣ u n))) fun i x hx => by rw [hx]; rfl, List.map_map]
          rfl
        rw [eD] at hD2
        have nDd : D ≠ dx := fun z => by rw [z, upd_same] at hD; cases hD
        refine ⟨s2 _ _ upd_same, D, _, rfl, SqL.of (by rw [upd_ne nDd]; exact hD2), ?_⟩
        rw [all_le]
        exact k _ (Same_unlock tw.a.d s2)
    · refine ⟨_, rfl, _, _, _, _, _, rfl, .own _, oy.ty B, B.kit_Stage_Stage, _, rfl, iteF ?_⟩
      exact ⟨_, rfl, _, rfl, x, y, kx, ky, dx, dy, ns, ms, t, u, m, m', rfl, ox, oy, .inr ⟨hl, kE⟩⟩
end
end Jd
namespace Jd
open PySem PySem.Spec PyProof.Rows L2
/-! ### <, |, &, ^ -/
theorem NpAt.unlock {H : Hp} {ps : List Addr} {l : List Str} {f : Str → Nat} {d : Addr} {od : Obj} {u u' : HO} (h : NpAt H ps l f) (hd : H d = some (.frz od u)) : NpAt (upd H d u') ps l f := ⟨h.1, fun i p hp => by
  obtain ⟨n, a, b⟩ := h.2 i p hp
  exact ⟨n, a, by rw [upd_ne (ne_of b hd (by intro z; cases z))]; exact b⟩⟩
theorem NpAt.into {H : Hp} {ps : List Addr} {l : List Str} {f : Str → Nat} {d : Addr} {xs : List V} {u' : HO} (h : NpAt H ps l f) (hd : H d = some (.lst xs)) : NpAt (upd H d u') ps l f := ⟨h.1, fun i p hp => by
  obtain ⟨n, a, b⟩ := h.2 i p hp
  exact ⟨n, a, by rw [upd_ne (ne_of b hd (by intro z; cases z))]; exact b⟩⟩
section
variable {P : Program} {w : World} {K : PySem.W.Frag} {mg : Str → Option Value} {base : Heap}
theorem sc_or : FnScope NL ["self", "other"] (defScope s_Stage___or__) := ⟨rfl, rfl, rfl, by decide +kernel, rfl, by decide +kernel, by decide +kernel⟩
theorem ok_or (B : Bk K mg) : ∃ fd, FnOk P w K mg base (L2.CX P w) 9 (He.ma K (He.ga K "Stage") "__or__") fd ["self", "other"] (spOr K) ∧ Binds K fd ["self", "other"] [] := by
  obtain ⟨fd, F⟩ := B.F_Stage___or
  obtain ⟨fdC, GC, bC⟩ := (ok_ck (P := P) (w := w) (base := base) B).ex
  have kC := (ok_ck (P := P) (w := w) (base := base) B).kp
  obtain ⟨fdN, GN, bN⟩ := (ok_numbered (P := P) (w := w) (base := base) B).ex
  have kN := (ok_numbered (P := P) (w := w) (base := base) B).kp
  obtain ⟨fdG, GG, bG⟩ := ok_get (P := P) (w := w) (base := base) B
  refine ⟨fd, ?_, F.binds fun _ _ _ _ _ _ us hl => match us, hl with | [_, _], _ => rfl⟩
  refine F.okX sc_or (fun vs H Q E h => ?_) (fun cdv A outer s H vs Q E hr h => ?_)
  · rcases h with ⟨_, _, _, _, _, _, _, _, _, _, rfl, _⟩ | ⟨_, _, _, _, _, _, _, _, _, _, _, _, rfl, _⟩ <;> rfl
  · have hr4 : Room 4 _ := hr.mono (by decide)
    refine ⟨_, pss_cons (ps_if (pt_not (pt_val (pe_callB call_isi (by rfl) B.b_isinstance (by decide +kernel) (pa_cons (pv 1) (pa_cons (pe_glob (v := .ref (He.ga K "Stage")) rfl B.g_Stage rfl) pa_nil))))) (pss_one ps_never) pss_nil)
      (pss_cons (ps_expr (pe_call GC hr4 rfl B.g_check_same_keys kC bC .nil (passes_call (takes_of rfl rfl rfl rfl) (fun _ _ _ _ h => h)) (pa_cons (pv 0) (pa_cons (pv 1) pa_nil))))
      (pss_one (ps_ret (pe_call GN hr rfl B.g_stage_of_numbers kN bN .nil pass0 (pa_cons (pe_fld (pv 0) rfl) (pa_cons (pe_lock (pe_lc (own := [("name", 2), ("m", 3)]) (g := gTup K 2 (gCons (gName 2) (gCons (gName 3) gNil))) (tt := tYes) rfl sc_or.nd (pi_items (pe_fld (pv 0) rfl)) (blkOk_by (N := NL) (sc := defScope s_Stage___or__) (by decide +kernel))
        (fun _ _ _ _ _ => pg_tup rfl (pgs_cons (pg_name (i := 2) sc_or.nd rfl (Or.inl rfl)) (pgs_cons (pg_name (i := 3) sc_or.nd rfl (Or.inl rfl)) pgs_nil))) (fun _ _ _ _ _ => pts_nil)
        (fun _ _ _ _ _ => pe_tup (pa_cons (pv 2) (pa_cons (pe_callBfun cr_lcm (by rfl) B.bl_lcm (pa_cons (pv 3) (pa_cons (pe_ixOwn (E := fun _ _ _ => False) GG hr4 B.sp_Stage_getitem B.fin_Stage_getitem bG passF (pv 1) (pv 2) (fun _ _ => rfl)) pa_nil))) pa_nil))))) pa_nil)))))), ?_⟩
    rcases h with ⟨x, y, kx, ky, dx, dy, ns, t, m, u, rfl, tw, k⟩ | ⟨x, y, kx, ky, dx, dy, ns, ms, t, u, m, m', rfl, ox, oy, hl, kE⟩
    · obtain ⟨ax, hx⟩ := tw.a.x
      refine ⟨_, rfl, _, _, _, _, _, rfl, .own _, tw.b.ty B, B.kit_Stage_Stage, _, rfl, iteF ?_⟩
      refine ⟨_, rfl, _, rfl, x, y, kx, ky, dx, dy, ns, ns, t, t, m, u, rfl, tw.a, tw.b, .inl ⟨rfl, rfl, ?_⟩⟩
      have l8 : (hs ns).length ≤ 8 := by
        obtain ⟨_, _, _, _, _, _, _, _, _, l7, _⟩ := id tw.a.k
        rw [List.length_cons]
        omega
      refine ⟨_, rfl, x, _, ax, _, _, rfl, hx, B.cl_Stage, B.no_Stage__schema, rfl, ?_⟩
      refine ⟨dx, _, tw.a.d, trivial, fun od => ?_⟩
      have hx1 : (upd H dx (.frz od (.dK (kvG (hs ns) (numV m))))) x = some (.ins (He.ga K "Stage") ax [("_schema", .ref kx), ("_numbers", .ref dx)]) := by
        rw [upd_ne (ne_of hx tw.a.d (by intro z; cases z))]
        exact hx
      have ry : StageR K (upd H dx (.frz od (.dK (kvG (hs ns) (numV m))))) y ky dy ns u := tw.b.r.lock tw.a.d
      refine ⟨_, rfl, x, _, ax, _, _, rfl, hx1, B.cl_Stage, B.no_Stage__numbers, rfl, dx, od, _, rfl, upd_same, fun D hD => ?_⟩
      refine lc_it (walk_items (d := dx) (o := od) (kvs := kvG (hs ns) (numV m))) (fun i H' => Same (upd H dx (.frz od (.dK (kvG (hs ns) (numV m))))) H' ∧ ∃ ps : List Addr, H' D = some (.lst (ps.map V.ref)) ∧ NpAt H' ps ((hs ns).take i) (jn m u))
        ⟨Same_new hD, [], upd_same, rfl, fun i p h => by cases h⟩ (fun i H' _ p => p.1 _ _ upd_same) (fun i v H2 H3 hi ⟨s1, ps, hD1, np⟩ yy => ?_) (fun H2 ⟨s2, ps, hD2, np⟩ => ?_)
      · obtain ⟨T, u', v', rfl, nT, rfl, e1, e2⟩ := yy
        obtain ⟨n, hn, rfl, rfl⟩ := itmG e1 e2
        have hni : n ∈ hs ns := List.mem_of_getElem? hn
        have sT : Same H2 (upd H2 T (.tup [.str n, iV (m n)])) := Same_new nT
        have s3 := s1.trans sT
        obtain ⟨⟨ay, hy⟩, _⟩ := id (ry.same s3)
        refine ⟨_, _, rfl, SqT.of upd_same, rfl, _, _, rfl, _, _, rfl, rfl, rfl, iteT (B := ∃ z : Nat, z = 0) ?_⟩
        refine ⟨_, rfl, _, rfl, _, rfl, _, rfl, y, ay, _, rfl, hy, y, ky, dy, n, ns, u, rfl, ry.same s3, fun _ => ?_, fun q => absurd hni q⟩
        refine ⟨m n, u n, rfl, dvd_lt (tw.sa.dv n hni), dvd_lt (tw.sb.dv n hni), dvd_lt (dvd_lcm (tw.sa.dv n hni) (tw.sb.dv n hni)), ?_⟩
        refine ⟨(by show 2 ≤ sizeLine; decide), fun p hp => ?_⟩
        have s4 : Same H2 (upd (upd H2 T (.tup [.str n, iV (m n)])) p (.tup [.str n, iV (jn m u n)])) := Same_lay sT hp
        have hD4 := s4 _ _ hD1
        refine ⟨_, hD4, ?_, Same_upd (s1.trans s4) hD, ps ++ [p], by rw [upd_same, List.map_append]; rfl, ?_⟩
        · rw [List.length_map, np.1, List.length_take]
          have : (8 : Nat) < sizeLine := by decide
          omega
        · rw [List.take_add_one, hn]
          exact NpAt.into ((np.same s4).snoc upd_same) hD4
      · rw [kvG_len, List.take_length] at np
        have nDd : D ≠ dx := fun z => by rw [z, upd_same] at hD; cases hD
        have hf := s2 _ _ (upd_same (H := H) (a := dx) (o := HO.frz od (.dK (kvG (hs ns) (numV m)))))
        have su := Same_unlock tw.a.d s2
        exact ⟨hf, kx, D, ns, t, jn m u, ps, rfl, tw.a.k.same su, tw.sa.jn tw.sb, by rw [upd_ne nDd]; exact hD2, np.unlock hf, fun H' z d s so => k H' z d (su.trans s) so⟩
    · refine ⟨_, rfl, _, _, _, _, _, rfl, .own _, oy.ty B, B.kit_Stage_Stage, _, rfl, iteF ?_⟩
      exact ⟨_, rfl, _, rfl, x, y, kx, ky, dx, dy, ns, ms, t, u, m, m', rfl, ox, oy, .inr ⟨hl, kE⟩⟩
theorem sc_and : FnScope NL ["self", "other"] (defScope s_Stage___and__) := ⟨rfl, rfl, rfl, by decide +kernel, rfl, by decide +kernel, by decide +kernel⟩
theorem ok_and (B : Bk K mg) : ∃ fd, FnOk P w K mg base (L2.CX P w) 9 (He.ma K (He.ga K "Stage") "__and__") fd ["self", "other"] (spAnd K) ∧ Binds K fd ["self", "other"] [] := by
  obtain ⟨fd, F⟩ := B.F_Stage___and
  obtain ⟨fdC, GC, bC⟩ := (ok_ck (P := P) (w := w) (base := base) B).ex
  have kC := (ok_ck (P := P) (w := w) (base := base) B).kp
  obtain ⟨fdN, GN, bN⟩ := (ok_numbered (P := P) (w := w) (base := base) B).ex
  have kN := (ok_numbered (P := P) (w := w) (base := base) B).kp
  obtain ⟨fdG, GG, bG⟩ := ok_get (P := P) (w := w) (base := base) B
  refine ⟨fd, ?_, F.binds fun _ _ _ _ _ _ us hl => match us, hl with | [_, _], _ => rfl⟩
  refine F.okX sc_and (fun vs H Q E h => ?_) (fun cdv A outer s H vs Q E hr h => ?_)
  · rcases h with ⟨_, _, _, _, _, _, _, _, _, _, rfl, _⟩ | ⟨_, _, _, _, _, _, _, _, _, _, _, _, rfl, _⟩ <;> rfl
  · have hr4 : Room 4 _ := hr.mono (by decide)
    refine ⟨_, pss_cons (ps_if (pt_not (pt_val (pe_callB call_isi (by rfl) B.b_isinstance (by decide +kernel) (pa_cons (pv 1) (pa_cons (pe_glob (v := .ref (He.ga K "Stage")) rfl B.g_Stage rfl) pa_nil))))) (pss_one ps_never) pss_nil)
      (pss_cons (ps_expr (pe_call GC hr4 rfl B.g_check_same_keys kC bC .nil (passes_call (takes_of rfl rfl rfl rfl) (fun _ _ _ _ h => h)) (pa_cons (pv 0) (pa_cons (pv 1) pa_nil))))
      (pss_one (ps_ret (pe_call GN hr rfl B.g_stage_of_numbers kN bN .nil pass0 (pa_cons (pe_fld (pv 0) rfl) (pa_cons (pe_lock (pe_lc (own := [("name", 2), ("m", 3)]) (g := gTup K 2 (gCons (gName 2) (gCons (gName 3) gNil))) (tt := tYes) rfl sc_and.nd (pi_items (pe_fld (pv 0) rfl)) (blkOk_by (N := NL) (sc := defScope s_Stage___and__) (by decide +kernel))
        (fun _ _ _ _ _ => pg_tup rfl (pgs_cons (pg_name (i := 2) sc_and.nd rfl (Or.inl rfl)) (pgs_cons (pg_name (i := 3) sc_and.nd rfl (Or.inl rfl)) pgs_nil))) (fun _ _ _ _ _ => pts_nil)
        (fun _ _ _ _ _ => pe_tup (pa_cons (pv 2) (pa_cons (pe_callBfun cr_gcd (by rfl) B.bl_gcd (pa_cons (pv 3) (pa_cons (pe_ixOwn (E := fun _ _ _ => False) GG hr4 B.sp_Stage_getitem B.fin_Stage_getitem bG passF (pv 1) (pv 2) (fun _ _ => rfl)) pa_nil))) pa_nil))))) pa_nil)))))), ?_⟩
    rcases h with ⟨x, y, kx, ky, dx, dy, ns, t, m, u, rfl, tw, k⟩ | ⟨x, y, kx, ky, dx, dy, ns, ms, t, u, m, m', rfl, ox, oy, hl, kE⟩
    · obtain ⟨ax, hx⟩ := tw.a.x
      refine ⟨_, rfl, _, _, _, _, _, rfl, .own _, tw.b.ty B, B.kit_Stage_Stage, _, rfl, iteF ?_⟩
      refine ⟨_, rfl, _, rfl, x, y, kx, ky, dx, dy, ns, ns, t, t, m, u, rfl, tw.a, tw.b, .inl ⟨rfl, rfl, ?_⟩⟩
      have l8 : (hs ns).length ≤ 8 := by
        obtain ⟨_, _, _, _, _, _, _, _, _, l7, _⟩ := id tw.a.k
        rw [List.length_cons]
        omega
      refine ⟨_, rfl, x, _, ax, _, _, rfl, hx, B.cl_Stage, B.no_Stage__schema, rfl, ?_⟩
      refine ⟨dx, _, tw.a.d, trivial, fun od => ?_⟩
      have hx1 : (upd H dx (.frz od (.dK (kvG (hs ns) (numV m))))) x = some (.ins (He.ga K "Stage") ax [("_schema", .ref kx), ("_numbers", .ref dx)]) := by
        rw [upd_ne (ne_of hx tw.a.d (by intro z; cases z))]
        exact hx
      have ry : StageR K (upd H dx (.frz od (.dK (kvG (hs ns) (numV m))))) y ky dy ns u := tw.b.r.lock tw.a.d
      refine ⟨_, rfl, x, _, ax, _, _, rfl, hx1, B.cl_Stage, B.no_Stage__numbers, rfl, dx, od, _, rfl, upd_same, fun D hD => ?_⟩
      refine lc_it (walk_items (d := dx) (o := od) (kvs := kvG (hs ns) (numV m))) (fun i H' => Same (upd H dx (.frz od (.dK (kvG (hs ns) (numV m))))) H' ∧ ∃ ps : List Addr, H' D = some (.lst (ps.map V.ref)) ∧ NpAt H' ps ((hs ns).take i) (mt m u))
        ⟨Same_new hD, [], upd_same, rfl, fun i p h => by cases h⟩ (fun i H' _ p => p.1 _ _ upd_same) (fun i v H2 H3 hi ⟨s1, ps, hD1, np⟩ yy => ?_) (fun H2 ⟨s2, ps, hD2, np⟩ => ?_)
      · obtain ⟨T, u', v', rfl, nT, rfl, e1, e2⟩ := yy
        obtain ⟨n, hn, rfl, rfl⟩ := itmG e1 e2
        have hni : n ∈ hs ns := List.mem_of_getElem? hn
        have sT : Same H2 (upd H2 T (.tup [.str n, iV (m n)])) := Same_new nT
        have s3 := s1.trans sT
        obtain ⟨⟨ay, hy⟩, _⟩ := id (ry.same s3)
        refine ⟨_, _, rfl, SqT.of upd_same, rfl, _, _, rfl, _, _, rfl, rfl, rfl, iteT (B := ∃ z : Nat, z = 0) ?_⟩
        refine ⟨_, rfl, _, rfl, _, rfl, _, rfl, y, ay, _, rfl, hy, y, ky, dy, n, ns, u, rfl, ry.same s3, fun _ => ?_, fun q => absurd hni q⟩
        refine ⟨(m n : Int), (u n : Int), rfl, ?_⟩
        refine ⟨(by show 2 ≤ sizeLine; decide), fun p hp => ?_⟩
        have s4 : Same H2 (upd (upd H2 T (.tup [.str n, iV (m n)])) p (.tup [.str n, iV (mt m u n)])) := Same_lay sT hp
        have hD4 := s4 _ _ hD1
        refine ⟨_, hD4, ?_, Same_upd (s1.trans s4) hD, ps ++ [p], by rw [upd_same, List.map_append]; rfl, ?_⟩
        · rw [List.length_map, np.1, List.length_take]
          have : (8 : Nat) < sizeLine := by decide
          omega
        · rw [List.take_add_one, hn]
          exact NpAt.into ((np.same s4).snoc upd_same) hD4
      · rw [kvG_len, List.take_length] at np
        have nDd : D ≠ dx := fun z => by rw [z, upd_same] at hD; cases hD
        have hf := s2 _ _ (upd_same (H := H) (a := dx) (o := HO.frz od (.dK (kvG (hs ns) (numV m)))))
        have su := Same_unlock tw.a.d s2
        exact ⟨hf, kx, D, ns, t, mt m u, ps, rfl, tw.a.k.same su, tw.sa.mt tw.sb, by rw [upd_ne nDd]; exact hD2, np.unlock hf, fun H' z d s so => k H' z d (su.trans s) so⟩
    · refine ⟨_, rfl, _, _, _, _, _, rfl, .own _, oy.ty B, B.kit_Stage_Stage, _, rfl, iteF ?_⟩
      exact ⟨_, rfl, _, rfl, x, y, kx, ky, dx, dy, ns, ms, t, u, m, m', rfl, ox, oy, .inr ⟨hl, kE⟩⟩
theorem sc_lt : FnScope ["self", "other"] ["self", "other"] (defScope s_Stage___lt__) := ⟨rfl, rfl, rfl, by decide +kernel, rfl, by decide +kernel, by decide +kernel⟩
theorem eq_two {ns : List Str} {t : Str → List Str} {m u : Str → Nat} : (decide (ns.length = ns.length ∧ ∀ n ∈ ns, n ∈ ns ∧ t n = t n) && decide ((hs ns).length = (hs ns).length ∧ ∀ n ∈ hs ns, n ∈ hs ns ∧ m n = u n)) = eqB ns m u := by
  rw [keys_same, Bool.true_and]
  unfold eqB
  exact decide_eq_decide.mpr ⟨fun q n hn => (q.2 n hn).2, fun q => ⟨rfl, fun n hn => ⟨hn, q n hn⟩⟩⟩
theorem ok_lt (B : Bk K mg) : ∃ fd, FnOk P w K mg base (L2.CX P w) 6 (He.ma K (He.ga K "Stage") "__lt__") fd ["self", "other"] (spLt K) ∧ Binds K fd ["self", "other"] [] := by
  obtain ⟨fd, F⟩ := B.F_Stage___lt
  obtain ⟨fdL, GL, bL⟩ := ok_le (P := P) (w := w) (base := base) B
  obtain ⟨fdE, GE, bE⟩ := ok_eqS (P := P) (w := w) (base := base) B
  refine ⟨fd, ?_, F.binds fun _ _ _ _ _ _ us hl => match us, hl with | [_, _], _ => rfl⟩
  refine F.okX sc_lt (fun vs H Q E h => ?_) (fun cdv A outer s H vs Q E hr h => ?_)
  · rcases h with ⟨_, _, _, _, _, _, _, _, _, _, rfl, _⟩ | ⟨_, _, _, _, _, _, _, _, _, _, _, _, rfl, _⟩ <;> rfl
  · have hr2 : Room 2 _ := hr.mono (by decide)
    refine ⟨_, pss_cons (ps_if (pt_not (pt_val (pe_callB call_isi (by rfl) B.b_isinstance (by decide +kernel) (pa_cons (pv 1) (pa_cons (pe_glob (v := .ref (He.ga K "Stage")) rfl B.g_Stage rfl) pa_nil))))) (pss_one ps_never) pss_nil)
      (pss_one (ps_ret (pe_and (pe_cmpR (op_cmpOwn (op := .LtE) rfl GL hr B.sp_Stage_le bL (passes_call (takes_of rfl rfl rfl rfl) (fun _ _ _ _ h => h))) (pv 0) (pv 1) (nomark _))
        (pe_one (pe_not (pe_cmpR (op_eqOwn (E := E0) GE hr2 B.sp_Stage_eq.1 B.sp_Stage_eq.2 bE pass0) (pv 0) (pv 1) (nomark _))))))), ?_⟩
    rcases h with ⟨x, y, kx, ky, dx, dy, ns, t, m, u, rfl, tw, k⟩ | ⟨x, y, kx, ky, dx, dy, ns, ms, t, u, m, m', rfl, ox, oy, hl, kE⟩
    · obtain ⟨ax, hx⟩ := tw.a.x
      refine ⟨_, rfl, _, _, _, _, _, rfl, .own _, tw.b.ty B, B.kit_Stage_Stage, _, rfl, iteF ?_⟩
      refine ⟨_, rfl, _, rfl, x, ax, _, rfl, hx, tw.b.ty B, .inl ⟨x, y, kx, ky, dx, dy, ns, t, m, u, rfl, tw, fun H' s' => ?_⟩⟩
      refine ⟨_, rfl, two (fun h1 => ?_) (fun h1 => ?_)⟩
      · have tw' := tw.same s'
        obtain ⟨ax', hx'⟩ := tw'.a.x
        refine ⟨_, rfl, _, rfl, x, ax', _, _, rfl, hx', tw'.b.ty B, nf_self, x, y, kx, ky, dx, dy, ns, ns, t, t, m, u, rfl, tw'.a, .inl ⟨tw'.b, _, rfl, _, rfl, ?_⟩⟩
        have q := k H' s'
        rw [h1, Bool.true_and] at q
        rw [eq_two]
        exact q
      · have q := k H' s'
        rw [h1, Bool.false_and] at q
        exact q
    · obtain ⟨ax, hx⟩ := ox.x
      refine ⟨_, rfl, _, _, _, _, _, rfl, .own _, oy.ty B, B.kit_Stage_Stage, _, rfl, iteF ?_⟩
      exact ⟨_, rfl, _, rfl, x, ax, _, rfl, hx, oy.ty B, .inr ⟨x, y, kx, ky, dx, dy, ns, ms, t, u, m, m', rfl, ox, oy, hl, kE⟩⟩
theorem sc_xr : FnScope ["self", "other"] ["self", "other"] (defScope s_Stage___xor__) := ⟨rfl, rfl, rfl, by decide +kernel, rfl, by decide +kernel, by decide +kernel⟩
theorem ok_xr (B : Bk K mg) : ∃ fd, FnOk P w K mg base (L2.CX P w) 6 (He.ma K (He.ga K "Stage") "__xor__") fd ["self", "other"] (spXr K) ∧ Binds K fd ["self", "other"] [] := by
  obtain ⟨fd, F⟩ := B.F_Stage___xor
  obtain ⟨fdL, GL, bL⟩ := ok_le (P := P) (w := w) (base := base) B
  refine ⟨fd, ?_, F.binds fun _ _ _ _ _ _ us hl => match us, hl with | [_, _], _ => rfl⟩
  refine F.okX sc_xr (fun vs H Q E h => ?_) (fun cdv A outer s H vs Q E hr h => ?_)
  · obtain ⟨_, _, _, _, _, _, _, _, _, _, _, _, rfl, _⟩ := h
    rfl
  · refine ⟨_, pss_cons (ps_if (pt_not (pt_val (pe_callB call_isi (by rfl) B.b_isinstance (by decide +kernel) (pa_cons (pv 1) (pa_cons (pe_glob (v := .ref (He.ga K "Stage")) rfl B.g_Stage rfl) pa_nil))))) (pss_one ps_never) pss_nil)
      (pss_cons (ps_if (pt_not (pt_cmpR (op_cmpOwn (op := .LtE) rfl GL hr B.sp_Stage_le bL (passes_call (takes_of rfl rfl rfl rfl) (fun _ _ _ _ h => h))) (pv 1) (pv 0) (nomark _))) (pss_one ps_never) pss_nil)
      (pss_cons ps_never (pss_one ps_never))), ?_⟩
    obtain ⟨x, y, kx, ky, dx, dy, ns, ms, t, u, m, m', rfl, ox, oy, hl, kE⟩ := h
    obtain ⟨ay, hy⟩ := oy.x
    refine ⟨_, rfl, _, _, _, _, _, rfl, .own _, oy.ty B, B.kit_Stage_Stage, _, rfl, iteF ?_⟩
    exact ⟨_, rfl, _, rfl, y, ay, _, rfl, hy, ox.ty B, .inr ⟨y, x, ky, kx, dy, dx, ms, ns, u, t, m', m, rfl, oy, ox, fun e => hl e.symm, kE⟩⟩
end
end Jd
namespace Jd
/-! ### gcd and lcm: a distributive lattice -/
theorem lcm_of_dvd {a b : Nat} (h : a ∣ b) : Nat.lcm a b = b := Nat.dvd_antisymm (Nat.lcm_dvd h (Nat.dvd_refl b)) (Nat.dvd_lcm_right a b)
theorem dvd_iff_lcm {a b : Nat} : Nat.lcm a b = b ↔ a ∣ b := ⟨fun e => e ▸ Nat.dvd_lcm_left a b, lcm_of_dvd⟩
theorem gcd_of_dvd {a b : Nat} (h : a ∣ b) : Nat.gcd a b = a := Nat.dvd_antisymm (Nat.gcd_dvd_left a b) (Nat.dvd_gcd (Nat.dvd_refl a) h)
theorem dvd_iff_gcd {a b : Nat} : Nat.gcd a b = a ↔ a ∣ b := ⟨fun e => e ▸ Nat.gcd_dvd_right a b, gcd_of_dvd⟩
theorem lcm_absorb (a b : Nat) : Nat.lcm a (Nat.gcd a b) = a := by
  rw [Nat.lcm_comm]
  exact lcm_of_dvd (Nat.gcd_dvd_left a b)
theorem gcd_absorb (a b : Nat) : Nat.gcd a (Nat.lcm a b) = a := gcd_of_dvd (Nat.dvd_lcm_left a b)
theorem dvd_split {d u v : Nat} (h : d ∣ Nat.lcm u v) : d ∣ Nat.lcm (Nat.gcd d u) (Nat.gcd d v) := by
  rcases Nat.eq_zero_or_pos d with z | d0
  · subst z
    rw [Nat.gcd_zero_left, Nat.gcd_zero_left]
    exact h
  · have hg : ∀ g, g = Nat.gcd (Nat.gcd d u) (Nat.gcd d v) → 0 < g → d ∣ Nat.lcm (Nat.gcd d u) (Nat.gcd d v) := by
      intro g eg g0
      have gA : g ∣ Nat.gcd d u := eg ▸ Nat.gcd_dvd_left _ _
      have gB : g ∣ Nat.gcd d v := eg ▸ Nat.gcd_dvd_right _ _
      have gu : g ∣ u := Nat.dvd_trans gA (Nat.gcd_dvd_right d u)
      have gv : g ∣ v := Nat.dvd_trans gB (Nat.gcd_dvd_right d v)
      have e1 : Nat.gcd d u * Nat.gcd d v = Nat.gcd (d * Nat.gcd d v) (u * Nat.gcd d v) := (Nat.gcd_mul_right _ _ _).symm
      have e2 : u * Nat.gcd d v = Nat.gcd (u * d) (u * v) := (Nat.gcd_mul_left _ _ _).symm
      have p1 : d * g ∣ d * Nat.gcd d v := Nat.mul_dvd_mul (Nat.dvd_refl d) gB
      have p2 : d * g ∣ u * d := by
        rw [Nat.mul_comm u d]
        exact Nat.mul_dvd_mul (Nat.dvd_refl d) gu
      have p3 : d * g ∣ u * v := by
        rw [← Nat.gcd_mul_lcm u v, Nat.mul_comm]
        exact Nat.mul_dvd_mul (Nat.dvd_gcd gu gv) h
      have p : d * g ∣ Nat.gcd d u * Nat.gcd d v := by
        rw [e1]
        refine Nat.dvd_gcd p1 ?_
        rw [e2]
        exact Nat.dvd_gcd p2 p3
      rw [← Nat.gcd_mul_lcm (Nat.gcd d u) (Nat.gcd d v), ← eg, Nat.mul_comm d g] at p
      exact Nat.dvd_of_mul_dvd_mul_left g0 p
    exact hg _ rfl (Nat.gcd_pos_of_pos_left _ (Nat.gcd_pos_of_pos_left _ d0))
theorem gcd_lcm (m u v : Nat) : Nat.gcd m (Nat.lcm u v) = Nat.lcm (Nat.gcd m u) (Nat.gcd m v) := by
  refine Nat.dvd_antisymm ?_ ?_
  · have h := dvd_split (d := Nat.gcd m (Nat.lcm u v)) (u := u) (v := v) (Nat.gcd_dvd_right _ _)
    refine Nat.dvd_trans h (Nat.lcm_dvd ?_ ?_)
    · refine Nat.dvd_trans (Nat.dvd_gcd ?_ (Nat.gcd_dvd_right _ _)) (Nat.dvd_lcm_left _ _)
      exact Nat.dvd_trans (Nat.gcd_dvd_left _ _) (Nat.gcd_dvd_left _ _)
    · refine Nat.dvd_trans (Nat.dvd_gcd ?_ (Nat.gcd_dvd_right _ _)) (Nat.dvd_lcm_right _ _)
      exact Nat.dvd_trans (Nat.gcd_dvd_left _ _) (Nat.gcd_dvd_left _ _)
  · exact Nat.lcm_dvd (Nat.dvd_gcd (Nat.gcd_dvd_left _ _) (Nat.dvd_trans (Nat.gcd_dvd_right _ _) (Nat.dvd_lcm_left _ _))) (Nat.dvd_gcd (Nat.gcd_dvd_left _ _) (Nat.dvd_trans (Nat.gcd_dvd_right _ _) (Nat.dvd_lcm_right _ _)))
theorem lcm_gcd (m u v : Nat) : Nat.lcm m (Nat.gcd u v) = Nat.gcd (Nat.lcm m u) (Nat.lcm m v) := by
  rw [gcd_lcm (Nat.lcm m u) m v, Nat.gcd_comm (Nat.lcm m u) m, gcd_absorb, Nat.gcd_comm (Nat.lcm m u) v, gcd_lcm v m u, ← Nat.lcm_assoc, Nat.gcd_comm v m, lcm_absorb, Nat.gcd_comm v u]
/-! ### what the law compares -/
theorem leB_of {ns : List PySem.Str} {m u : PySem.Str → Nat} (h : ∀ n, m n ∣ u n) : leB ns m u = true := decide_eq_true fun n _ => h n
theorem eqB_of {ns : List PySem.Str} {m u : PySem.Str → Nat} (h : ∀ n, m n = u n) : eqB ns m u = true := decide_eq_true fun n _ => h n
theorem eq_jn {ns : List PySem.Str} {m u : PySem.Str → Nat} : eqB ns (jn m u) u = leB ns m u := decide_eq_decide.mpr ⟨fun h n hn => dvd_iff_lcm.mp (h n hn), fun h n hn => dvd_iff_lcm.mpr (h n hn)⟩
theorem eq_mt {ns : List PySem.Str} {m u : PySem.Str → Nat} : eqB ns (mt m u) m = leB ns m u := decide_eq_decide.mpr ⟨fun h n hn => dvd_iff_gcd.mp (h n hn), fun h n hn => dvd_iff_gcd.mpr (h n hn)⟩
theorem le_jn {ns : List PySem.Str} {m u v : PySem.Str → Nat} : leB ns (jn m u) v = (leB ns m v && leB ns u v) := by
  unfold leB
  rw [← Bool.decide_and]
  exact decide_eq_decide.mpr ⟨fun h => ⟨fun n hn => Nat.dvd_trans (Nat.dvd_lcm_left _ _) (h n hn), fun n hn => Nat.dvd_trans (Nat.dvd_lcm_right _ _) (h n hn)⟩, fun h n hn => Nat.lcm_dvd (h.1 n hn) (h.2 n hn)⟩
theorem le_mt {ns : List PySem.Str} {m u v : PySem.Str → Nat} : leB ns v (mt m u) = (leB ns v m && leB ns v u) := by
  unfold leB
  rw [← Bool.decide_and]
  exact decide_eq_decide.mpr ⟨fun h => ⟨fun n hn => Nat.dvd_trans (h n hn) (Nat.gcd_dvd_left _ _), fun n hn => Nat.dvd_trans (h n hn) (Nat.gcd_dvd_right _ _)⟩, fun h n hn => Nat.dvd_gcd (h.1 n hn) (h.2 n hn)⟩
theorem le_tr {ns : List PySem.Str} {m u v : PySem.Str → Nat} (h1 : leB ns m u = true) (h2 : leB ns u v = true) : leB ns m v = true := decide_eq_true fun n hn => Nat.dvd_trans (of_decide_eq_true h1 n hn) (of_decide_eq_true h2 n hn)
end Jd
namespace Jd
open PySem PySem.Spec PyProof.Rows L2
/-! ### a Stage with its numbers -/
structure Sg (K : PySem.W.Frag) (H : Hp) (x : Addr) (ns : List Str) (t : Str → List Str) (m : Str → Nat) : Prop where
  o : ∃ kk d, StageO K H x kk d ns t m
  s : StM ns t m
theorem Sg.same {K : PySem.W.Frag} {H H' : Hp} {x : Addr} {ns : List Str} {t : Str → List Str} {m : Str → Nat} (h : Sg K H x ns t m) (s : Same H H') : Sg K H' x ns t m := ⟨let ⟨k, d, o⟩ := h.o; ⟨k, d, o.same s⟩, h.s⟩
section
variable {K : PySem.W.Frag} {mg : Str → Option Value} {H : Hp} {x y : Addr} {ns : List Str} {t : Str → List Str} {m u : Str → Nat} {Q : VK} {E : XK}
theorem rd_or (B : Bk K mg) (a : Sg K H x ns t m) (b : Sg K H y ns t u) (k : ∀ H' z, Same H H' → Sg K H' z ns t (jn m u) → Q (.ref z) H') : rBinOwn K (He.ga K "Stage") (spOr K) E (.ref x) (.ref y) H Q := by
  obtain ⟨kx, dx, a1⟩ := a.o
  obtain ⟨ky, dy, b1⟩ := b.o
  obtain ⟨ax, hx⟩ := a1.x
  exact ⟨x, ax, _, rfl, hx, b1.ty B, .inl ⟨x, y, kx, ky, dx, dy, ns, t, m, u, rfl, ⟨a1, b1, a.s, b.s⟩, fun H' z d s' o => k H' z s' ⟨⟨_, d, o⟩, a.s.jn b.s⟩⟩⟩
theorem rd_and (B : Bk K mg) (a : Sg K H x ns t m) (b : Sg K H y ns t u) (k : ∀ H' z, Same H H' → Sg K H' z ns t (mt m u) → Q (.ref z) H') : rBinOwn K (He.ga K "Stage") (spAnd K) E (.ref x) (.ref y) H Q := by
  obtain ⟨kx, dx, a1⟩ := a.o
  obtain ⟨ky, dy, b1⟩ := b.o
  obtain ⟨ax, hx⟩ := a1.x
  exact ⟨x, ax, _, rfl, hx, b1.ty B, .inl ⟨x, y, kx, ky, dx, dy, ns, t, m, u, rfl, ⟨a1, b1, a.s, b.s⟩, fun H' z d s' o => k H' z s' ⟨⟨_, d, o⟩, a.s.mt b.s⟩⟩⟩
theorem rd_le (B : Bk K mg) (a : Sg K H x ns t m) (b : Sg K H y ns t u) (k : ∀ H', Same H H' → Q (.bl (leB ns m u)) H') : rBinOwn K (He.ga K "Stage") (spLe K) E (.ref x) (.ref y) H Q := by
  obtain ⟨kx, dx, a1⟩ := a.o
  obtain ⟨ky, dy, b1⟩ := b.o
  obtain ⟨ax, hx⟩ := a1.x
  exact ⟨x, ax, _, rfl, hx, b1.ty B, .inl ⟨x, y, kx, ky, dx, dy, ns, t, m, u, rfl, ⟨a1, b1, a.s, b.s⟩, k⟩⟩
theorem rd_lt (B : Bk K mg) (a : Sg K H x ns t m) (b : Sg K H y ns t u) (k : ∀ H', Same H H' → Q (.bl (leB ns m u && !eqB ns m u)) H') : rBinOwn K (He.ga K "Stage") (spLt K) E (.ref x) (.ref y) H Q := by
  obtain ⟨kx, dx, a1⟩ := a.o
  obtain ⟨ky, dy, b1⟩ := b.o
  obtain ⟨ax, hx⟩ := a1.x
  exact ⟨x, ax, _, rfl, hx, b1.ty B, .inl ⟨x, y, kx, ky, dx, dy, ns, t, m, u, rfl, ⟨a1, b1, a.s, b.s⟩, k⟩⟩
theorem rd_eq (B : Bk K mg) (a : Sg K H x ns t m) (b : Sg K H y ns t u) (k : Q (.bl (eqB ns m u)) H) : rEqOwn K (He.ga K "Stage") (spEqS K) E (.ref x) (.ref y) H Q := by
  obtain ⟨kx, dx, a1⟩ := a.o
  obtain ⟨ky, dy, b1⟩ := b.o
  obtain ⟨ax, hx⟩ := a1.x
  exact ⟨x, ax, _, _, rfl, hx, b1.ty B, nf_self, x, y, kx, ky, dx, dy, ns, ns, t, t, m, u, rfl, a1, .inl ⟨b1, _, rfl, by rw [eq_two]; exact k⟩⟩
theorem rd_ne (B : Bk K mg) (a : Sg K H x ns t m) (b : Sg K H y ns t u) (k : Q (.bl (!eqB ns m u)) H) : rNeOwn K (He.ga K "Stage") (spEqS K) E (.ref x) (.ref y) H Q := by
  obtain ⟨kx, dx, a1⟩ := a.o
  obtain ⟨ky, dy, b1⟩ := b.o
  obtain ⟨ax, hx⟩ := a1.x
  exact ⟨x, ax, _, _, rfl, hx, b1.ty B, nf_self, x, y, kx, ky, dx, dy, ns, ns, t, t, m, u, rfl, a1, .inl ⟨b1, _, rfl, by rw [eq_two]; exact k⟩⟩
theorem rd_ne0 (B : Bk K mg) (a : Sg K H x ns t m) (b : Sg K H y ns t u) (e : eqB ns m u = true) (k : Q (.bl false) H) : rNeOwn K (He.ga K "Stage") (spEqS K) E (.ref x) (.ref y) H Q := rd_ne B a b (by rw [e]; exact k)
theorem rd_get (a : Sg K H x ns t m) {n : Str} (hn : n ∈ hs ns) (k : Q (iV (m n)) H) : rIxOwn (He.ga K "Stage") (spGet K) E (.ref x) (.str n) H Q := by
  obtain ⟨kx, dx, a1⟩ := a.o
  obtain ⟨ax, hx⟩ := a1.x
  exact ⟨x, ax, _, rfl, hx, x, kx, dx, n, ns, m, rfl, a1.r, fun _ => k, fun q => absurd hn q⟩
end
theorem sm_lst {H : Hp} {n : Nat} {a b : Addr} {xs : List V} (h1 : H a = some (.lst xs)) (h2 : H b = some (.lst xs)) (l : xs.length < 1000) (f : ∀ x ∈ xs, FlatV x) : Sm H (n + 1) (.ref a) (.ref b) :=
  Or.inr ⟨a, b, xs, xs, rfl, rfl, rfl, l, fun i u v e1 e2 => by
    rw [e1] at e2
    cases e2
    exact Sm_flat (f _ (List.mem_of_getElem? e1)), .inl ⟨h1, h2⟩⟩
theorem eqv_ints : ∀ l m : List Nat, PyData.eqvAll (l.map fun n => PyData.int (n : Nat)) (m.map fun n => PyData.int (n : Nat)) = decide (l = m)
  | [], [] => by simp [PyData.eqvAll]
  | [], y :: ys => by simp [PyData.eqvAll]
  | x :: xs, [] => by simp [PyData.eqvAll]
  | x :: xs, y :: ys => by
    rw [List.map_cons, List.map_cons, PyData.eqvAll, eqv_ints xs ys, PyData.eqv]
    by_cases h : x = y
    · subst h
      simp
    · have hb : ((x : Int) == (y : Int)) = false := beq_eq_false_iff_ne.mpr fun q => h (by omega)
      rw [hb, Bool.false_and, decide_eq_false fun q => h (List.cons.inj q).1]
theorem dp_ints {K : PySem.W.Frag} {H : Hp} : ∀ l : List Nat, DpAll K H (l.map iV) (l.map fun n => PyData.int (n : Nat))
  | [] => .nil
  | x :: xs => .cons (.int _) (dp_ints xs)
theorem lay_ints : ∀ l : List Nat, PyData.canLayAll0 (l.map fun n => PyData.int (n : Nat)) = true
  | [] => by simp [PyData.canLayAll0]
  | x :: xs => by
    rw [List.map_cons]
    simp [PyData.canLayAll0, PyData.canLay0, lay_ints xs]
theorem dep_ints : ∀ l : List Nat, PyData.depthAll (l.map fun n => PyData.int (n : Nat)) = 0
  | [] => by simp [PyData.depthAll]
  | x :: xs => by
    rw [List.map_cons]
    simp [PyData.depthAll, PyData.depth, dep_ints xs]
theorem shp_ints (l : List Nat) : SeqAt.shaped (.list (l.map fun n => PyData.int (n : Nat))) = true := by
  unfold SeqAt.shaped
  rw [Bool.and_eq_true]
  refine ⟨by simpa [PyData.canLay0] using lay_ints l, decide_eq_true ?_⟩
  simp only [PyData.depth]
  have := dep_ints l
  omega
theorem map_eqB {l : List Str} {m u : Str → Nat} : decide (l.map m = l.map u) = decide (∀ n ∈ l, m n = u n) := by
  refine decide_eq_decide.mpr ⟨fun h n hn => ?_, fun h => List.map_congr_left h⟩
  obtain ⟨i, hi, rfl⟩ := List.getElem_of_mem hn
  have e := congrArg (fun z => z[i]?) h
  simp only [List.getElem?_map, List.getElem?_eq_getElem hi] at e
  exact Option.some.inj e
theorem all_dec {l : List Str} {p : Str → Prop} [DecidablePred p] : (l.map fun n => decide (p n)).all id = decide (∀ n ∈ l, p n) := by
  rw [List.all_map]
  induction l with
  | nil => exact (decide_eq_true fun n h => by cases h).symm
  | cons a l ih =>
    rw [List.all_cons, ih]
    show (decide (p a) && _) = _
    rw [← Bool.decide_and]
    exact decide_eq_decide.mpr ⟨fun q n hn => (List.mem_cons.mp hn).elim (fun e => e ▸ q.1) (q.2 n), fun q => ⟨q a List.mem_cons_self, fun n hn => q n (List.mem_cons_of_mem _ hn)⟩⟩
theorem sm_two {H : Hp} {g h g1 g2 h1 h2 : Addr} {n : Nat} (a : H g = some (.lst [.ref g1, .ref g2])) (b : H h = some (.lst [.ref h1, .ref h2])) (s1 : Sm H n (.ref g1) (.ref h1)) (s2 : Sm H n (.ref g2) (.ref h2)) : Sm H (n + 1) (.ref g) (.ref h) :=
  Or.inr ⟨g, h, [.ref g1, .ref g2], [.ref h1, .ref h2], rfl, rfl, rfl, (by show 2 < 1000; decide), fun i u v e1 e2 => (by
    match i with
    | 0 => cases e1; cases e2; exact s1
    | 1 => cases e1; cases e2; exact s2
    | i + 2 => cases e1), .inl ⟨a, b⟩⟩
/-- a comprehension over names -/
theorem lc_hs {K : PySem.W.Frag} {fl : Addr} {l : List Str} {g : TG} {tt : TT} {te : TE} {vs : List Nat} {σ : L2.St} {H1 : Hp} {D : Addr} {Qd : Hp → Prop} (f : Str → V) (hfl : H1 fl = some (.lst (l.map V.str))) (hD : H1 D = none) (hl : l.length ≤ 8)
    (hs : ∀ n ∈ l, ∀ H (Kt : VK) (Kf : Hp → Prop), Same H1 H → (∀ H4, Same H H4 → Kt (f n) H4) → g (.str n) (wipe σ vs) H fun σ2 H2 => wipe σ2 vs = wipe σ vs ∧ tt σ2 H2 fun b H3 => if b = true then te σ2 H3 Kt else Kf H3)
    (hd : ∀ H, Same H1 H → H D = some (.lst (l.map f)) → Qd H) :
    ∃ W : Nat → Nat → Hp → Prop, (∃ m, W 0 m (upd H1 D (.lst []))) ∧ ∀ i m H, W i m H →
      ((Itl K fl).stop i H ∧ Qd H) ∨ ((Itl K fl).go i H ∧ ∃ Nx : Hp → Prop, (∀ H', Nx H' → ∃ m', m' < m ∧ W (i + 1) m' H') ∧ ∀ x H', (Itl K fl).yld i H x H' → g x (wipe σ vs) H' fun σ2 H2 => wipe σ2 vs = wipe σ vs ∧ tt σ2 H2 fun b H3 =>
        if b = true then te σ2 H3 fun y H4 => ∃ acc, H4 D = some (.lst acc) ∧ acc.length < sizeLine ∧ Nx (upd H4 D (.lst (acc ++ [y]))) else Nx H3) := by
  refine lc_fm (walk_list (K := K) (a := fl) (xs := l.map V.str)) (fun i => l[i]?.map f) hD (by rw [List.length_map]; exact Nat.le_trans hl (by decide)) (fun H' s' => SqL.of (s' _ _ hfl)) (fun i v H2 H3 Kt Kf hi s2 yy kt kf => ?_) (fun H2 s2 hD2 => ?_)
  · obtain ⟨rfl, hv⟩ := yy
    obtain ⟨n, hn, rfl⟩ := at_str hv
    exact hs n (List.mem_of_getElem? hn) _ Kt Kf s2 fun H4 s4 => kt _ _ (by rw [hn]; rfl) s4
  · rw [List.length_map, fm_some (g := f) fun i x hx => by rw [hx]; rfl] at hD2
    exact hd H2 s2 hD2
/-! ### Keys and Stages that right makes -/
theorem pl_name : ∀ z ∈ pool7, isName (cd z) = true := by decide +kernel
theorem rg_nil {R : List (Str × Str)} {ns : List Str} (nr : ∀ n ∈ ns, n ∉ toldOf R ns n) : ringOf R ns = [] := by
  unfold ringOf
  rw [List.filter_eq_nil_iff]
  exact fun n hn h => nr n hn (of_decide_eq_true h)
theorem ki_gen {K : PySem.W.Frag} {H : Hp} {nm te x dx : Addr} {names : List Str} {R : List (Str × Str)} (nx : H x = none) (ndx : H dx = none) (hnm : Sq K H nm (names.map V.str)) (nd : names.Nodup) (hl : names.length ≤ 7) (ok : ∀ z ∈ names, PyData.strOk z = true) (hte : Tells K H te R) (h64 : R.length ≤ 64)
    (hin : ∀ p ∈ R, p.1 ∈ names ∧ p.2 ∈ names) (rk : ∃ (M : List Str) (rk : Str → Nat), (∀ p ∈ R, rk p.1 < rk p.2) ∧ ∀ p ∈ R, rk p.2 ≤ M.length) {Q : VK} {E : XK}
    (k : ∀ ns', ns'.Perm (txAll names) → sortedS ns' = true → ns'.Nodup → ∀ H', Same H H' → KeysO K H' x ns' (toldOf R ns') → Q .non H') :
    spKI K [.ref x, .ref nm, .ref te] (upd (upd H dx (.own x)) x (.ins (He.ga K "Keys") dx [])) Q E := by
  have sm : Same H (upd (upd H dx (.own x)) x (.ins (He.ga K "Keys") dx [])) := fun b o q => by
    rw [upd_ne (ne_of_none q nx), upd_ne (ne_of_none q ndx)]
    exact q
  refine ⟨x, nm, te, dx, names, R, rfl, upd_same, hnm.same sm, by omega, by rw [names_len nd fun _ => Iff.rfl]; exact hl, ok, hte.same sm, h64, fun ns' pm so' nd' => ?_⟩
  have mem : ∀ z, z ∈ names → z ∈ ns' := fun z hz => pm.mem_iff.mpr ((txAll_in names [] z).mpr (.inl hz))
  obtain ⟨M, rk⟩ := rk
  have er : ringOf R ns' = [] := rg_nil (noring_of (M := M) rk)
  refine ⟨fun _ => ⟨fun _ H' ko kx => k ns' pm so' nd' H' (made_same nx ndx kx) ko, fun z => absurd er z⟩, fun z q => ?_⟩
  rw [out_none fun p hp => ⟨mem _ (hin p hp).1, mem _ (hin p hp).2⟩] at q
  cases q
theorem Keep.pr {u : Addr} {H H' : Hp} (k : Keep u H H') {xs : List V} (hu : H u = some (.lst xs)) {qs : List Addr} {prs : List (Str × Str)} (p : PrAt H qs prs) : PrAt H' qs prs :=
  ⟨p.1, fun i q hq => let ⟨pr, e1, e2⟩ := p.2 i q hq; ⟨pr, e1, k _ _ (ne_of e2 hu (by intro z; cases z)) e2⟩⟩
theorem tells_of {K : PySem.W.Frag} {H : Hp} {g : Addr} {qs : List Addr} {R : List (Str × Str)} (hg : H g = some (.tup (qs.map V.ref))) (pr : PrAt H qs R) : Tells K H g R := ⟨qs, .inr (SqT.of hg), pr.1, fun i q hq => let ⟨pr, a, b⟩ := pr.2 i q hq; ⟨pr, a, .inr (SqT.of b)⟩⟩
theorem close_ok {ns zs : List Str} {R : List (Str × Str)} (n0 : ("#" : Str) ∉ ns) (nm : ∀ n ∈ ns, isName (cd n) = true) (fo : ∀ z ∈ zs, FldOk (hs ns) z) : StM ns (toldOf R ns) (closeM ns (toldOf R ns) (joinS zs)) := by
  refine ⟨n0, nm, fun n hn => ?_, fun w hw e o ho => ?_⟩
  · unfold closeM
    split
    · exact .inl rfl
    · exact join_dv fo n
  · have goal : o ∈ wholeOf (("#" : Str) :: ns) ns (toldOf R ns) (joinS zs) := by
      by_cases q : w ∈ wholeOf (("#" : Str) :: ns) ns (toldOf R ns) (joinS zs)
      · obtain ⟨v, hv, hq⟩ := List.mem_flatMap.mp q
        refine List.mem_flatMap.mpr ⟨v, hv, ?_⟩
        by_cases z : joinS zs v = 0
        · rw [if_pos z] at hq ⊢
          have wns : w ∈ ns := by
            unfold toldAt at hq
            split at hq
            · exact hq
            · exact (told_in.mp hq).1
          have w0 : w ≠ "#" := fun q => n0 (q ▸ wns)
          unfold toldAt at ho hq ⊢
          rw [if_neg w0] at ho
          split
          · exact (told_in.mp ho).1
          · rename_i v0
            rw [if_neg v0] at hq
            exact told_in.mpr ⟨(told_in.mp ho).1, .two (told_in.mp hq).2 wns (told_in.mp ho).2⟩
        · rw [if_neg z] at hq
          cases hq
      · unfold closeM at e
        rw [if_neg q] at e
        refine List.mem_flatMap.mpr ⟨w, hw, ?_⟩
        rw [if_pos e]
        exact ho
    unfold closeM
    rw [if_pos goal]
theorem mk_st {K : PySem.W.Frag} {H : Hp} {x dx kk D : Addr} {ns zs : List Str} {t : Str → List Str} {Q : VK} {E : XK} (ko : KeysO K H kk ns t) (n0 : ("#" : Str) ∉ ns) (hD : Sq K H D (zs.map V.str)) (l : zs.length ≤ 100) (fo : ∀ z ∈ zs, FldOk (hs ns) z) (nx : H x = none) (ndx : H dx = none)
    (k : ∀ H' d, Same H H' → StageO K H' x kk d ns t (closeM ns t (joinS zs)) → Q .non H') : spSI K [.ref x, .ref kk, .ref D] (upd (upd H dx (.own x)) x (.ins (He.ga K "Stage") dx [])) Q E := by
  have sm : Same H (upd (upd H dx (.own x)) x (.ins (He.ga K "Stage") dx [])) := fun b o q => by
    rw [upd_ne (ne_of_none q nx), upd_ne (ne_of_none q ndx)]
    exact q
  exact ⟨x, dx, kk, D, ns, zs, t, rfl, upd_same, ko.same sm, n0, hD.same sm, l, fo, fun H' d kp so => k H' d (made_same nx ndx kp) so⟩
theorem bare_num {ns : List Str} {t : Str → List Str} (n : Str) : closeM ns t (joinS []) n = 1 := by
  have e : wholeOf (("#" : Str) :: ns) ns t (joinS []) = [] := by
    unfold wholeOf
    rw [List.flatMap_eq_nil_iff]
    intro w _
    exact if_neg (by show ¬ (1 = 0); decide)
  unfold closeM
  rw [e, if_neg List.not_mem_nil]
  rfl
theorem hash_ok {ks : List Str} (h : ("#" : Str) ∈ ks) : FldOk ks "#" := fld_ok (o := "#") (p := 0) (by rw [if_pos rfl]) own_hash h (.inl rfl)
theorem loose_num {ns : List Str} {t : Str → List Str} (n0 : ("#" : Str) ∉ ns) : ∀ n ∈ hs ns, closeM ns t (joinS ["#"]) n = 0 := by
  have f := hash_ok (ks := hs ns) List.mem_cons_self
  have e0 : joinS ["#"] "#" = 0 := by
    have q1 : fieldName "#" = "#" := (fld_facts own_hash (n := 0) (.inl rfl)).2.1
    have q2 : fnum "#" = 0 := by
      unfold fnum
      rw [show fieldNum "#" = ((0 : Nat) : Int) from (fld_facts own_hash (n := 0) (.inl rfl)).2.2.1]
      rfl
    unfold joinS
    rw [List.foldl_cons, List.foldl_nil, if_pos q1, q2, Nat.lcm_zero_right]
  intro n hn
  unfold closeM
  split
  · rfl
  · rename_i q
    rcases List.mem_cons.mp hn with rfl | hn
    · exact e0
    · have gg : n ∈ wholeOf (("#" : Str) :: ns) ns t (joinS ["#"]) := by
        unfold wholeOf
        refine List.mem_flatMap.mpr ⟨"#", List.mem_cons_self, ?_⟩
        rw [if_pos e0]
        unfold toldAt
        rw [if_pos rfl]
        exact hn
      exact absurd gg q
theorem Sg.keepL {K : PySem.W.Frag} {H H' : Hp} {x u : Addr} {ns : List Str} {t : Str → List Str} {m : Str → Nat} {xs : List V} (h : Sg K H x ns t m) (hu : H u = some (.lst xs)) (k : ∀ b o, b ≠ u → H b = some o → H' b = some o) : Sg K H' x ns t m := by
  obtain ⟨kk, d, ⟨dx, h1⟩, h2, h3⟩ := h.o
  exact ⟨⟨kk, d, ⟨dx, k _ _ (ne_of h1 hu (by intro z; cases z)) h1⟩, h2.keep hu k, k _ _ (ne_of h3 hu (by intro z; cases z)) h3⟩, h.s⟩
end Jd
namespace Jd
open PySem PySem.Spec PyProof.Rows L2
/-! ### lanes, rows: the mathematics -/
abbrev Rcd := Int × List Int
def looks : List Int → List Nat → List Int
  | x :: xs, k :: ks => if k = 1 then looks xs ks else x % (k : Int) :: looks xs ks
  | _, _ => []
theorem looks_cons {x : Int} {xs : List Int} {k : Nat} {ks : List Nat} : looks (x :: xs) (k :: ks) = if k = 1 then looks xs ks else x % (k : Int) :: looks xs ks := rfl
theorem looks_eq : ∀ {ks : List Nat} {xs ys : List Int}, xs.length = ks.length → ys.length = ks.length → (looks xs ks = looks ys ks ↔ ∀ (i k : Nat) (x y : Int), ks[i]? = some k → xs[i]? = some x → ys[i]? = some y → x % (k : Int) = y % (k : Int))
  | [], [], [], _, _ => ⟨fun _ i k x y h => (by cases h), fun _ => rfl⟩
  | k :: ks, x :: xs, y :: ys, hx, hy => by
    have ih := looks_eq (ks := ks) (xs := xs) (ys := ys) (Nat.succ.inj hx) (Nat.succ.inj hy)
    have all : (x % (k : Int) = y % (k : Int) ∧ looks xs ks = looks ys ks) ↔ ∀ (i k' : Nat) (x' y' : Int), (k :: ks)[i]? = some k' → (x :: xs)[i]? = some x' → (y :: ys)[i]? = some y' → x' % (k' : Int) = y' % (k' : Int) := by
      rw [ih]
      constructor
      · rintro ⟨h0, h1⟩ i k' x' y' a b c
        cases i with
        | zero => cases a; cases b; cases c; exact h0
        | succ i => exact h1 i k' x' y' a b c
      · intro h
        exact ⟨h 0 k x y rfl rfl rfl, fun i k' x' y' a b c => h (i + 1) k' x' y' a b c⟩
    rw [← all, looks_cons, looks_cons]
    by_cases h1 : k = 1
    · rw [if_pos h1, if_pos h1]
      subst h1
      constructor
      · intro h
        refine ⟨?_, h⟩
        rw [show ((1 : Nat) : Int) = 1 from rfl, Int.emod_one, Int.emod_one]
      · exact fun h => h.2
    · rw [if_neg h1, if_neg h1, List.cons.injEq]
def laneOf (ns : List Str) (m : Str → Nat) (r : Rcd) : List Int := looks (r.1 :: r.2) ((hs ns).map m)
theorem lane_eq {ns : List Str} {m : Str → Nat} {r s : Rcd} (hr : r.2.length = ns.length) (hs' : s.2.length = ns.length) :
    laneOf ns m r = laneOf ns m s ↔ ∀ (i : Nat) (n : Str) (x y : Int), (hs ns)[i]? = some n → (r.1 :: r.2)[i]? = some x → (s.1 :: s.2)[i]? = some y → x % (m n : Int) = y % (m n : Int) := by
  unfold laneOf
  rw [looks_eq (by simp [hr]) (by simp [hs'])]
  constructor
  · intro h i n x y a b c
    exact h i (m n) x y (by rw [List.getElem?_map, a]; rfl) b c
  · intro h i k x y a b c
    rw [List.getElem?_map] at a
    obtain ⟨n, e, rfl⟩ := Option.map_eq_some_iff.mp a
    exact h i n x y e b c
theorem lane_le {ns : List Str} {m u : Str → Nat} {r s : Rcd} (hr : r.2.length = ns.length) (hs' : s.2.length = ns.length) (le : ∀ n ∈ hs ns, m n ∣ u n) (h : laneOf ns u r = laneOf ns u s) : laneOf ns m r = laneOf ns m s := by
  rw [lane_eq hr hs'] at h ⊢
  intro i n x y a b c
  have e := h i n x y a b c
  have d : (m n : Int) ∣ (u n : Int) := Int.natCast_dvd_natCast.mpr (le n (List.mem_of_getElem? a))
  rw [← Int.emod_emod_of_dvd x d, e, Int.emod_emod_of_dvd y d]
/-! ### the value of a name -/
def valAt (ns : List Str) (r : Rcd) (n : Str) : Int := r.2.getD (ns.idxOf n) 0
theorem valAt_at {ns : List Str} {r : Rcd} {i : Nat} {n : Str} {x : Int} (nd : ns.Nodup) (hn : ns[i]? = some n) (hx : r.2[i]? = some x) : valAt ns r n = x := by
  unfold valAt
  obtain ⟨hi, e⟩ := List.getElem?_eq_some_iff.mp hn
  have e1 : List.idxOf n ns = i := by
    rw [← e]
    exact nd.idxOf_getElem i hi
  rw [e1, List.getD_eq_getElem?_getD, hx]
  rfl
theorem valAt_map {ns : List Str} {k : Int} {f : Str → Int} {n : Str} (nd : ns.Nodup) (hn : n ∈ ns) : valAt ns (k, ns.map f) n = f n := by
  obtain ⟨i, hi, rfl⟩ := List.getElem_of_mem hn
  exact valAt_at nd (List.getElem?_eq_getElem hi) (by rw [List.getElem?_map, List.getElem?_eq_getElem hi]; rfl)
/-- no two records of which one is alike where the other is not -/
def NoClash (ns : List Str) (t : Str → List Str) (r s : Rcd) : Prop := ∀ a ∈ ns, ∀ b ∈ t a, valAt ns r a = valAt ns s a → valAt ns r b = valAt ns s b
structure LawRow (ns : List Str) (t : Str → List Str) (row : List Rcd) : Prop where
  nd : (row.map Prod.fst).Nodup
  ok : ∀ r ∈ row, 0 ≤ r.1 ∧ r.2.length = ns.length
  cl : ∀ r ∈ row, ∀ s ∈ row, NoClash ns t r s
/-! ### groups -/
section
variable {α β : Type} [DecidableEq β]
def gadd (G : List (β × List α)) (k : β) (x : α) : List (β × List α) := if k ∈ G.map Prod.fst then G.map (fun p => if p.1 = k then (k, p.2 ++ [x]) else p) else G ++ [(k, [x])]
structure Grp (f : α → β) (row : List α) (G : List (β × List α)) : Prop where
  nd : (G.map Prod.fst).Nodup
  of : ∀ p ∈ G, p.2 = row.filter (fun r => decide (f r = p.1)) ∧ p.2 ≠ []
  to : ∀ r ∈ row, f r ∈ G.map Prod.fst
  len : G.length ≤ row.length
theorem Grp.nil {f : α → β} : Grp f [] [] := ⟨List.nodup_nil, fun p h => (by cases h), fun r h => (by cases h), Nat.le_refl _⟩
theorem Grp.add {f : α → β} {row : List α} {G : List (β × List α)} (g : Grp f row G) (r : α) : Grp f (row ++ [r]) (gadd G (f r) r) := by
  unfold gadd
  by_cases h : f r ∈ G.map Prod.fst
  · rw [if_pos h]
    have e1 : (G.map (fun p => if p.1 = f r then (f r, p.2 ++ [r]) else p)).map Prod.fst = G.map Prod.fst := by
      rw [List.map_map]
      refine List.map_congr_left fun p _ => ?_
      show (if p.1 = f r then (f r, p.2 ++ [r]) else p).1 = p.1
      split
      · rename_i e; exact e.symm
      · rfl
    refine ⟨by rw [e1]; exact g.nd, fun p hp => ?_, fun x hx => ?_, by rw [List.length_map, List.length_append]; exact Nat.le_succ_of_le g.len⟩
    · obtain ⟨q, hq, rfl⟩ := List.mem_map.mp hp
      obtain ⟨a, b⟩ := g.of q hq
      rw [List.filter_append]
      split
      · rename_i e
        refine ⟨?_, by simp⟩
        show q.2 ++ [r] = row.filter (fun x => decide (f x = f r)) ++ [r].filter (fun x => decide (f x = f r))
        rw [a, e]
        simp
      · rename_i e
        refine ⟨?_, b⟩
        have : [r].filter (fun x => decide (f x = q.1)) = [] := by
          rw [List.filter_cons_of_neg (by simpa using fun z => e z.symm)]
          rfl
        rw [this, List.append_nil]
        exact a
    · rw [e1]
      rcases List.mem_append.mp hx with hx | hx
      · exact g.to x hx
      · rw [List.mem_singleton.mp hx]
        exact h
  · rw [if_neg h]
    refine ⟨?_, fun p hp => ?_, fun x hx => ?_, by rw [List.length_append, List.length_append]; exact Nat.add_le_add_right g.len 1⟩
    · rw [List.map_append, List.nodup_append]
      refine ⟨g.nd, by simp, fun a ha b hb e => ?_⟩
      have hb : b = f r := by simpa using hb
      exact h (hb ▸ e ▸ ha)
    · rcases List.mem_append.mp hp with hp | hp
      · obtain ⟨a, b⟩ := g.of p hp
        refine ⟨?_, b⟩
        rw [List.filter_append]
        have : [r].filter (fun x => decide (f x = p.1)) = [] := by
          rw [List.filter_cons_of_neg (by simpa using fun z : f r = p.1 => h (z ▸ List.mem_map_of_mem hp))]
          rfl
        rw [this, List.append_nil]
        exact a
      · rw [List.mem_singleton.mp hp]
        refine ⟨?_, by simp⟩
        show [r] = (row ++ [r]).filter (fun x => decide (f x = f r))
        rw [List.filter_append]
        have : row.filter (fun x => decide (f x = f r)) = [] := by
          rw [List.filter_eq_nil_iff]
          intro x hx z
          exact h (of_decide_eq_true z ▸ g.to x hx)
        rw [this]
        simp
    · rw [List.map_append]
      rcases List.mem_append.mp hx with hx | hx
      · exact List.mem_append_left _ (g.to x hx)
      · rw [List.mem_singleton.mp hx]
        exact List.mem_append_right _ (by simp)
/-- of the coarser groups just one holds a finer group's first one; all of it -/
theorem grp_once {f g : α → β} {row : List α} {F G : List (β × List α)} (hF : Grp f row F) (hG : Grp g row G) (le : ∀ r ∈ row, ∀ s ∈ row, g r = g s → f r = f s) {p : β × List α} (hp : p ∈ G) (P : List α → Prop) [DecidablePred P]
    (hP : ∀ q ∈ F, P q.2 ↔ (∃ r, p.2[0]? = some r ∧ r ∈ q.2) ∧ ∀ r ∈ p.2, r ∈ q.2) : (F.filter fun q => decide (P q.2)).length = 1 := by
  obtain ⟨e, ne⟩ := hG.of p hp
  obtain ⟨r0, rest, hr⟩ : ∃ r0 rest, p.2 = r0 :: rest := by
    cases h : p.2 with
    | nil => exact absurd h ne
    | cons a b => exact ⟨a, b, rfl⟩
  have hin : ∀ r ∈ p.2, r ∈ row ∧ g r = p.1 := fun r h => by
    rw [e] at h
    obtain ⟨a, b⟩ := List.mem_filter.mp h
    exact ⟨a, of_decide_eq_true b⟩
  have h0 := hin r0 (by rw [hr]; exact List.mem_cons_self)
  have key : ∀ q ∈ F, P q.2 ↔ q.1 = f r0 := fun q hq => by
    rw [hP q hq]
    obtain ⟨eq, _⟩ := hF.of q hq
    have mem : ∀ r, r ∈ q.2 ↔ r ∈ row ∧ f r = q.1 := fun r => by
      rw [eq, List.mem_filter, decide_eq_true_iff]
    constructor
    · rintro ⟨⟨r, a, b⟩, _⟩
      rw [hr] at a
      cases a
      exact ((mem r0).mp b).2.symm
    · intro z
      refine ⟨⟨r0, by rw [hr]; rfl, (mem r0).mpr ⟨h0.1, z.symm⟩⟩, fun r h => (mem r).mpr ⟨(hin r h).1, ?_⟩⟩
      rw [z]
      exact le r (hin r h).1 r0 h0.1 ((hin r h).2.trans h0.2.symm)
  obtain ⟨q0, hq0, e0⟩ := List.mem_map.mp (hF.to r0 h0.1)
  have e2 : (F.filter fun q => decide (P q.2)) = F.filter fun q => decide (q.1 = f r0) := List.filter_congr fun q hq => decide_eq_decide.mpr (key q hq)
  rw [e2]
  have one : ∀ {l : List (β × List α)}, (l.map Prod.fst).Nodup → f r0 ∈ l.map Prod.fst → (l.filter fun q => decide (q.1 = f r0)).length = 1 := by
    intro l
    induction l with
    | nil => intro _ h; cases h
    | cons a l ih =>
      intro nd h
      rw [List.map_cons, List.nodup_cons] at nd
      by_cases z : a.1 = f r0
      · rw [List.filter_cons_of_pos (by simp [z])]
        have : (l.filter fun q => decide (q.1 = f r0)) = [] := by
          rw [List.filter_eq_nil_iff]
          intro q hq w
          exact nd.1 (by rw [z, ← of_decide_eq_true w]; exact List.mem_map_of_mem hq)
        rw [this]
        rfl
      · rw [List.filter_cons_of_neg (by simp [z])]
        refine ih nd.2 ?_
        rw [List.map_cons] at h
        exact (List.mem_cons.mp h).resolve_left fun w => z w.symm
  exact one hF.nd (hF.to r0 h0.1)
end
end Jd
namespace Jd
open PySem PySem.Spec PyProof.Rows L2
/-! ### a dict's values drawn one by one -/
section
variable {prog : Program} {w : World} {A : Around} {E : Value → Shared → Prop} {s : Shared}
theorem nv_item {it d : Addr} {i ep : Nat} {es : Array DictEntry} {Q : Value → Shared → Prop} (hit : s.heap.IsValIter it d i es.size ep) (hm : s.heap.DictRaw d es ep) (lt : i < es.size)
    (hQ : ∀ h', h'.IsValIter it d (i + 1) es.size ep → Heap.SameBut it s.heap h' → Q es[i].val { s with heap := h' }) : wpAny (model prog w) A (Builtin.SmallTypes.nextOf (.ref it)) Q E s := by
  obtain ⟨o, ho, hc, hd⟩ := id hit
  obtain ⟨od, hod, hcd, hdd⟩ := id hm
  unfold Builtin.SmallTypes.nextOf
  refine wpAny_bind (wpAny_callSpecial?_slot (name := Str.ofString "__next__") hit.typeIs F.slot_dict_valueiterator_next (wpAny_call_entry F.slot_dict_valueiterator_next hit.typeIs F.entry_dict_valueiterator_next ?_ (F.args_dict_valueiterator_next_1 _)))
  refine wpAny_bind (wpAny_pure ?_); refine wpAny_bind ?_; refine wpAny_bind ?_
  first | refine wpAny_bind (wpAny_typeNameOfWhole_valiter hit.typeIs (wpAny_pure ?_)); refine wpAny_bind (wpAny_fieldsOf ho hd ?_) | refine wpAny_bind (wpAny_typeNameOf_valiter hit.typeIs (wpAny_pure ?_)); refine wpAny_bind (wpAny_fieldsOf ho hd ?_)
  have own : Builtin.Dict_items.ownsTuple "dict_valueiterator" = false := by decide
  simp only [own, Bool.false_eq_true, if_false]
  show wpAny _ _ (if (Value.ref d == Value.none) = true then _ else _) _ _ s; rw [if_neg (show ¬ ((Value.ref d == Value.none) = true) from Bool.false_ne_true)]
  refine wpAny_bind (wpAny_pure ?_); refine wpAny_bind (wpAny_dictEntries hod hdd ?_); rw [if_neg (by simp)]
  refine wpAny_bind (wpAny_pure ?_); refine wpAny_bind (wpAny_dictEpoch hod hdd ?_); rw [if_neg (by simp)]
  refine wpAny_pure ?_; simp only [show ¬ ((i : Int) < 0) from by omega, if_false, Int.toNat_natCast, Array.getElem?_eq_getElem lt]
  refine wpAny_bind ?_
  first | refine wpAny_bind (wpAny_typeNameOfWhole_valiter hit.typeIs (wpAny_pure ?_)); refine wpAny_bind (wpAny_isOneOf_valiter hit.typeIs ?_) | refine wpAny_bind (wpAny_typeNameOf_valiter hit.typeIs (wpAny_pure ?_)); refine wpAny_bind (wpAny_isOneOf_valiter hit.typeIs ?_)
  show wpAny _ _ (setField (.ref it) 1 (rawInt ((i : Int) + 1)) >>= _) _ _ s; refine wpAny_bind (wpAny_setField ho hd (by simp) ?_)
  have st : (s.heap.update it (Obj.mapFields (·.setIfInBounds 1 (rawInt ((i : Int) + 1))))).IsValIter it d (i + 1) es.size ep := ⟨_, Heap.get?_update_self _ ho (Obj.isFreed_of_fields (Obj.data_mapFields hd _)), (Obj.cls_mapFields ..).trans hc, by rw [Obj.data_mapFields hd]; simp [rawInt]⟩
  refine wpAny_bind (wpAny_holding ?_)
  refine wpAny_bind (wpAny_isOneOf_valiter (s := { s with heap := s.heap.update it (Obj.mapFields (·.setIfInBounds 1 (rawInt ((i : Int) + 1)))) }) st.typeIs (wpAny_bind (wpAny_isOneOf_valiter (s := { s with heap := s.heap.update it (Obj.mapFields (·.setIfInBounds 1 (rawInt ((i : Int) + 1)))) }) st.typeIs ?_)))
  show wpAny _ _ (pure es[i].val) _ _ _; exact wpAny_pure (wpAny_pure ⟨_, rfl, wpAny_pure (hQ _ st (Heap.SameBut.update ..))⟩)
theorem nv_end {it d : Addr} {i ep : Nat} {es : Array DictEntry} {Q : Value → Shared → Prop} (hh : A.handled = none) (hit : s.heap.IsValIter it d i es.size ep) (hm : s.heap.DictRaw d es ep) (ge : es.size ≤ i)
    (hE : ∀ h' e, Heap.ExtBut it s.heap h' → (∃ o, h'.get? e = some o ∧ o.cls = .type "StopIteration") → E (.ref e) { s with heap := h' }) : wpAny (model prog w) A (Builtin.SmallTypes.nextOf (.ref it)) Q E s := by
  obtain ⟨o, ho, hc, hd⟩ := id hit
  obtain ⟨od, hod, hcd, hdd⟩ := id hm
  unfold Builtin.SmallTypes.nextOf
  refine wpAny_bind (wpAny_callSpecial?_slot (name := Str.ofString "__next__") hit.typeIs F.slot_dict_valueiterator_next (wpAny_call_entry F.slot_dict_valueiterator_next hit.typeIs F.entry_dict_valueiterator_next ?_ (F.args_dict_valueiterator_next_1 _)))
  refine wpAny_bind (wpAny_pure ?_); refine wpAny_bind ?_; refine wpAny_bind ?_
  first | refine wpAny_bind (wpAny_typeNameOfWhole_valiter hit.typeIs (wpAny_pure ?_)); refine wpAny_bind (wpAny_fieldsOf ho hd ?_) | refine wpAny_bind (wpAny_typeNameOf_valiter hit.typeIs (wpAny_pure ?_)); refine wpAny_bind (wpAny_fieldsOf ho hd ?_)
  have own : Builtin.Dict_items.ownsTuple "dict_valueiterator" = false := by decide
  simp only [own, Bool.false_eq_true, if_false]
  show wpAny _ _ (if (Value.ref d == Value.none) = true then _ else _) _ _ s; rw [if_neg (show ¬ ((Value.ref d == Value.none) = true) from Bool.false_ne_true)]
  refine wpAny_bind (wpAny_pure ?_); refine wpAny_bind (wpAny_dictEntries hod hdd ?_); rw [if_neg (by simp)]
  refine wpAny_bind (wpAny_pure ?_); refine wpAny_bind (wpAny_dictEpoch hod hdd ?_); rw [if_neg (by simp)]
  refine wpAny_pure ?_; simp only [show ¬ ((i : Int) < 0) from by omega, if_false, Int.toNat_natCast, Array.getElem?_eq_none ge]
  refine wpAny_bind ?_
  first | refine wpAny_bind (wpAny_typeNameOfWhole_valiter hit.typeIs (wpAny_pure ?_)) | refine wpAny_bind (wpAny_typeNameOf_valiter hit.typeIs (wpAny_pure ?_))
  show wpAny _ _ (setField (.ref it) 0 .none >>= _) _ _ s; refine wpAny_bind (wpAny_setField ho hd (by simp) ?_)
  show wpAny _ _ (newExc (.type "StopIteration") [] >>= _) _ _ _; refine wpAny_bind ?_; simp only [newExc, newTuple]
  refine wpAny_bind (wpAny_newObj_type ?_ (by size_fits)); refine wpAny_bind (m := firstArgMember _ _) (wpAny_of_eq (a := Value.none) (by first | rfl | (simp only [firstArgMember]; rfl)) ?_)
  refine wpAny_newObj_type ?_ (by size_fits); simp only [raiseNew]; refine wpAny_bind (wpAny_handled ?_)
  first | rw [show A.in1.handled = none from hh]; refine wpAny_bind (wpAny_pure (wpAny_throw ?_)) | rw [hh]; refine wpAny_bind (wpAny_pure (wpAny_throw ?_))
  exact hE _ _ (((Heap.SameBut.update ..).extBut.push _).push _) ⟨_, Heap.get?_push_size _ rfl, rfl⟩
end
theorem dr_vals {prog : Program} {w : World} {A : Around} (hh : A.handled = none) (it d : Addr) (hne : d ≠ it) (es : Array DictEntry) (ep : Nat) :
    Draws prog w A it [it, d] es.size (fun i v => ∃ hi : i < es.size, v = es[i].val) (fun i h => h.IsValIter it d i es.size ep ∧ h.DictRaw d es ep) where
  live := fun _ _ st => let ⟨o, ho, _⟩ := st.1; ⟨o, ho⟩
  frame := fun _ _ _ st hk => ⟨let ⟨o, ho, r⟩ := st.1; ⟨o, hk it (by simp) o ho, r⟩, st.2.at fun o e => hk d (by simp) o e⟩
  item := fun i s Q E hi st hQ => nv_item st.1 st.2 hi fun h' a b => hQ _ h' s.toks ⟨hi, rfl⟩ ⟨a, st.2.at fun o e => b.extBut d o hne e⟩ b
  done := fun s Q E st hE => nv_end hh st.1 st.2 (Nat.le_refl _) hE
/-! ### what zip walks: a list, a tuple, the view of a locked dict's values -/
inductive Zs where
  | lst (a : Addr)
  | tup (a : Addr)
  | vw (q d : Addr) (o : Obj) (kvs : List (Key × V))
abbrev vwO (q d : Addr) : HO := .ext fun h => h.IsValuesView q d
def Zs.v : Zs → V
  | .lst a => .ref a
  | .tup a => .ref a
  | .vw q _ _ _ => .ref q
def Zs.root : Zs → Addr
  | .lst a => a
  | .tup a => a
  | .vw _ d _ _ => d
/-- its values, as it stands -/
def Zs.is (K : PySem.W.Frag) (H : Hp) (xs : List V) : Zs → Prop
  | .lst a => SqL K H a xs
  | .tup a => SqT K H a xs
  | .vw q d o kvs => H q = some (vwO q d) ∧ H d = some (.frz o (.dK kvs)) ∧ xs = kvs.map Prod.snd
/-- its iterator at turn i -/
def Zs.tn (it : Addr) (i : Nat) (h : Heap) : Zs → Prop
  | .lst a => h.IsListIter it a i
  | .tup a => h.IsTupleIter it a i
  | .vw _ d o kvs => ∃ es ep, o.data = .dict es ep ∧ h.IsValIter it d i kvs.length ep
theorem Zs.tn_at {it : Addr} {i : Nat} {h h' : Heap} {z : Zs} (t : z.tn it i h) (k : ∀ o, h.get? it = some o → h'.get? it = some o) : z.tn it i h' := by
  cases z with
  | lst a => exact (show h.IsListIter it a i from t).at k
  | tup a => exact (show h.IsTupleIter it a i from t).at k
  | vw q d o kvs =>
    obtain ⟨es, ep, e, ob, h1, r⟩ := t
    exact ⟨es, ep, e, ob, k _ h1, r⟩
theorem Zs.tn_obj {it : Addr} {i : Nat} {h : Heap} {z : Zs} (t : z.tn it i h) : ∃ o, h.get? it = some o ∧ ∀ v, o.data ≠ .cell v := by
  cases z with
  | lst a =>
    obtain ⟨o, e, c, d⟩ := (show h.IsListIter it a i from t)
    exact ⟨o, e, fun v z => by rw [d] at z; cases z⟩
  | tup a =>
    obtain ⟨o, e, c, d⟩ := (show h.IsTupleIter it a i from t)
    exact ⟨o, e, fun v z => by rw [d] at z; cases z⟩
  | vw q d o kvs =>
    obtain ⟨es, ep, e, ob, h1, c, dd⟩ := t
    exact ⟨ob, h1, fun v z => by rw [dd] at z; cases z⟩
section
variable {X : Cx} {pins : List (Addr × Obj)} {σ : L2.St} {H : Hp} {s : Shared}
/-- what it draws -/
theorem Zs.draws {z : Zs} {xs : List V} {it : Addr} {i : Nat} (I : Inv X pins σ H s) (hc : X.calm = true) (h : z.is X.K H xs) (t : z.tn it i s.heap) (ne : z.root ≠ it) :
    ∃ (n : Nat) (P : Nat → Value → Prop) (St : Nat → Heap → Prop), n = xs.length ∧ Draws X.prog X.w X.A.in1 it [it, z.root] n P St ∧ St i s.heap ∧ (∀ j h, St j h → z.tn it j h) ∧ ∀ j u, P j u → ∃ x, xs[j]? = some x ∧ RelV x u := by
  cases z with
  | lst a =>
    obtain ⟨its, rv, p, _⟩ := I.list h
    have l := rv.length
    have D := Draws.list (prog := X.prog) (w := X.w) (show X.A.in1.handled = none from I.ok.hd hc) it a ne its.toArray
    refine ⟨_, _, _, by rw [List.size_toArray, l], D, ⟨t, p.isList⟩, fun _ _ q => q.1, fun j u q => ?_⟩
    have q : its[j]? = some u := by simpa using q
    have hj : j < xs.length := by rw [l]; exact (List.getElem?_eq_some_iff.mp q).1
    obtain ⟨u', hu, ru⟩ := rv.get (List.getElem?_eq_getElem hj)
    rw [q] at hu
    cases hu
    exact ⟨_, List.getElem?_eq_getElem hj, ru⟩
  | tup a =>
    obtain ⟨its, rv, p, _⟩ := I.tuple h
    have l := rv.length
    have D := Draws.tuple (prog := X.prog) (w := X.w) (show X.A.in1.handled = none from I.ok.hd hc) it a ne its.toArray
    refine ⟨_, _, _, by rw [List.size_toArray, l], D, ⟨t, show s.heap.IsTuple a its.toArray from p⟩, fun _ _ q => q.1, fun j u q => ?_⟩
    have q : its[j]? = some u := by simpa using q
    have hj : j < xs.length := by rw [l]; exact (List.getElem?_eq_some_iff.mp q).1
    obtain ⟨u', hu, ru⟩ := rv.get (List.getElem?_eq_getElem hj)
    rw [q] at hu
    cases hu
    exact ⟨_, List.getElem?_eq_getElem hj, ru⟩
  | vw q d o kvs =>
    obtain ⟨hq, hd, rfl⟩ := h
    obtain ⟨hs, hgd, hx, es, ep, vs, hdt, hsz, kv, hm⟩ := I.frzK hd
    obtain ⟨es', ep', hdt', st⟩ := t
    obtain ⟨rfl, rfl⟩ := dict_ep hdt hdt'
    have st : s.heap.IsValIter it d i es'.size ep' := by rw [hsz]; exact st
    have D := dr_vals (prog := X.prog) (w := X.w) (show X.A.in1.handled = none from I.ok.hd hc) it d ne es' ep'
    have e1 : es'.size = (kvs.map Prod.snd).length := by rw [List.length_map]; exact hsz
    refine ⟨_, _, _, e1, D, ⟨st, o, hgd, hx, hdt⟩, fun j h q => ⟨es', ep', hdt, by rw [← hsz]; exact q.1⟩, fun j u q => ?_⟩
    obtain ⟨hi, rfl⟩ := q
    have hj : j < kvs.length := by omega
    obtain ⟨u, hu, ru⟩ := kv_get kv (List.getElem?_eq_getElem hj)
    obtain ⟨o2, es2, ho2, _, hd2, _, hp2, _⟩ := id hm
    rw [hgd] at ho2
    cases ho2
    obtain ⟨rfl, _⟩ := dict_ep hd2 hdt
    refine ⟨kvs[j].2, by rw [List.getElem?_map, List.getElem?_eq_getElem hj]; rfl, ?_⟩
    rw [(hp2.get? (e := es'[j]) (by simp [hi]) hu).2]
    exact ru
end
theorem root_lt {X : Cx} {pins : List (Addr × Obj)} {σ : L2.St} {H : Hp} {s : Shared} {z : Zs} {xs : List V} (I : Inv X pins σ H s) (h : z.is X.K H xs) : z.root < s.heap.objs.size := by
  cases z with
  | lst a =>
    obtain ⟨its, rv, p, _⟩ := I.list h
    exact p.lt
  | tup a =>
    obtain ⟨its, rv, p, _⟩ := I.tuple h
    exact p.lt
  | vw q d o kvs => exact Heap.lt_size (I.frzK h.2.1).2.1
/-! ### zip of two -/
def ItZ2 (K : PySem.W.Frag) (a b : Zs) : It :=
  ⟨fun i H => ∃ xs ys : List V, a.is K H xs ∧ b.is K H ys ∧ i < xs.length ∧ i < ys.length,
    fun i H v H' => ∃ T x y, v = .ref T ∧ H T = none ∧ H' = upd H T (.tup [x, y]) ∧ (∀ xs, a.is K H xs → xs[i]? = some x) ∧ ∀ ys, b.is K H ys → ys[i]? = some y,
    fun i H => ∃ xs ys : List V, a.is K H xs ∧ b.is K H ys ∧ i = min xs.length ys.length⟩
theorem Zs.inj {X : Cx} {pins : List (Addr × Obj)} {σ : L2.St} {H : Hp} {s : Shared} {z : Zs} {xs ys : List V} (I : Inv X pins σ H s) (h : z.is X.K H xs) (h' : z.is X.K H ys) : ys = xs := by
  cases z with
  | lst a => exact I.list_inj h' h
  | tup a => exact I.tuple_inj h' h
  | vw q d o kvs => exact h'.2.2.trans h.2.2.symm
theorem turn_Z2 {P : Program} {w : World} {K : PySem.W.Frag} {elts : List Expr} {kk : Nat} {tpos : Pos} {a b : Zs} {N : Nat} (ha : a.root < N) (hb : b.root < N) :
    Turn P w K (.Tuple elts kk tpos) (ItZ2 K a b) [N + 4, N + 2, N + 3, N, N + 1] (N + 4) (fun i h => IsZip h (N + 4) (N + 2) (N + 3) .none ∧ IsTupOf2 h (N + 2) (.ref N) (.ref (N + 1)) ∧ (∃ x y, IsTupOf2 h (N + 3) x y) ∧ a.tn N i h ∧ b.tn (N + 1) i h) where
  mem := by simp
  obj := fun i h st c hc => by
    obtain ⟨hz, hTI, ⟨x, y, hTO⟩, t1, t2⟩ := st
    have e' : c = N + 4 ∨ c = N + 2 ∨ c = N + 3 ∨ c = N ∨ c = N + 1 := by simpa using hc
    rcases e' with q | q | q | q | q
    · rw [q]; exact ⟨_, hz, fun v q => nomatch q⟩
    · rw [q]; exact ⟨_, hTI, fun v q => nomatch q⟩
    · rw [q]; exact ⟨_, hTO, fun v q => nomatch q⟩
    · rw [q]; exact Zs.tn_obj t1
    · rw [q]; exact Zs.tn_obj t2
  keep := fun i h h' st k => by
    obtain ⟨hz, hTI, ⟨x, y, hTO⟩, t1, t2⟩ := st
    exact ⟨k _ (by simp) _ hz, k _ (by simp) _ hTI, ⟨x, y, k _ (by simp) _ hTO⟩, Zs.tn_at t1 fun o q => k _ (by simp) o q, Zs.tn_at t2 fun o q => k _ (by simp) o q⟩
  item := by
    intro X hP hw hK hc i pins s σ H E I hf st hg
    subst hP hw hK
    obtain ⟨hz, hTI, hTO, t1, t2⟩ := st
    obtain ⟨xs, ys, hx, hy, l1, l2⟩ := hg
    obtain ⟨n1, P1, S1, e1, D1, st1, b1, y1⟩ := Zs.draws I hc hx t1 (Nat.ne_of_lt ha)
    obtain ⟨n2, P2, S2, e2, D2, st2, b2, y2⟩ := Zs.draws I hc hy t2 (Nat.ne_of_lt (Nat.lt_succ_of_lt hb))
    have W := GoesN.zip2 (elts := elts) (x1 := kk) (pos := tpos) (zip_sep2 (N := N) (fp1 := [a.root]) (fp2 := [b.root]) (fun c hc => by rw [List.mem_singleton.mp hc]; exact ha) (fun c hc => by rw [List.mem_singleton.mp hc]; exact hb)) D1 D2
    have old : ∀ c ∈ [N + 4, N + 2, N + 3, N, N + 1], c < s.heap.objs.size := fun c hm => by
      have e' : c = N + 4 ∨ c = N + 2 ∨ c = N + 3 ∨ c = N ∨ c = N + 1 := by simpa using hm
      have lz := Heap.lt_size hz
      rcases e' with q | q | q | q | q <;> (rw [q]; exact Nat.lt_of_le_of_lt (by omega) lz)
    refine wpAny_mono (W.goes i s (fun v s2 => ∃ x H', Inv X pins σ H' s2 ∧ RelV x v ∧ (ItZ2 X.K a b).yld i H x H' ∧ (IsZip s2.heap (N + 4) (N + 2) (N + 3) .none ∧ IsTupOf2 s2.heap (N + 2) (.ref N) (.ref (N + 1)) ∧ (∃ x y, IsTupOf2 s2.heap (N + 3) x y) ∧ a.tn N (i + 1) s2.heap ∧ b.tn (N + 1) (i + 1) s2.heap) ∧ ∀ c ∈ [N + 4, N + 2, N + 3, N, N + 1], H' c = none) E (by omega) ⟨hz, hTI, hTO, st1, st2⟩ fun v h' tk hY st' hk htk => ?_) (fun r s1 ⟨v, e, q⟩ => ⟨v, e, q⟩) fun _ _ e => e
    obtain ⟨T, u1, u2, rfl, hT, p1, p2, o, ho, hoc, n, hod⟩ := hY
    obtain ⟨x, ex, rx⟩ := y1 i u1 p1
    obtain ⟨y, ey, ry⟩ := y2 i u2 p2
    obtain ⟨c1, c2, c3, c4, c5⟩ := st'
    have new : ObjOk X.prog X.w (upd H T (.tup [x, y])) h' T (.tup [x, y]) := ⟨by show 2 ≤ sizeLine; decide, [u1, u2], .cons rx (.cons ry .nil), o, ho, hoc, n, hod⟩
    have I1 : Inv X pins σ (upd H T (.tup [x, y])) { s with heap := h', toks := tk } := I.turnedNew (ch := [N + 4, N + 3, N, N + 1]) (fun c ob hb q => hk c ob hb q) (fun c hm => hf c (by
      have e' : c = N + 4 ∨ c = N + 3 ∨ c = N ∨ c = N + 1 := by simpa using hm
      rcases e' with q | q | q | q <;> simp [q])) hT new
    refine ⟨.ref T, _, I1, rfl, ⟨T, x, y, rfl, I.hok.fresh hT, rfl, fun l hl => by rw [Zs.inj I hx hl]; exact ex, fun l hl => by rw [Zs.inj I hy hl]; exact ey⟩, ⟨c1, c2, c3, b1 _ _ c4, b2 _ _ c5⟩, fun c hm => ?_⟩
    rw [upd_ne (Nat.ne_of_lt (Nat.lt_of_lt_of_le (old c hm) hT))]
    exact (hf c hm).1
  done := by
    intro X hP hw hK hc i pins s σ H E I hf st hg
    subst hP hw hK
    obtain ⟨hz, hTI, hTO, t1, t2⟩ := st
    obtain ⟨xs, ys, hx, hy, rfl⟩ := hg
    obtain ⟨n1, P1, S1, e1, D1, st1, b1, y1⟩ := Zs.draws I hc hx t1 (Nat.ne_of_lt ha)
    obtain ⟨n2, P2, S2, e2, D2, st2, b2, y2⟩ := Zs.draws I hc hy t2 (Nat.ne_of_lt (Nat.lt_succ_of_lt hb))
    have W := GoesN.zip2 (elts := elts) (x1 := kk) (pos := tpos) (zip_sep2 (N := N) (fp1 := [a.root]) (fp2 := [b.root]) (fun c hc => by rw [List.mem_singleton.mp hc]; exact ha) (fun c hc => by rw [List.mem_singleton.mp hc]; exact hb)) D1 D2
    rw [← e1, ← e2] at st1 st2
    exact W.stops s (fun s1 => Inv X pins σ H s1) E ⟨hz, hTI, hTO, st1, st2⟩ fun h' tk hk htk => I.turnedL (ch := [N + 4, N + 3, N, N + 1]) (fun c ob hb q => hk c ob hb q) (fun c hm => hf c (by
      have e' : c = N + 4 ∨ c = N + 3 ∨ c = N ∨ c = N + 1 := by simpa using hm
      rcases e' with q | q | q | q <;> simp [q]))
  self := fun A i s Q E st h => wpAny_pyIter_zip st.1 h
/-! ### zip of three -/
def ItZ3 (K : PySem.W.Frag) (a b c : Zs) : It :=
  ⟨fun i H => ∃ xs ys zs : List V, a.is K H xs ∧ b.is K H ys ∧ c.is K H zs ∧ i < xs.length ∧ i < ys.length ∧ i < zs.length,
    fun i H v H' => ∃ T x y z, v = .ref T ∧ H T = none ∧ H' = upd H T (.tup [x, y, z]) ∧ (∀ xs, a.is K H xs → xs[i]? = some x) ∧ (∀ ys, b.is K H ys → ys[i]? = some y) ∧ ∀ zs, c.is K H zs → zs[i]? = some z,
    fun i H => ∃ xs ys zs : List V, a.is K H xs ∧ b.is K H ys ∧ c.is K H zs ∧ i = min (min xs.length ys.length) zs.length⟩
theorem turn_Z3 {P : Program} {w : World} {K : PySem.W.Frag} {elts : List Expr} {kk : Nat} {tpos : Pos} {a b c : Zs} {N : Nat} (ha : a.root < N) (hb : b.root < N) (hcN : c.root < N) :
    Turn P w K (.Tuple elts kk tpos) (ItZ3 K a b c) [N + 5, N + 3, N + 4, N, N + 1, N + 2] (N + 5) (fun i h => IsZip h (N + 5) (N + 3) (N + 4) .none ∧ IsTupOf3 h (N + 3) (.ref N) (.ref (N + 1)) (.ref (N + 2)) ∧ (∃ x y z, IsTupOf3 h (N + 4) x y z) ∧ a.tn N i h ∧ b.tn (N + 1) i h ∧ c.tn (N + 2) i h) where
  mem := by simp
  obj := fun i h st q hq => by
    obtain ⟨hz, hTI, ⟨x, y, z, hTO⟩, t1, t2, t3⟩ := st
    have e' : q = N + 5 ∨ q = N + 3 ∨ q = N + 4 ∨ q = N ∨ q = N + 1 ∨ q = N + 2 := by simpa using hq
    rcases e' with q | q | q | q | q | q
    · rw [q]; exact ⟨_, hz, fun v q => nomatch q⟩
    · rw [q]; exact ⟨_, hTI, fun v q => nomatch q⟩
    · rw [q]; exact ⟨_, hTO, fun v q => nomatch q⟩
    · rw [q]; exact Zs.tn_obj t1
    · rw [q]; exact Zs.tn_obj t2
    · rw [q]; exact Zs.tn_obj t3
  keep := fun i h h' st k => by
    obtain ⟨hz, hTI, ⟨x, y, z, hTO⟩, t1, t2, t3⟩ := st
    exact ⟨k _ (by simp) _ hz, k _ (by simp) _ hTI, ⟨x, y, z, k _ (by simp) _ hTO⟩, Zs.tn_at t1 fun o q => k _ (by simp) o q, Zs.tn_at t2 fun o q => k _ (by simp) o q, Zs.tn_at t3 fun o q => k _ (by simp) o q⟩
  item := by
    intro X hP hw hK hc i pins s σ H E I hf st hg
    subst hP hw hK
    obtain ⟨hz, hTI, hTO, t1, t2, t3⟩ := st
    obtain ⟨xs, ys, zs, hx, hy, hzz, l1, l2, l3⟩ := hg
    obtain ⟨n1, P1, S1, e1, D1, st1, b1, y1⟩ := Zs.draws I hc hx t1 (Nat.ne_of_lt ha)
    obtain ⟨n2, P2, S2, e2, D2, st2, b2, y2⟩ := Zs.draws I hc hy t2 (Nat.ne_of_lt (Nat.lt_succ_of_lt hb))
    obtain ⟨n3, P3, S3, e3, D3, st3, b3, y3⟩ := Zs.draws I hc hzz t3 (Nat.ne_of_lt (Nat.lt_succ_of_lt (Nat.lt_succ_of_lt hcN)))
    have W := GoesN.zip3 (elts := elts) (x1 := kk) (pos := tpos) (zip_sep3 (N := N) (fp1 := [a.root]) (fp2 := [b.root]) (fp3 := [c.root]) (fun c hc => by rw [List.mem_singleton.mp hc]; exact ha) (fun c hc => by rw [List.mem_singleton.mp hc]; exact hb) (fun c hc => by rw [List.mem_singleton.mp hc]; exact hcN)) D1 D2 D3
    have old : ∀ c ∈ [N + 5, N + 3, N + 4, N, N + 1, N + 2], c < s.heap.objs.size := fun c hm => by
      have e' : c = N + 5 ∨ c = N + 3 ∨ c = N + 4 ∨ c = N ∨ c = N + 1 ∨ c = N + 2 := by simpa using hm
      have lz := Heap.lt_size hz
      rcases e' with q | q | q | q | q | q <;> (rw [q]; exact Nat.lt_of_le_of_lt (by omega) lz)
    refine wpAny_mono (W.goes i s (fun v s2 => ∃ x H', Inv X pins σ H' s2 ∧ RelV x v ∧ (ItZ3 X.K a b c).yld i H x H' ∧ (IsZip s2.heap (N + 5) (N + 3) (N + 4) .none ∧ IsTupOf3 s2.heap (N + 3) (.ref N) (.ref (N + 1)) (.ref (N + 2)) ∧ (∃ x y z, IsTupOf3 s2.heap (N + 4) x y z) ∧ a.tn N (i + 1) s2.heap ∧ b.tn (N + 1) (i + 1) s2.heap ∧ c.tn (N + 2) (i + 1) s2.heap) ∧ ∀ c ∈ [N + 5, N + 3, N + 4, N, N + 1, N + 2], H' c = none) E (by omega) ⟨hz, hTI, hTO, st1, st2, st3⟩ fun v h' tk hY st' hk htk => ?_) (fun r s1 ⟨v, e, q⟩ => ⟨v, e, q⟩) fun _ _ e => e
    obtain ⟨T, u1, u2, u3, rfl, hT, p1, p2, p3, o, ho, hoc, n, hod⟩ := hY
    obtain ⟨x, ex, rx⟩ := y1 i u1 p1
    obtain ⟨y, ey, ry⟩ := y2 i u2 p2
    obtain ⟨z, ez, rz⟩ := y3 i u3 p3
    obtain ⟨c1, c2, c3, c4, c5, c6⟩ := st'
    have new : ObjOk X.prog X.w (upd H T (.tup [x, y, z])) h' T (.tup [x, y, z]) := ⟨by show 3 ≤ sizeLine; decide, [u1, u2, u3], .cons rx (.cons ry (.cons rz .nil)), o, ho, hoc, n, hod⟩
    have I1 : Inv X pins σ (upd H T (.tup [x, y, z])) { s with heap := h', toks := tk } := I.turnedNew (ch := [N + 5, N + 4, N, N + 1, N + 2]) (fun c ob hb q => hk c ob hb q) (fun c hm => hf c (by
      have e' : c = N + 5 ∨ c = N + 4 ∨ c = N ∨ c = N + 1 ∨ c = N + 2 := by simpa using hm
      rcases e' with q | q | q | q | q <;> simp [q])) hT new
    refine ⟨.ref T, _, I1, rfl, ⟨T, x, y, z, rfl, I.hok.fresh hT, rfl, fun l hl => by rw [Zs.inj I hx hl]; exact ex, fun l hl => by rw [Zs.inj I hy hl]; exact ey, fun l hl => by rw [Zs.inj I hzz hl]; exact ez⟩, ⟨c1, c2, c3, b1 _ _ c4, b2 _ _ c5, b3 _ _ c6⟩, fun c hm => ?_⟩
    rw [upd_ne (Nat.ne_of_lt (Nat.lt_of_lt_of_le (old c hm) hT))]
    exact (hf c hm).1
  done := by
    intro X hP hw hK hc i pins s σ H E I hf st hg
    subst hP hw hK
    obtain ⟨hz, hTI, hTO, t1, t2, t3⟩ := st
    obtain ⟨xs, ys, zs, hx, hy, hzz, rfl⟩ := hg
    obtain ⟨n1, P1, S1, e1, D1, st1, b1, y1⟩ := Zs.draws I hc hx t1 (Nat.ne_of_lt ha)
    obtain ⟨n2, P2, S2, e2, D2, st2, b2, y2⟩ := Zs.draws I hc hy t2 (Nat.ne_of_lt (Nat.lt_succ_of_lt hb))
    obtain ⟨n3, P3, S3, e3, D3, st3, b3, y3⟩ := Zs.draws I hc hzz t3 (Nat.ne_of_lt (Nat.lt_succ_of_lt (Nat.lt_succ_of_lt hcN)))
    have W := GoesN.zip3 (elts := elts) (x1 := kk) (pos := tpos) (zip_sep3 (N := N) (fp1 := [a.root]) (fp2 := [b.root]) (fp3 := [c.root]) (fun c hc => by rw [List.mem_singleton.mp hc]; exact ha) (fun c hc => by rw [List.mem_singleton.mp hc]; exact hb) (fun c hc => by rw [List.mem_singleton.mp hc]; exact hcN)) D1 D2 D3
    rw [← e1, ← e2, ← e3] at st1 st2 st3
    exact W.stops s (fun s1 => Inv X pins σ H s1) E ⟨hz, hTI, hTO, st1, st2, st3⟩ fun h' tk hk htk => I.turnedL (ch := [N + 5, N + 4, N, N + 1, N + 2]) (fun c ob hb q => hk c ob hb q) (fun c hm => hf c (by
      have e' : c = N + 5 ∨ c = N + 4 ∨ c = N ∨ c = N + 1 ∨ c = N + 2 := by simpa using hm
      rcases e' with q | q | q | q | q <;> simp [q]))
  self := fun A i s Q E st h => wpAny_pyIter_zip st.1 h
/-! ### zip begins -/
section
variable {X : Cx} {pins : List (Addr × Obj)} {σ : L2.St} {H : Hp} {s : Shared}
theorem Zs.begins {z : Zs} {xs : List V} {u : Value} (I : Inv X pins σ H s) (h : z.is X.K H xs) (r : RelV z.v u) :
    ∃ (o : Obj) (G : Heap → Prop), Begins u o G ∧ G s.heap ∧ ∀ h' N, h'.get? N = some o → z.tn N 0 h' := by
  cases z with
  | lst a =>
    cases r
    obtain ⟨its, rv, p, _⟩ := I.list h
    exact ⟨_, _, begins_list a its.toArray, p.isList, fun h' N e => ⟨_, e, rfl, rfl⟩⟩
  | tup a =>
    cases r
    obtain ⟨its, rv, p, _⟩ := I.tuple h
    exact ⟨_, _, begins_tuple a its.toArray, show s.heap.IsTuple a its.toArray from p, fun h' N e => ⟨_, e, rfl, rfl⟩⟩
  | vw q d o kvs =>
    cases r
    obtain ⟨hq, hd, rfl⟩ := h
    obtain ⟨hs, hgd, hx, es, ep, vs, hdt, hsz, kv, hm⟩ := I.frzK hd
    have hv : s.heap.IsValuesView q d := (I.hok q _ hq).1
    refine ⟨_, fun h => h.IsValuesView q d ∧ h.DictRaw d es ep, ⟨fun prog w A E s Q g k => wpAny_pyIter_values_raw g.1 g.2 k, fun h h' g k => ⟨let ⟨o, ho, r⟩ := g.1; ⟨o, k _ _ ho, r⟩, g.2.at fun o e => k _ _ e⟩, rfl⟩, ⟨hv, o, hgd, hx, hdt⟩, fun h' N e => ⟨es, ep, hdt, _, e, rfl, by rw [← hsz]; rfl⟩⟩
end
def iZ2 (K : PySem.W.Frag) (ta : TA) : TI := fun σ H R => ta σ H fun vs H1 => ∃ (a b : Zs) (xs ys : List V), vs = [a.v, b.v] ∧ a.is K H1 xs ∧ b.is K H1 ys ∧ R (ItZ2 K a b) H1
theorem pi_Z2 {X : Cx} {e e2 : Expr} {ta : TA} {p pos tpos : Pos} {elts : List Expr} {kk : Nat} (hg : Gl X "zip") (hm : X.mg "zip" = none) (ha : PA X [e, e2] ta)
    (hs : starEach [e, e2] X.env = (false, eval e X.env) :: starEach [e2] X.env := by rfl) (hpl : (backTo pos (starEach [e2] X.env)).any (·.1) = false := by rfl) :
    PI X (.Tuple elts kk tpos) (.Call (.Name "zip" p) [e, e2] [] pos) (iZ2 X.K ta) := by
  refine ⟨fun pins s σ H R I h => ?_⟩
  refine Call_ (ld_blt I hg hm PyProof.Rows.boot_zip (PyProof.Rows.callWith_type1 (thn (ha.run pos pins s σ H _ I h) fun us s1 ⟨vs, H1, I1, r1, q1⟩ => ?_) hs hpl))
  obtain ⟨a, b, xs, ys, ex, hx, hy, q⟩ := q1
  subst ex
  cases r1 with
  | cons r rr =>
    cases rr with
    | cons r' rr =>
      cases rr
      obtain ⟨o1, G1, B1, g1, t1⟩ := Zs.begins I1 hx r
      obtain ⟨o2, G2, B2, g2, t2⟩ := Zs.begins I1 hy r'
      refine zip_begins2 B1 B2 g1 g2 fun h' hz hTI hTO i1 i2 hsz hk => wpAny_pyIter_zip hz ?_
      have I2 : Inv X pins σ H1 { s1 with heap := h' } := I1.kept (t' := s1.toks) hk
      refine ⟨s1.heap.objs.size + 4, [s1.heap.objs.size + 4, s1.heap.objs.size + 2, s1.heap.objs.size + 3, s1.heap.objs.size, s1.heap.objs.size + 1], _, _, H1, rfl, I2, turn_Z2 (root_lt I1 hx) (root_lt I1 hy), ⟨hz, hTI, ⟨_, _, hTO⟩, t1 _ _ i1, t2 _ _ i2⟩, fun c hcm => ?_, q⟩
      have hle : s1.heap.objs.size ≤ c := by
        have e' : c = s1.heap.objs.size + 4 ∨ c = s1.heap.objs.size + 2 ∨ c = s1.heap.objs.size + 3 ∨ c = s1.heap.objs.size ∨ c = s1.heap.objs.size + 1 := by simpa using hcm
        rcases e' with z | z | z | z | z <;> (rw [z]; first | exact Nat.le_add_right _ _ | exact Nat.le_refl _)
      exact I1.fpOk hle (I1.hok.fresh hle)
def iZ3 (K : PySem.W.Frag) (ta : TA) : TI := fun σ H R => ta σ H fun vs H1 => ∃ (a b c : Zs) (xs ys zs : List V), vs = [a.v, b.v, c.v] ∧ a.is K H1 xs ∧ b.is K H1 ys ∧ c.is K H1 zs ∧ R (ItZ3 K a b c) H1
theorem pi_Z3 {X : Cx} {e e2 e3 : Expr} {ta : TA} {p pos tpos : Pos} {elts : List Expr} {kk : Nat} (hg : Gl X "zip") (hm : X.mg "zip" = none) (ha : PA X [e, e2, e3] ta)
    (hs : starEach [e, e2, e3] X.env = (false, eval e X.env) :: starEach [e2, e3] X.env := by rfl) (hpl : (backTo pos (starEach [e2, e3] X.env)).any (·.1) = false := by rfl) :
    PI X (.Tuple elts kk tpos) (.Call (.Name "zip" p) [e, e2, e3] [] pos) (iZ3 X.K ta) := by
  refine ⟨fun pins s σ H R I h => ?_⟩
  refine Call_ (ld_blt I hg hm PyProof.Rows.boot_zip (PyProof.Rows.callWith_type1 (thn (ha.run pos pins s σ H _ I h) fun us s1 ⟨vs, H1, I1, r1, q1⟩ => ?_) hs hpl))
  obtain ⟨a, b, c, xs, ys, zs, ex, hx, hy, hz3, q⟩ := q1
  subst ex
  cases r1 with
  | cons r rr =>
    cases rr with
    | cons r' rr =>
      cases rr with
      | cons r'' rr =>
        cases rr
        obtain ⟨o1, G1, B1, g1, t1⟩ := Zs.begins I1 hx r
        obtain ⟨o2, G2, B2, g2, t2⟩ := Zs.begins I1 hy r'
        obtain ⟨o3, G3, B3, g3, t3⟩ := Zs.begins I1 hz3 r''
        refine zip_begins3 B1 B2 B3 g1 g2 g3 fun h' hz hTI hTO i1 i2 i3 hsz hk => wpAny_pyIter_zip hz ?_
        have I2 : Inv X pins σ H1 { s1 with heap := h' } := I1.kept (t' := s1.toks) hk
        refine ⟨s1.heap.objs.size + 5, [s1.heap.objs.size + 5, s1.heap.objs.size + 3, s1.heap.objs.size + 4, s1.heap.objs.size, s1.heap.objs.size + 1, s1.heap.objs.size + 2], _, _, H1, rfl, I2, turn_Z3 (root_lt I1 hx) (root_lt I1 hy) (root_lt I1 hz3), ⟨hz, hTI, ⟨_, _, _, hTO⟩, t1 _ _ i1, t2 _ _ i2, t3 _ _ i3⟩, fun c hcm => ?_, q⟩
        have hle : s1.heap.objs.size ≤ c := by
          have e' : c = s1.heap.objs.size + 5 ∨ c = s1.heap.objs.size + 3 ∨ c = s1.heap.objs.size + 4 ∨ c = s1.heap.objs.size ∨ c = s1.heap.objs.size + 1 ∨ c = s1.heap.objs.size + 2 := by simpa using hcm
          rcases e' with z | z | z | z | z | z <;> (rw [z]; first | exact Nat.le_add_right _ _ | exact Nat.le_refl _)
        exact I1.fpOk hle (I1.hok.fresh hle)
/-- d.values() of a locked dict, as a value -/
def tVw (td : TE) : TE := fun σ H Q => td σ H fun x H1 => ∃ d o kvs, x = .ref d ∧ H1 d = some (.frz o (.dK kvs)) ∧ ∀ q, H1 q = none → Q (.ref q) (upd H1 q (vwO q d))
theorem pe_vw {X : Cx} {e : Expr} {td : TE} {apos cpos : Pos} (he : PE X e td) (hbase : attributeBase e "values" X.env (eval e X.env) = eval e X.env := by rfl) (hline : (apos.endLine == cpos.line) = true := by rfl) : PE X (.Call (.Attribute e "values" apos) [] [] cpos) (tVw td) := by
  refine ⟨fun pins s σ H Q I h => ?_⟩
  refine wpAny_Call_method (T := "dict") (id := "dict.values") hbase rfl hline F.plainAttrs_dict F.slot_dict_values F.type_dict_values (thn (he.run pins s σ H _ I h) fun u s1 ⟨x, H1, I1, rx, d, o, kvs, ex, hd, q⟩ => ?_)
  subst ex
  obtain rfl : u = Value.ref d := rx
  obtain ⟨hs, hgd, hx, es, ep, vs, hdt, hsz, kv, hm⟩ := I1.frzK hd
  refine ⟨hm.dictOf.typeIs, hm.dictOf.mapOf.noDict, ?_⟩
  have hv : (s1.heap.push { cls := .type "dict_values", data := .fields #[.ref d] }).IsValuesView s1.heap.objs.size d := ⟨_, Heap.get?_push_size _ rfl, rfl, rfl⟩
  have ok : ObjOk X.prog X.w (upd H1 s1.heap.objs.size (vwO s1.heap.objs.size d)) (s1.heap.push { cls := .type "dict_values", data := .fields #[.ref d] }) s1.heap.objs.size (vwO s1.heap.objs.size d) := ⟨hv, ⟨_, Heap.get?_push_size _ rfl⟩, fun h1 h2 y k => let ⟨ob, ho, r⟩ := y; ⟨ob, k ob ho, r⟩⟩
  have fin := q s1.heap.objs.size (I1.hok.fresh (Nat.le_refl _))
  show wpAny _ _ (callWith cpos (.builtin "dict.values") [.ref d] [] []) _ X.xe s1
  exact method_meetsIn F.slot_dict_values F.entry_dict_values rfl (PySem.evalArgs_none ⟨rfl, hm.dictOf.typeIs, F.args_dict_values_1 _, _, meets_dict_values (mixKind X.prog X.w) d hs, ⟨vs, hm.dictOf⟩, ⟨.ref s1.heap.objs.size, _, I1.laid (t' := s1.toks) (fun b ob z => Heap.get?_push_of_some _ z) (Nat.le_refl _) ok, rfl, fin⟩⟩)
/-! ### the values of a dict whose keys are tuples; the dict stays locked -/
def ItdT (d : Addr) (o : Obj) (kvs : List (List Key × V)) : It :=
  ⟨fun i H => H d = some (.frz o (.dT kvs)) ∧ i < kvs.length, fun i H x H' => H' = H ∧ ∃ k, kvs[i]? = some (k, x), fun i H => H d = some (.frz o (.dT kvs)) ∧ i = kvs.length⟩
theorem frzV {X : Cx} {pins : List (Addr × Obj)} {σ : L2.St} {H : Hp} {s : Shared} {d : Addr} {o : Obj} {kvs : List (List Key × V)} (I : Inv X pins σ H s) (h : H d = some (.frz o (.dT kvs))) :
    ∃ (es : Array DictEntry) (ep : Nat), o.data = .dict es ep ∧ s.heap.DictRaw d es ep ∧ es.size = kvs.length ∧ ∀ (i : Nat) (hi : i < es.size), ∃ k v, kvs[i]? = some (k, v) ∧ RelV v es[i].val := by
  obtain ⟨hd, z, hs, xs, pr, o', es, ep, ho, hx, hdt, he, _⟩ := I.hok d _ h
  rw [hd] at ho
  cases ho
  have l1 : es.size = xs.length := size_of_entries he
  have l2 : kvs.length = xs.length := Paired.length pr
  refine ⟨es, ep, hdt, ⟨o, hd, hx, hdt⟩, by omega, fun i hi => ?_⟩
  have hk : i < kvs.length := by omega
  obtain ⟨b, hb, e1, e2, e3⟩ := paired_get pr (List.getElem?_eq_getElem hk)
  have q := entry_at he i
  rw [hb, Array.getElem?_eq_getElem hi] at q
  refine ⟨kvs[i].1, kvs[i].2, List.getElem?_eq_getElem hk, ?_⟩
  rw [Option.some.inj q]
  exact e3
theorem turn_dT {P : Program} {w : World} {K : PySem.W.Frag} {tg : Expr} {d it : Addr} {o : Obj} {kvs : List (List Key × V)} {es : Array DictEntry} {ep : Nat} (hod : o.data = .dict es ep) (hne : d ≠ it) :
    Turn P w K tg (ItdT d o kvs) [it] it (fun i h => h.IsValIter it d i es.size ep) where
  mem := by simp
  obj := fun i h st b hb => by
    rw [List.mem_singleton.mp hb]
    obtain ⟨oi, e, c, dd⟩ := st
    exact ⟨oi, e, fun v z => by rw [dd] at z; cases z⟩
  keep := fun i h h' st k => let ⟨oi, e, r⟩ := st; ⟨oi, k it (by simp) oi e, r⟩
  item := by
    intro X hP hw hK hc i pins s σ H E I hf st hg
    subst hP hw hK
    obtain ⟨f0, f1, f2, f3, f4, f5⟩ := hf it (by simp)
    obtain ⟨es', ep', hdt, dr, hsz, get⟩ := frzV I hg.1
    obtain ⟨rfl, rfl⟩ := dict_ep hod hdt
    have hi : i < es'.size := by rw [hsz]; exact hg.2
    obtain ⟨k, v, hk, rv⟩ := get i hi
    refine wpAny_pyNext_values_item_raw st dr hi fun h' st' sb => ?_
    have I1 : Inv X pins σ H { s with heap := h' } := I.turned (t' := s.toks) (fun b ob hb e => (sb.2 b hb).trans e) f0 f1 f3 f4 f5
    obtain ⟨oi, e, c, dd⟩ := id st'
    exact ⟨_, rfl, go_of (s := { s with heap := h' }) e c dd (by decide) ⟨v, H, I1, rv, ⟨rfl, k, hk⟩, st', fun b hb => (hf b hb).1⟩⟩
  done := by
    intro X hP hw hK hc i pins s σ H E I hf st hg
    subst hP hw hK
    obtain ⟨f0, f1, f2, f3, f4, f5⟩ := hf it (by simp)
    obtain ⟨es', ep', hdt, dr, hsz, get⟩ := frzV I hg.1
    obtain ⟨rfl, rfl⟩ := dict_ep hod hdt
    exact wpAny_pyNext_values_end_raw (I.ok.hd hc) st dr (Nat.le_of_eq (hsz.trans hg.2.symm)) fun h' eb => ⟨rfl, I.turned (t' := s.toks) (fun b ob hb e => eb b ob hb e) f0 f1 f3 f4 f5⟩
  self := fun A i s Q E st h => wpAny_pyIter_valiter st h
def iValsT (td : TE) : TI := fun σ H R => td σ H fun x H1 => ∃ d kvs, x = .ref d ∧ H1 d = some (.dT kvs) ∧ ∀ o, R (ItdT d o kvs) (upd H1 d (.frz o (.dT kvs)))
theorem pi_valuesT {X : Cx} {tg e : Expr} {td : TE} {apos cpos : Pos} (he : PE X e td) (hbase : attributeBase e "values" X.env (eval e X.env) = eval e X.env := by rfl) (hline : (apos.endLine == cpos.line) = true := by rfl) : PI X tg (.Call (.Attribute e "values" apos) [] [] cpos) (iValsT td) := by
  refine ⟨fun pins s σ H R I h => ?_⟩
  refine wpAny_Call_method (T := "dict") (id := "dict.values") hbase rfl hline F.plainAttrs_dict F.slot_dict_values F.type_dict_values (thn (he.run pins s σ H _ I h) fun u s1 ⟨x, H1, I1, rx, d, kvs, ex, hd, q⟩ => ?_)
  subst ex
  obtain rfl : u = Value.ref d := rx
  obtain ⟨o, I2⟩ := I1.lock hd trivial
  replace q := q o
  obtain ⟨es, ep, hdt, dr, hsz, get⟩ := frzV I2 upd_same
  obtain ⟨_, hds, _⟩ := dt_of I1.hok hd
  obtain ⟨o', ho', hx', _⟩ := id dr
  refine ⟨dr.typeIs, fun b e => ?_, ?_⟩
  · cases e
    exact ⟨o', ho', hx'.2.1⟩
  have I3 : Inv X pins σ (upd H1 d (.frz o (.dT kvs))) { s1 with heap := s1.heap.push { cls := .type "dict_values", data := .fields #[.ref d] } } := I2.kept (t' := s1.toks) fun b ob q => Heap.get?_push_of_some _ q
  have fin : wpAny (model X.prog X.w) X.A (pyIter (.ref s1.heap.objs.size)) (PIE X pins σ tg R) X.xe { s1 with heap := s1.heap.push { cls := .type "dict_values", data := .fields #[.ref d] } } := by
    refine wpAny_pyIter_values_raw (d := d) (es := es) (ep := ep) ⟨_, Heap.get?_push_size _ rfl, rfl, rfl⟩ (dr.at fun o e => Heap.get?_push_of_some _ e) (pi_one (tk := s1.toks) I3 _ (turn_dT hdt (Nat.ne_of_lt (Nat.lt_trans (Heap.lt_size ho') (by rw [Heap.size_push]; exact Nat.lt_succ_self _)))) ⟨_, Heap.get?_push_size _ rfl, rfl, rfl⟩ q)
  show wpAny _ _ (callWith cpos (.builtin "dict.values") [.ref d] [] []) _ X.xe s1
  exact method_meetsIn F.slot_dict_values F.entry_dict_values rfl (PySem.evalArgs_none ⟨rfl, dr.typeIs, F.args_dict_values_1 _, _, meets_dict_values_raw d hds, ⟨es, ep, dr⟩, fin⟩)
/-! ### as walks -/
theorem walk_Z2 {K : PySem.W.Frag} {a b : Zs} {xs ys : List V} {n : Nat} (hn : n = min xs.length ys.length) : Walk (ItZ2 K a b) n (fun H => a.is K H xs ∧ b.is K H ys)
    (fun i H v H' => ∃ T x y, v = .ref T ∧ H T = none ∧ H' = upd H T (.tup [x, y]) ∧ xs[i]? = some x ∧ ys[i]? = some y) :=
  ⟨fun i H hi q => ⟨xs, ys, q.1, q.2, by omega, by omega⟩, fun H q => ⟨xs, ys, q.1, q.2, hn⟩, fun i H v H' hi q ⟨T, x, y, e, nT, e', f1, f2⟩ => ⟨T, x, y, e, nT, e', f1 _ q.1, f2 _ q.2⟩⟩
theorem walk_Z3 {K : PySem.W.Frag} {a b c : Zs} {xs ys zs : List V} {n : Nat} (hn : n = min (min xs.length ys.length) zs.length) : Walk (ItZ3 K a b c) n (fun H => a.is K H xs ∧ b.is K H ys ∧ c.is K H zs)
    (fun i H v H' => ∃ T x y z, v = .ref T ∧ H T = none ∧ H' = upd H T (.tup [x, y, z]) ∧ xs[i]? = some x ∧ ys[i]? = some y ∧ zs[i]? = some z) :=
  ⟨fun i H hi q => ⟨xs, ys, zs, q.1, q.2.1, q.2.2, by omega, by omega, by omega⟩, fun H q => ⟨xs, ys, zs, q.1, q.2.1, q.2.2, hn⟩, fun i H v H' hi q ⟨T, x, y, z, e, nT, e', f1, f2, f3⟩ => ⟨T, x, y, z, e, nT, e', f1 _ q.1, f2 _ q.2.1, f3 _ q.2.2⟩⟩
theorem walk_dT {d : Addr} {o : Obj} {kvs : List (List Key × V)} : Walk (ItdT d o kvs) kvs.length (fun H => H d = some (.frz o (.dT kvs))) (fun i H x H' => H' = H ∧ ∃ k, kvs[i]? = some (k, x)) :=
  ⟨fun _ _ hi q => ⟨q, hi⟩, fun _ q => ⟨q, rfl⟩, fun _ _ _ _ _ _ y => y⟩
end Jd
namespace Jd
open PySem PySem.Spec PyProof.Rows L2
/-! ### y = {k: v for ..} -/
theorem sw_trueD {kx vx : Expr} {gs : List Comprehension} {scope : Scope} {pos py : Pos} {y : Str} {l : Nat} {env : Env} (hk : env.scope.kind = .function) (hy : env.scope.names.lookup y = some .local) (hl : (py.line == pos.line) = true) (ha : (scope.names.any fun (n, k) => n == y && (k == .local || k == .cell)) = false) :
    swapsWith (.DictComp kx vx gs scope pos) (some (.Name y py)) l env = pure true := by
  have ky : env.kindOf y = some .local := hy
  have hb : env.blockKind = .function := (by unfold Env.blockKind; rw [hk]; rfl)
  unfold swapsWith; simp only [hb, ky, ha, Expr.pos, hl]; rfl
theorem ps_setDc {X : Cx} {i : Nat} {y : Str} {py : Pos} {kx vx tg iter : Expr} {ifs : List Expr} {scope : Scope} {own : List (Str × Nat)} {pos spos : Pos} {wi : TI} {g : TG} {tt : TT} {tk tv : TE} (hc : X.calm = true) (hN : X.N.Nodup) (hy : X.N[i]? = some y) (hyl : X.env.scope.names.lookup y = some .local)
    (hsw : swapsWith (.DictComp kx vx [⟨tg, iter, ifs, 0⟩] scope pos) (some (.Name y py)) spos.line X.env = pure true) (hi : PI X tg iter wi) (ok : BlkOk X.N X.env.scope scope own)
    (hg : ∀ (s : Shared) (H : Hp) (C : Addr) (cl : List (Str × Addr)) (fp : List Addr), PG (X.blk s H scope (compEnvC scope cl C X.env) fp) tg g)
    (ht : ∀ (s : Shared) (H : Hp) (C : Addr) (cl : List (Str × Addr)) (fp : List Addr), PTs (X.blk s H scope (compEnvC scope cl C X.env) fp) ifs tt)
    (hk : ∀ (s : Shared) (H : Hp) (C : Addr) (cl : List (Str × Addr)) (fp : List Addr), PE (X.blk s H scope (compEnvC scope cl C X.env) fp) kx tk)
    (he : ∀ (s : Shared) (H : Hp) (C : Addr) (cl : List (Str × Addr)) (fp : List Addr), PE (X.blk s H scope (compEnvC scope cl C X.env) fp) vx tv) (hs : ∀ x, foldedSetIterable iter X.env x = pure x := by intro _; rfl) :
    PS X (.Assign [.Name y py] (.DictComp kx vx [⟨tg, iter, ifs, 0⟩] scope pos) spos) (tAsg (tDc wi g tt tk tv (own.map (·.2))) (gName i)) := by
  refine ⟨fun pins s σ H D I h => ?_⟩
  rw [exec_Assign_Name_used _ _ _ _ hsw]
  refine wpAny_bind (wpAny_standAt (wpAny_bind ?_))
  show wpAny _ X.A (do let _ ← comprehension (.DictComp kx vx [⟨tg, iter, ifs, 0⟩] scope pos) scope X.env (firstIterPos [⟨tg, iter, ifs, 0⟩] pos) newDict false (eval iter X.env) (some (assign (.Name y py) X.env))) _ _ s
  have h : tDc wi g tt tk tv (own.map (·.2)) σ H (fun x H1 => gName i x σ H1 D.nx) := h
  refine wpAny_bind (thn (dc_core (Qf := fun _ s' => SP X pins D .next s') hc hN I hi ok hg ht hk he hs h fun L C s' m H' I' q hn f => ?_) fun _ s' hq => wpAny_pure (wpAny_pure hq))
  show wpAny _ _ (assign (.Name y py) X.env (.ref L)) _ _ _
  refine wpAny_assign_Name (store_ok2 (v := V.ref L) I' hN hy (.inl hyl) rfl (fun s2 I2 ⟨a, sb, ha⟩ => ?_) (.inr hyl))
  obtain ⟨f0, f1, f2, f3, f4, f5⟩ := f
  have haC : C ≠ a := ha.elim (fun z => z ▸ f1) fun z e => f4 y a z e.symm
  exact ⟨m, hn.sameBut sb haC, fun h3 sb3 => ⟨_, H', I2.turned (t' := s2.toks) (fun b o hb e => (sb3.2 b hb).trans e) f0 f1 f3 f4 f5, q⟩⟩
end Jd
namespace Jd
open PySem PySem.Spec PyProof.Rows L2
/-! ### enumerate of a list, a tuple .. -/
theorem en_meets {v : Value} {o : Obj} {G : Heap → Prop} (B : Begins v o G) :
    Meets (Builtin.«enumerate.__new__» ⟨[.type "enumerate", v], []⟩) (fun _ R s => G s.heap ∧ R (.ok (.ret (.ref (s.heap.push o).objs.size))) { s with heap := (s.heap.push o).push { cls := .type "enumerate", data := .fields #[.none, .bool false, .ref s.heap.objs.size, rawInt 0, .none, .none] } }) :=
  .of_wp fun prog w A R s h => by
    obtain ⟨hp, g, d, tk, os⟩ := s
    obtain ⟨h1, h⟩ := h
    have hsub := sub_enumerate
    have q1 : ∀ {A' : Around} {E : Value → Shared → Prop} {Q : Value → Shared → Prop}, Q (.ref hp.objs.size) ⟨hp.push o, g, d, tk, os⟩ → wpAny (model prog w) A' (pyIter v) Q E ⟨hp, g, d, tk, os⟩ := fun q => B.iter prog w _ _ ⟨hp, g, d, tk, os⟩ _ h1 q
    wp_walk using q1
    refine wpAny_stack_any fun st => wpAny_pure ?_
    split
    · rename_i c _ _ _ _ _
      cases (c == Value.type "enumerate") <;> (wp_walk using q1; exact ⟨_, rfl, h⟩)
    · wp_walk using q1; exact ⟨_, rfl, h⟩
theorem en_begins {prog : Program} {w : World} {A : Around} {E : Value → Shared → Prop} {s : Shared} {v : Value} {o : Obj} {G : Heap → Prop} {Q : Value → Shared → Prop} (B : Begins v o G) (h1 : G s.heap)
    (h : ∀ h', IsEnum h' (s.heap.objs.size + 1) s.heap.objs.size 0 .none → h'.get? s.heap.objs.size = some o → (∀ b o, s.heap.get? b = some o → h'.get? b = some o) → Q (.ref (s.heap.objs.size + 1)) { s with heap := h' }) :
    wpAny (model prog w) A (call (.type "enumerate") [v]) Q E s := by
  refine callType_new F.called_enumerate (by decide) (F.typeCall_enumerate_1 _) (F.newCall_enumerate_1 _) (fun obj => F.args_object_init_2 obj _) F.entry_enumerate_new (en_meets B) ⟨h1, ?_⟩
  have hz : (s.heap.push o).objs.size = s.heap.objs.size + 1 := Heap.size_push ..
  show _ ∧ _
  rw [hz]
  have he : IsEnum ((s.heap.push o).push { cls := .type "enumerate", data := .fields #[.none, .bool false, .ref s.heap.objs.size, rawInt 0, .none, .none] }) (s.heap.objs.size + 1) s.heap.objs.size 0 .none := by
    have q := Heap.get?_push_size (s.heap.push o) (o := { cls := .type "enumerate", data := .fields #[.none, .bool false, .ref s.heap.objs.size, rawInt 0, .none, .none] }) rfl
    rw [hz] at q
    exact q
  exact ⟨⟨_, he, rfl⟩, h _ he (Heap.get?_push_of_some _ (Heap.get?_push_size _ B.free)) fun b o x => Heap.get?_push_of_some _ (Heap.get?_push_of_some _ x)⟩
def ItEn (K : PySem.W.Frag) (a : Zs) : It :=
  ⟨fun i H => ∃ xs : List V, a.is K H xs ∧ i < xs.length, fun i H v H' => ∃ T x, v = .ref T ∧ H T = none ∧ H' = upd H T (.tup [.int (i : Nat), x]) ∧ ∀ xs, a.is K H xs → xs[i]? = some x, fun i H => ∃ xs : List V, a.is K H xs ∧ i = xs.length⟩
theorem turn_En {P : Program} {w : World} {K : PySem.W.Frag} {elts : List Expr} {kk : Nat} {tpos : Pos} {a : Zs} {N : Nat} (ha : a.root < N) :
    Turn P w K (.Tuple elts kk tpos) (ItEn K a) [N + 1, N] (N + 1) (fun i h => (∃ old, IsEnum h (N + 1) N ((i : Nat) : Int) old) ∧ a.tn N i h) where
  mem := by simp
  obj := fun i h st c hc => by
    obtain ⟨⟨old, he⟩, t1⟩ := st
    have e' : c = N + 1 ∨ c = N := by simpa using hc
    rcases e' with q | q
    · rw [q]; exact ⟨_, he, fun v q => nomatch q⟩
    · rw [q]; exact Zs.tn_obj t1
  keep := fun i h h' st k => let ⟨⟨old, he⟩, t1⟩ := st; ⟨⟨old, k _ (by simp) _ he⟩, Zs.tn_at t1 fun o q => k _ (by simp) o q⟩
  item := by
    intro X hP hw hK hc i pins s σ H E I hf st hg
    subst hP hw hK
    obtain ⟨⟨old, he⟩, t1⟩ := st
    obtain ⟨xs, hx, l1⟩ := hg
    obtain ⟨n1, P1, S1, e1, D1, st1, b1, y1⟩ := Zs.draws I hc hx t1 (Nat.ne_of_lt ha)
    have W := GoesN.enumFrom (elts := elts) (x1 := kk) (pos := tpos) 0 D1 (N + 1) (Nat.succ_ne_self N) (fun hm => by
      rcases List.mem_cons.mp hm with q | q
      · exact Nat.succ_ne_self N q
      · exact absurd (List.mem_singleton.mp q) (Nat.ne_of_gt (Nat.lt_succ_of_lt ha))) (List.mem_cons_self)
    have old' : ∀ c ∈ [N + 1, N], c < s.heap.objs.size := fun c hm => by
      have e' : c = N + 1 ∨ c = N := by simpa using hm
      have lz := Heap.lt_size he
      rcases e' with q | q <;> (rw [q]; exact Nat.lt_of_le_of_lt (by omega) lz)
    have z0 : ∀ j : Nat, (0 : Int) + (j : Int) = (j : Int) := fun j => Int.zero_add _
    refine wpAny_mono (W.goes i s (fun v s2 => ∃ x H', Inv X pins σ H' s2 ∧ RelV x v ∧ (ItEn X.K a).yld i H x H' ∧ ((∃ old, IsEnum s2.heap (N + 1) N ((i + 1 : Nat) : Int) old) ∧ a.tn N (i + 1) s2.heap) ∧ ∀ c ∈ [N + 1, N], H' c = none) E (by omega) ⟨⟨old, by rw [z0]; exact he⟩, st1⟩ fun v h' tk hY st' hk htk => ?_) (fun r s1 ⟨v, e, q⟩ => ⟨v, e, q⟩) fun _ _ e => e
    obtain ⟨T, t0, u1, rfl, hT, p1, o, ho, hoc, n, hod⟩ := hY
    obtain ⟨x, ex, rx⟩ := y1 i u1 p1
    obtain ⟨⟨old2, c1⟩, c2⟩ := st'
    rw [z0] at c1 hod
    have new : ObjOk X.prog X.w (upd H T (.tup [.int (i : Nat), x])) h' T (.tup [.int (i : Nat), x]) := ⟨by show 2 ≤ sizeLine; decide, [.int i t0, u1], .cons ⟨_, rfl⟩ (.cons rx .nil), o, ho, hoc, n, hod⟩
    have I1 : Inv X pins σ (upd H T (.tup [.int (i : Nat), x])) { s with heap := h', toks := tk } := I.turnedNew (ch := [N + 1, N]) (fun c ob hb q => hk c ob hb q) hf hT new
    refine ⟨.ref T, _, I1, rfl, ⟨T, x, rfl, I.hok.fresh hT, rfl, fun l hl => by rw [Zs.inj I hx hl]; exact ex⟩, ⟨⟨old2, c1⟩, b1 _ _ c2⟩, fun c hm => ?_⟩
    rw [upd_ne (Nat.ne_of_lt (Nat.lt_of_lt_of_le (old' c hm) hT))]
    exact (hf c hm).1
  done := by
    intro X hP hw hK hc i pins s σ H E I hf st hg
    subst hP hw hK
    obtain ⟨⟨old, he⟩, t1⟩ := st
    obtain ⟨xs, hx, rfl⟩ := hg
    obtain ⟨n1, P1, S1, e1, D1, st1, b1, y1⟩ := Zs.draws I hc hx t1 (Nat.ne_of_lt ha)
    have W := GoesN.enumFrom (elts := elts) (x1 := kk) (pos := tpos) 0 D1 (N + 1) (Nat.succ_ne_self N) (fun hm => by
      rcases List.mem_cons.mp hm with q | q
      · exact Nat.succ_ne_self N q
      · exact absurd (List.mem_singleton.mp q) (Nat.ne_of_gt (Nat.lt_succ_of_lt ha))) (List.mem_cons_self)
    rw [← e1] at st1 he
    exact W.stops s (fun s1 => Inv X pins σ H s1) E ⟨⟨old, by rw [Int.zero_add]; exact he⟩, st1⟩ fun h' tk hk htk => I.turnedL (ch := [N + 1, N]) (fun c ob hb q => hk c ob hb q) hf
  self := fun A i s Q E st h => let ⟨⟨_, he⟩, _⟩ := st; wpAny_pyIter_enum he h
def iEn (K : PySem.W.Frag) (ta : TA) : TI := fun σ H R => ta σ H fun vs H1 => ∃ (a : Zs) (xs : List V), vs = [a.v] ∧ a.is K H1 xs ∧ R (ItEn K a) H1
theorem pi_En {X : Cx} {e : Expr} {ta : TA} {p pos tpos : Pos} {elts : List Expr} {kk : Nat} (hg : Gl X "enumerate") (hm : X.mg "enumerate" = none) (ha : PA X [e] ta) (hs : starEach [e] X.env = [(false, eval e X.env)] := by rfl) :
    PI X (.Tuple elts kk tpos) (.Call (.Name "enumerate" p) [e] [] pos) (iEn X.K ta) := by
  refine ⟨fun pins s σ H R I h => ?_⟩
  refine Call_ (ld_blt I hg hm boot_enumerate (PyProof.Rows.callWith_type1 (thn (ha.run pos pins s σ H _ I h) fun us s1 ⟨vs, H1, I1, r1, q1⟩ => ?_) hs rfl))
  obtain ⟨a, xs, ex, hx, q⟩ := q1
  subst ex
  cases r1 with
  | cons r rr =>
    cases rr
    obtain ⟨o1, G1, B1, g1, t1⟩ := Zs.begins I1 hx r
    refine en_begins B1 g1 fun h' he i1 hk => wpAny_pyIter_enum he ?_
    have I2 : Inv X pins σ H1 { s1 with heap := h' } := I1.kept (t' := s1.toks) hk
    refine ⟨s1.heap.objs.size + 1, [s1.heap.objs.size + 1, s1.heap.objs.size], _, _, H1, rfl, I2, turn_En (root_lt I1 hx), ⟨⟨.none, he⟩, t1 _ _ i1⟩, fun c hcm => ?_, q⟩
    have hle : s1.heap.objs.size ≤ c := by
      have e' : c = s1.heap.objs.size + 1 ∨ c = s1.heap.objs.size := by simpa using hcm
      rcases e' with z | z <;> (rw [z]; first | exact Nat.le_add_right _ _ | exact Nat.le_refl _)
    exact I1.fpOk hle (I1.hok.fresh hle)
theorem walk_En {K : PySem.W.Frag} {a : Zs} {xs : List V} : Walk (ItEn K a) xs.length (fun H => a.is K H xs) (fun i H v H' => ∃ T x, v = .ref T ∧ H T = none ∧ H' = upd H T (.tup [.int (i : Nat), x]) ∧ xs[i]? = some x) :=
  ⟨fun i H hi q => ⟨xs, q, hi⟩, fun H q => ⟨xs, q, rfl⟩, fun i H v H' hi q ⟨T, x, e, nT, e', f1⟩ => ⟨T, x, e, nT, e', f1 _ q⟩⟩
end Jd
namespace Jd
open PySem PySem.Spec PyProof.Rows L2
/-! ### is_row of a lawful row -/
def spCn (K : PySem.W.Frag) : Sp := fun vs H Q _ => ∃ (kk a b : Addr) (ns : List Str) (t : Str → List Str) (r s : Rcd), vs = [.ref kk, .ref a, .ref b] ∧ KeysO K H kk ns t ∧ RecAt H a r ∧ RecAt H b s ∧ r.2.length = ns.length ∧ s.2.length = ns.length ∧ NoClash ns t r s ∧ ∀ H', Same H H' → Q .non H'
def spFc (K : PySem.W.Frag) : Sp := fun vs H Q _ => ∃ (kk p : Addr) (ns : List Str) (t : Str → List Str) (rs : List Addr) (row : List Rcd), vs = [.ref kk, .ref p] ∧ KeysO K H kk ns t ∧ H p = some (.tup (rs.map V.ref)) ∧ RowAt H rs row ∧ row.length ≤ 1000 ∧ LawRow ns t row ∧ ∀ H', Same H H' → Q .non H'
def spIr (K : PySem.W.Frag) : Sp := fun vs H Q _ => ∃ (kk p : Addr) (ns : List Str) (t : Str → List Str) (rs : List Addr) (row : List Rcd), vs = [.ref kk, .ref p] ∧ KeysO K H kk ns t ∧ H p = some (.tup (rs.map V.ref)) ∧ RowAt H rs row ∧ row.length ≤ 1000 ∧ LawRow ns t row ∧ ∀ H', Same H H' → Q (.bl true) H'
theorem KeysO.row_mem {ns : List Str} {t : Str → List Str} {a b : Str} (h : (a, b) ∈ pairsOf ns t) : a ∈ ns ∧ b ∈ t a := by
  obtain ⟨n, hn, h⟩ := List.mem_flatMap.mp h
  obtain ⟨o, ho, e⟩ := List.mem_map.mp h
  cases e
  exact ⟨hn, ho⟩
section
variable {P : Program} {w : World} {K : PySem.W.Frag} {mg : Str → Option Value} {base : Heap}
abbrev NCn : List Str := ["keys", "one", "other", "alike", "name", "mine", "yours", "teller", "told"]
theorem sc_cn : FnScope NCn ["keys", "one", "other"] (defScope s__clashing_name) := ⟨rfl, rfl, rfl, by decide +kernel, rfl, by decide +kernel, by decide +kernel⟩
theorem ok_clashing (B : Bk K mg) : Df P w K mg base CX0 3 "_clashing_name" ["keys", "one", "other"] (spCn K) := by
  obtain ⟨fd, F⟩ := B.F_clashing_name
  obtain ⟨fdN, GN, bN⟩ := ok_names (P := P) (w := w) (base := base) B
  obtain ⟨fdP, GP, bP⟩ := ok_pairs (P := P) (w := w) (base := base) B
  refine ⟨⟨fd, ?_, F.binds fun _ _ _ _ _ _ us hl => match us, hl with | [_, _, _], _ => rfl⟩, B.g_clashing_name, F.kp⟩
  refine F.ok sc_cn (fun vs H Q E h => ?_) (fun cdv A outer s H vs Q E hr h => ?_)
  · obtain ⟨_, _, _, _, _, _, _, rfl, _⟩ := h
    rfl
  · obtain ⟨kk, a, b, ns, t, r, s, rfl, ko, ra, rb, lr, ls, nc, k⟩ := h
    have hu := hu_of hr
    have hr2 : Room 2 _ := hr.mono (by decide)
    refine ⟨_, pss_cons (ps_setDc (i := 3) (own := [("name", 4), ("mine", 5), ("yours", 6)]) (g := gTup K 3 (gCons (gName 4) (gCons (gName 5) (gCons (gName 6) gNil)))) (tt := tYes) (tk := tVar 4) (tv := tOp rEq (tVar 5) (tVar 6)) rfl sc_cn.nd rfl rfl (sw_trueD rfl rfl rfl (by decide +kernel))
          (pi_Z3 (by rfl) B.b_zip (pa_cons (pe_prop (pv 0) B.cl_Keys B.pr_Keys_names GN hr2 bN .nil pass0 rfl) (pa_cons (pe_ix ix_tup (pv 1) pe_int (fun _ _ => rfl)) (pa_cons (pe_ix ix_tup (pv 2) pe_int (fun _ _ => rfl)) pa_nil))))
          (blkOk_by (N := NCn) (sc := defScope s__clashing_name) (by decide +kernel))
          (fun _ _ _ _ _ => pg_tup rfl (pgs_cons (pg_name (i := 4) sc_cn.nd rfl (Or.inl rfl)) (pgs_cons (pg_name (i := 5) sc_cn.nd rfl (Or.inl rfl)) (pgs_cons (pg_name (i := 6) sc_cn.nd rfl (Or.inl rfl)) pgs_nil)))) (fun _ _ _ _ _ => pts_nil) (fun _ _ _ _ _ => pv 4) (fun _ _ _ _ _ => pe_cmpR op_eq (pv 5) (pv 6) (nomark _)))
      (pss_cons (ps_for PassesOwn.never rfl (pi_tup (pe_prop (pv 0) B.cl_Keys B.pr_Keys_pairs GP hr2 bP .nil pass0 rfl)) (pg_tup rfl (pgs_cons (pg_name (i := 7) sc_cn.nd rfl (.inl rfl)) (pgs_cons (pg_name (i := 8) sc_cn.nd rfl (.inl rfl)) pgs_nil)))
        (pss_one (ps_if (PW.pt (pw_and (pt_val (pe_dget hu (pv 3) (pv 7) (fun _ _ => rfl))) (pw_and1 (pt_not (pt_val (pe_dget hu (pv 3) (pv 8) (fun _ _ => rfl))))))) (pss_one (ps_ret (pv 7))) pss_nil)))
      (pss_one (ps_ret pe_non))), ?_⟩
    obtain ⟨dk, tn, dd, AA, hk, _, _, _, nd, l7, _, t7⟩ := id ko
    obtain ⟨va, ha, hva⟩ := ra
    obtain ⟨vb, hb, hvb⟩ := rb
    refine ⟨_, rfl, kk, dk, _, rfl, hk, kk, ns, t, rfl, ko, fun p hp => ?_⟩
    refine ⟨_, rfl, a, _, 1, .ref va, rfl, rfl, SqT.of ha, rfl, _, rfl, b, _, 1, .ref vb, rfl, rfl, SqT.of hb, rfl, ?_⟩
    refine ⟨.tup p, .tup va, .tup vb, _, _, _, rfl, SqT.of hp, SqT.of hva, SqT.of hvb, fun D hD => ?_⟩
    refine walk_by (walk_Z3 (n := ns.length) (by simp [lr, ls])) _ (fun i H' => Same H H' ∧ H' D = some (.dK (kvG (ns.take i) fun n => V.bl (decide (valAt ns r n = valAt ns s n)))))
      ⟨Same_new hD, upd_same⟩ (fun i H' q => ⟨SqT.of (q.1 _ _ hp), SqT.of (q.1 _ _ hva), SqT.of (q.1 _ _ hvb)⟩) (fun i x H1 H2 hi ⟨s1, hD1⟩ y => ?_) (fun H1 ⟨s1, hD1⟩ => ?_)
    · obtain ⟨T, x1, x2, x3, rfl, nT, rfl, e1, e2, e3⟩ := y
      obtain ⟨n, hn, rfl⟩ := at_str e1
      rw [List.getElem?_map] at e2 e3
      obtain ⟨z1, f1, rfl⟩ := Option.map_eq_some_iff.mp e2
      obtain ⟨z2, f2, rfl⟩ := Option.map_eq_some_iff.mp e3
      have s2 := s1.trans (Same_new (a := T) (o := HO.tup [.str n, .int z1, .int z2]) nT)
      have hD2 := Same_new (a := T) (o := HO.tup [.str n, .int z1, .int z2]) nT _ _ hD1
      refine ⟨_, _, rfl, SqT.of upd_same, rfl, _, _, rfl, _, _, rfl, _, _, rfl, rfl, rfl, iteT (B := ∃ z : Nat, z = 0) ?_⟩
      refine ⟨_, rfl, _, rfl, _, rfl, rfl, _, Sum.inr n, rfl, hD2, ?_, Same_upd s2 hD, ?_⟩
      · rw [kvG_len, List.length_take]
        have : (1000 : Nat) < sizeLine := by decide
        omega
      · have ev : V.bl (decide (V.int z1 = V.int z2)) = (fun n => V.bl (decide (valAt ns r n = valAt ns s n))) n := by
          show _ = V.bl (decide (valAt ns r n = valAt ns s n))
          rw [valAt_at nd hn f1, valAt_at nd hn f2]
          exact congrArg V.bl (decide_eq_decide.mpr ⟨V.int.inj, fun e => e ▸ rfl⟩)
        rw [upd_same, ev, putG_new (nd_take nd hn), take_next hn]
    rw [List.take_length] at hD1
    have ko1 := ko.same s1
    obtain ⟨dk', tn', dd', AA', hk', _⟩ := id ko1
    refine ⟨_, rfl, kk, dk', _, rfl, hk', kk, ns, t, rfl, ko1, fun H2 p2 qs s2 hp2 pr => ?_⟩
    have hD2 := s2 _ _ hD1
    refine ⟨p2, rfl, ⟨_, SqT.of hp2⟩, ?_⟩
    refine for_it (walk_tup (xs := qs.map V.ref)) (fun i σ H' => ∃ v7 v8 : Option V, σ = [some (.ref kk), some (.ref a), some (.ref b), some (.ref D), none, none, none, v7, v8] ∧ H' = H2)
      ⟨_, _, rfl, rfl⟩ (fun i σ H' _ ⟨_, _, _, e⟩ => by rw [e]; exact SqT.of hp2) (fun i x σ H5 H6 hi ⟨v7, v8, e, e5⟩ y => ?_) (fun σ H5 ⟨v7, v8, e, e5⟩ => ?_)
    · obtain ⟨rfl, hx⟩ := y
      subst e e5
      obtain ⟨q, hq, rfl⟩ := at_ref hx
      obtain ⟨⟨x1, x2⟩, hpr, hqt⟩ := pr.2 i q hq
      obtain ⟨m1, m2⟩ := KeysO.row_mem (List.mem_of_getElem? hpr)
      have m3 : x2 ∈ ns := (t7 x1 m1).2 x2 m2
      refine ⟨_, _, rfl, SqT.of hqt, rfl, _, _, rfl, _, _, rfl, rfl, ?_⟩
      refine ⟨_, rfl, _, rfl, D, _, rfl, gd_kvG hD2 m1, _, rfl, ?_⟩
      refine two (fun c => ?_) (fun _ => ⟨_, _, rfl, rfl⟩)
      refine ⟨_, rfl, _, rfl, D, _, rfl, gd_kvG hD2 m3, _, rfl, ?_⟩
      rw [decide_eq_true (nc x1 m1 x2 m2 (of_decide_eq_true c))]
      exact iteF ⟨_, _, rfl, rfl⟩
    · subst e e5
      exact k _ (s1.trans s2)
abbrev NFc : List Str := ["keys", "row", "at", "second", "first", "name"]
theorem sc_fc : FnScope NFc ["keys", "row"] (defScope s__first_clash) := ⟨rfl, rfl, rfl, by decide +kernel, rfl, by decide +kernel, by decide +kernel⟩
theorem ok_first_clash (B : Bk K mg) : Df P w K mg base CX0 4 "_first_clash" ["keys", "row"] (spFc K) := by
  obtain ⟨fd, F⟩ := B.F_first_clash
  obtain ⟨fdC, GC, bC⟩ := (ok_clashing (P := P) (w := w) (base := base) B).ex
  have kC := (ok_clashing (P := P) (w := w) (base := base) B).kp
  refine ⟨⟨fd, ?_, F.binds fun _ _ _ _ _ _ us hl => match us, hl with | [_, _], _ => rfl⟩, B.g_first_clash, F.kp⟩
  refine F.ok sc_fc (fun vs H Q E h => ?_) (fun cdv A outer s H vs Q E hr h => ?_)
  · obtain ⟨_, _, _, _, _, _, rfl, _⟩ := h
    rfl
  · obtain ⟨kk, p, ns, t, rs, row, rfl, ko, hp, hrow, l, lw, k⟩ := h
    refine ⟨_, pss_cons (ps_for PassesOwn.never rfl (pi_En (by rfl) B.b_enumerate (pa_cons (pv 1) pa_nil)) (pg_tup rfl (pgs_cons (pg_name (i := 2) sc_fc.nd rfl (.inl rfl)) (pgs_cons (pg_name (i := 3) sc_fc.nd rfl (.inl rfl)) pgs_nil)))
        (pss_one (ps_for PassesOwn.never rfl (pi_tup (pe_slice sl_tup (pv 1) po_none (po_some (pv 2)))) (pg_name (i := 4) sc_fc.nd rfl (.inl rfl))
          (pss_cons (ps_set (i := 5) sc_fc.nd rfl (Or.inl rfl) (pe_call GC hr rfl B.g_clashing_name kC bC .nil pass0 (pa_cons (pv 0) (pa_cons (pv 4) (pa_cons (pv 3) pa_nil)))))
          (pss_one (ps_if (pt_cmpR op_notN (pv 5) pe_non (by rfl)) (pss_one ps_never) pss_nil))))))
      (pss_one (ps_ret pe_non)), ?_⟩
    obtain ⟨lr, at_r⟩ := row_at hrow
    refine ⟨_, rfl, .tup p, _, rfl, SqT.of hp, ?_⟩
    refine for_it (walk_En (a := .tup p) (xs := rs.map V.ref)) (fun i σ H' => ∃ v2 v3 v4 v5 : Option V, σ = [some (.ref kk), some (.ref p), v2, v3, v4, v5] ∧ Same H H')
      ⟨_, _, _, _, rfl, Same.refl _⟩ (fun i σ H' _ ⟨_, _, _, _, _, s'⟩ => SqT.of (s' _ _ hp)) (fun i x σ H5 H6 hi ⟨v2, v3, v4, v5, e, s5⟩ y => ?_) (fun σ H5 ⟨v2, v3, v4, v5, e, s5⟩ => ?_)
    · obtain ⟨T, x2, rfl, nT, rfl, e2⟩ := y
      subst e
      obtain ⟨a, ha, rfl⟩ := at_ref e2
      obtain ⟨r, hr1, ra⟩ := at_r i a ha
      have s6 := s5.trans (Same_new (a := T) (o := HO.tup [V.int (i : Nat), .ref a]) nT)
      refine ⟨_, _, rfl, SqT.of upd_same, rfl, _, _, rfl, _, _, rfl, rfl, ?_⟩
      have hi2 : i < rs.length := (List.getElem?_eq_some_iff.mp ha).1
      refine ⟨_, rfl, _, rfl, _, rfl, p, _, rfl, SqT.of ((Same_new (a := T) (o := HO.tup [V.int (i : Nat), .ref a]) nT) _ _ (s5 _ _ hp)), fun z => ?_, fun q nq => ?_⟩
      · have z2 := z.2
        rw [HT.sIx_nat, List.length_map] at z2
        omega
      have eq : cutV (rs.map V.ref) none (some (i : Nat)) = (rs.take i).map V.ref := by
        rw [cut_to, ← List.map_take]
      rw [eq]
      have s7 := s6.trans (Same_new (a := q) (o := HO.tup ((rs.take i).map V.ref)) nq)
      refine ⟨q, rfl, ⟨_, SqT.of upd_same⟩, ?_⟩
      generalize hH7 : upd (upd H5 T (.tup [V.int (i : Nat), .ref a])) q (.tup ((rs.take i).map V.ref)) = H7 at s7
      have hq7 : H7 q = some (.tup ((rs.take i).map V.ref)) := by rw [← hH7]; exact upd_same
      refine for_it (walk_tup (xs := (rs.take i).map V.ref)) (fun j σ H' => ∃ v4 v5 : Option V, σ = [some (.ref kk), some (.ref p), some (.int (i : Nat)), some (.ref a), v4, v5] ∧ Same H7 H')
        ⟨_, _, rfl, Same.refl _⟩ (fun j σ H' _ ⟨_, _, _, s'⟩ => SqT.of (s' _ _ hq7)) (fun j x σ H8 H9 hj ⟨w4, w5, e, s8⟩ y => ?_) (fun σ H8 ⟨w4, w5, e, s8⟩ => ?_)
      · obtain ⟨rfl, hx⟩ := y
        subst e
        obtain ⟨b, hb, rfl⟩ := at_ref hx
        have hb2 : rs[j]? = some b := by
          rw [List.getElem?_take] at hb
          split at hb
          · exact hb
          · cases hb
        obtain ⟨r2, hr2, rb⟩ := at_r j b hb2
        have s9 := s7.trans s8
        refine ⟨_, rfl, _, rfl, _, rfl, kk, b, a, ns, t, r2, r, rfl, ko.same s9, rb.same s9, ra.same s9, (lw.ok r2 (List.mem_of_getElem? hr2)).2, (lw.ok r (List.mem_of_getElem? hr1)).2, lw.cl r2 (List.mem_of_getElem? hr2) r (List.mem_of_getElem? hr1), fun H10 s10 => ?_⟩
        exact ⟨_, rfl, rfl, _, rfl, iteF ⟨_, _, rfl, s8.trans s10⟩⟩
      · subst e
        exact ⟨_, _, _, _, rfl, s7.trans s8⟩
    · subst e
      exact k _ s5
abbrev NIr : List Str := ["keys", "thing", "member"]
theorem sc_ir : FnScope NIr ["keys", "thing"] (defScope s_is_row) := ⟨rfl, rfl, rfl, by decide +kernel, rfl, by decide +kernel, by decide +kernel⟩
theorem ok_is_row (B : Bk K mg) : Df P w K mg base CX0 5 "is_row" ["keys", "thing"] (spIr K) := by
  obtain ⟨fd, F⟩ := B.F_is_row
  obtain ⟨fdC, GC, bC⟩ := (ok_first_clash (P := P) (w := w) (base := base) B).ex
  have kC := (ok_first_clash (P := P) (w := w) (base := base) B).kp
  obtain ⟨fdD, GD, bD⟩ := (ok_first_doubled (P := P) (w := w) (base := base) B).ex
  have kD := (ok_first_doubled (P := P) (w := w) (base := base) B).kp
  obtain ⟨fdR, GR, bR⟩ := (ok_is_record (P := P) (w := w) (base := base) B).ex
  have kR := (ok_is_record (P := P) (w := w) (base := base) B).kp
  refine ⟨⟨fd, ?_, F.binds fun _ _ _ _ _ _ us hl => match us, hl with | [_, _], _ => rfl⟩, B.g_is_row, F.kp⟩
  refine F.ok sc_ir (fun vs H Q E h => ?_) (fun cdv A outer s H vs Q E hr h => ?_)
  · obtain ⟨_, _, _, _, _, _, rfl, _⟩ := h
    rfl
  · obtain ⟨kk, p, ns, t, rs, row, rfl, ko, hp, hrow, l, lw, k⟩ := h
    have hr1 : Room 1 _ := hr.mono (by decide)
    have hr3 : Room 3 _ := hr.mono (by decide)
    refine ⟨_, pss_cons (ps_if (pt_not (pt_val (pe_callB call_isi (by rfl) B.b_isinstance (by decide +kernel) (pa_cons (pv 1) (pa_cons (pe_bltn (by rfl) B.b_tuple (by decide +kernel) (show RelV (.ty "tuple") (.type "tuple") from rfl)) pa_nil))))) (pss_one (ps_ret pe_bl)) pss_nil)
      (pss_cons (ps_if (pt_not (pt_val (pe_callB (cr_all rfl) (by rfl) B.b_all (by decide +kernel) (pa_cons (pe_lc (own := [("member", 2)]) (g := gName 2) (tt := tYes) rfl sc_ir.nd (pi_tup (pv 1)) (blkOk_by (N := NIr) (sc := defScope s_is_row) (by decide +kernel)) (fun _ _ _ _ _ => pg_name (i := 2) sc_ir.nd rfl (Or.inl rfl)) (fun _ _ _ _ _ => pts_nil) (fun _ _ _ _ _ => pe_call GR hr3 rfl B.g_is_record kR bR .nil pass0 (pa_cons (pv 0) (pa_cons (pv 2) pa_nil)))) pa_nil)))) (pss_one (ps_ret pe_bl)) pss_nil)
      (pss_one (ps_ret (pe_and (pe_cmpR op_isN (pe_call GD hr1 rfl B.g_first_doubled kD bD .nil pass0 (pa_cons (pv 1) pa_nil)) pe_non (by rfl)) (pe_one (pe_cmpR op_isN (pe_call GC hr rfl B.g_first_clash kC bC .nil pass0 (pa_cons (pv 0) (pa_cons (pv 1) pa_nil))) pe_non (by rfl))))))), ?_⟩
    obtain ⟨lr, at_r⟩ := row_at hrow
    obtain ⟨_, _, _, _, _, _, _, _, _, l7, _⟩ := id ko
    refine ⟨_, rfl, _, _, _, _, _, rfl, .ty "tuple", .base (.tup hp), kit_ty (a := "tuple") (r := true) (by decide +kernel), _, rfl, iteF ?_⟩
    refine ⟨_, rfl, p, rfl, ⟨_, SqT.of hp⟩, fun D hD => ?_⟩
    refine lc_fm (walk_tup (xs := rs.map V.ref)) (fun _ => some (.bl true)) hD (by rw [List.length_map, lr]; exact Nat.le_trans l (by decide)) (fun H' s' => SqT.of (s' _ _ hp)) (fun i v H2 H3 Kt Kf hi s2 y kt kf => ?_) (fun H2 s2 hD2 => ?_)
    · obtain ⟨rfl, hv⟩ := y
      obtain ⟨a, ha, rfl⟩ := at_ref hv
      obtain ⟨r, hr1, ra⟩ := at_r i a ha
      obtain ⟨r0, rl⟩ := lw.ok r (List.mem_of_getElem? hr1)
      exact ⟨rfl, iteT (B := Kf H3) ⟨_, rfl, _, rfl, kk, a, ns, t, r, rfl, ko.same s2, ra.same s2, r0, rl, l7, fun H4 s4 => kt _ _ rfl s4⟩⟩
    · refine ⟨D, List.replicate (rs.map V.ref).length true, rfl, SqL.of (hD2.trans (by rw [rep_true])), ?_⟩
      rw [rep_all]
      refine ⟨_, rfl, iteF ?_⟩
      refine ⟨_, rfl, p, rs, row, rfl, s2 _ _ hp, hrow.same s2, l, lw.nd, fun H3 s3 => ⟨rfl, _, rfl, iteT ?_⟩⟩
      have s23 := s2.trans s3
      exact ⟨_, rfl, _, rfl, kk, p, ns, t, rs, row, rfl, ko.same s23, s23 _ _ hp, hrow.same s23, l, lw, fun H4 s4 => ⟨rfl, k _ (s23.trans s4)⟩⟩
end
end Jd
namespace Jd
open PySem PySem.Spec PyProof.Rows L2
/-! ### records as data -/
/-- x in t, a tuple of data of any depth -/
def rInT (K : PySem.W.Frag) : R2 := fun x y H Q => ∃ d ds, Dp K H x d ∧ Dp K H y (.tuple ds) ∧ SeqAt.shaped d = true ∧ SeqAt.shaped (.tuple ds) = true ∧ Q (.bl (ds.any fun z => PyData.eqv z d)) H
theorem op_inT {X : Cx} (hu : X.A.units + 65 < cLine) : OpR X (compareOp .In) (rInT X.K) := by
  intro pins s σ H x y v u Q I rx ry h
  obtain ⟨d, ds, hd, he, sd, se, q⟩ := h
  obtain ⟨as, r1⟩ := Dp.reads I d x v hd rx
  obtain ⟨bs, r2⟩ := Dp.reads I (.tuple ds) y u he ry
  exact SeqAt.in_tuple_reads r2 r1 (SeqAt.canLay_of_shaped se) (SeqAt.canLay_of_shaped sd) (room_in_shaped sd hu) ⟨.bl _, H, I, rfl, q⟩
/-- x in xs, a list -/
def rInLd (K : PySem.W.Frag) : R2 := fun x y H Q => ∃ d ds, Dp K H x d ∧ Dp K H y (.list ds) ∧ SeqAt.shaped d = true ∧ SeqAt.shaped (.list ds) = true ∧ Q (.bl (ds.any fun z => PyData.eqv z d)) H
def rNiLd (K : PySem.W.Frag) : R2 := fun x y H Q => ∃ d ds, Dp K H x d ∧ Dp K H y (.list ds) ∧ SeqAt.shaped d = true ∧ SeqAt.shaped (.list ds) = true ∧ Q (.bl (!ds.any fun z => PyData.eqv z d)) H
abbrev dInts (l : List Int) : List PyData := l.map PyData.int
def dRec (r : Rcd) : PyData := .tuple [.int r.1, .tuple (dInts r.2)]
abbrev dRow (l : List Rcd) : List PyData := l.map dRec
section
variable {K : PySem.W.Frag} {H : Hp}
theorem dpI : ∀ l : List Int, DpAll K H (l.map V.int) (dInts l)
  | [] => .nil
  | x :: xs => .cons (.int _) (dpI xs)
theorem layI : ∀ l : List Int, PyData.canLayAll0 (dInts l) = true
  | [] => by simp [PyData.canLayAll0]
  | x :: xs => by
    rw [show dInts (x :: xs) = .int x :: dInts xs from rfl]
    simp only [PyData.canLayAll0, PyData.canLay0, layI xs, Bool.true_and]
theorem depI : ∀ l : List Int, PyData.depthAll (dInts l) = 0
  | [] => by simp [PyData.depthAll]
  | x :: xs => by
    rw [show dInts (x :: xs) = .int x :: dInts xs from rfl]
    simp only [PyData.depthAll, PyData.depth, depI xs]
    rfl
theorem eqvI : ∀ l m : List Int, PyData.eqvAll (dInts l) (dInts m) = decide (l = m)
  | [], [] => by simp [PyData.eqvAll]
  | [], y :: ys => by simp [PyData.eqvAll]
  | x :: xs, [] => by simp [PyData.eqvAll]
  | x :: xs, y :: ys => by
    rw [show dInts (x :: xs) = .int x :: dInts xs from rfl, show dInts (y :: ys) = .int y :: dInts ys from rfl, PyData.eqvAll, eqvI xs ys, PyData.eqv]
    by_cases h : x = y
    · subst h
      simp
    · rw [beq_eq_false_iff_ne.mpr h, Bool.false_and, decide_eq_false fun q => h (List.cons.inj q).1]
theorem shpT (l : List Int) : SeqAt.shaped (.tuple (dInts l)) = true := by
  unfold SeqAt.shaped
  rw [Bool.and_eq_true]
  refine ⟨by simpa [PyData.canLay0] using layI l, decide_eq_true ?_⟩
  simp only [PyData.depth]
  have := depI l
  omega
theorem eqvT (l m : List Int) : PyData.eqv (.tuple (dInts l)) (.tuple (dInts m)) = decide (l = m) := by
  rw [PyData.eqv]
  exact eqvI l m
theorem dpT {a : Addr} {l : List Int} (h : H a = some (.tup (l.map V.int))) : Dp K H (.ref a) (.tuple (dInts l)) := .tup (SqT.of h) (dpI l)
theorem dpRec {a : Addr} {r : Rcd} (h : RecAt H a r) : Dp K H (.ref a) (dRec r) := by
  obtain ⟨va, h1, h2⟩ := h
  exact .tup (SqT.of h1) (.cons (.int _) (.cons (dpT h2) .nil))
theorem dpRow : ∀ {rs : List Addr} {row : List Rcd}, RowAt H rs row → DpAll K H (rs.map V.ref) (dRow row)
  | [], [], _ => .nil
  | _ :: _, _ :: _, .cons h t => .cons (dpRec h) (dpRow t)
theorem eqvR (r s : Rcd) : PyData.eqv (dRec r) (dRec s) = decide (r = s) := by
  unfold dRec
  rw [PyData.eqv, PyData.eqvAll, PyData.eqvAll, PyData.eqvAll, PyData.eqv, eqvT, Bool.and_true]
  by_cases h : r.1 = s.1
  · rw [h, show (s.1 == s.1) = true from beq_self_eq_true _, Bool.true_and]
    exact decide_eq_decide.mpr ⟨fun e => Prod.ext h e, fun e => congrArg Prod.snd e⟩
  · rw [beq_eq_false_iff_ne.mpr h, Bool.false_and, decide_eq_false fun q => h (congrArg Prod.fst q)]
theorem shpR (r : Rcd) : SeqAt.shaped (dRec r) = true := by
  unfold SeqAt.shaped dRec
  rw [Bool.and_eq_true]
  refine ⟨?_, decide_eq_true ?_⟩
  · have := layI r.2
    simp only [PyData.canLay0, PyData.canLayAll0, this, Bool.and_true]
  · simp only [PyData.depth, PyData.depthAll]
    have := depI r.2
    omega
theorem layR : ∀ l : List Rcd, PyData.canLayAll0 (dRow l) = true
  | [] => by simp [PyData.canLayAll0]
  | x :: xs => by
    rw [show dRow (x :: xs) = dRec x :: dRow xs from rfl]
    have h1 := SeqAt.canLay_of_shaped (shpR x)
    simp only [PyData.canLayAll0, h1, layR xs, Bool.true_and]
theorem depR : ∀ l : List Rcd, PyData.depthAll (dRow l) ≤ 2
  | [] => by simp [PyData.depthAll]
  | x :: xs => by
    rw [show dRow (x :: xs) = dRec x :: dRow xs from rfl]
    have h1 := depR xs
    have h2 := depI x.2
    simp only [PyData.depthAll, PyData.depth, dRec]
    omega
theorem shpRow (l : List Rcd) : SeqAt.shaped (.tuple (dRow l)) = true := by
  unfold SeqAt.shaped
  rw [Bool.and_eq_true]
  refine ⟨by simpa [PyData.canLay0] using layR l, decide_eq_true ?_⟩
  simp only [PyData.depth]
  have := depR l
  omega
theorem anyR (r : Rcd) (l : List Rcd) : ((dRow l).any fun z => PyData.eqv z (dRec r)) = decide (r ∈ l) := by
  induction l with
  | nil => rfl
  | cons x xs ih =>
    show (PyData.eqv (dRec x) (dRec r) || (dRow xs).any _) = _
    rw [ih, eqvR, ← Bool.decide_or]
    refine decide_eq_decide.mpr ?_
    rw [List.mem_cons]
    exact or_congr ⟨Eq.symm, Eq.symm⟩ Iff.rfl
end
end Jd
namespace Jd
open PySem PySem.Spec PyProof.Rows L2
/-! ### Stage.lane, Stage.same -/
theorem looks_zip : ∀ (xs : List Int) (ks : List Nat), looks xs ks = ((xs.zip ks).filter fun p => decide (p.2 ≠ 1)).map fun p => p.1 % (p.2 : Int)
  | [], _ => by unfold looks; rfl
  | _ :: _, [] => by unfold looks; rfl
  | x :: xs, k :: ks => by
    rw [looks_cons, List.zip_cons_cons, looks_zip xs ks]
    by_cases h : k = 1
    · rw [if_pos h, List.filter_cons_of_neg (by simp [h])]
    · rw [if_neg h, List.filter_cons_of_pos (by simp [h]), List.map_cons]
theorem hs_len_le {ns : List Str} (h : ns.length ≤ 7) : (hs ns).length ≤ 8 := by
  rw [List.length_cons]
  omega
def spLane (K : PySem.W.Frag) : Sp := fun vs H Q _ => ∃ (x rc kk d : Addr) (ns : List Str) (t : Str → List Str) (m : Str → Nat) (r : Rcd), vs = [.ref x, .ref rc] ∧ StageO K H x kk d ns t m ∧ RecAt H rc r ∧ r.2.length = ns.length ∧
  ∀ H' p, Same H H' → H' p = some (.tup ((laneOf ns m r).map V.int)) → Q (.ref p) H'
def spSmL (K : PySem.W.Frag) : Sp := fun vs H Q _ => ∃ (x a b kk d : Addr) (ns : List Str) (t : Str → List Str) (m : Str → Nat) (r s : Rcd), vs = [.ref x, .ref a, .ref b] ∧ StageO K H x kk d ns t m ∧ RecAt H a r ∧ RecAt H b s ∧ r.2.length = ns.length ∧ s.2.length = ns.length ∧
  ∀ H', Same H H' → Q (.bl (decide (laneOf ns m r = laneOf ns m s))) H'
def WmAt (H : Hp) (ps : List Addr) (l : List (Int × Nat)) : Prop := Paired (fun p xk => H p = some (.tup [.int xk.1, iV xk.2])) ps l
theorem WmAt.same {H H' : Hp} (s : Same H H') : ∀ {ps : List Addr} {l : List (Int × Nat)}, WmAt H ps l → WmAt H' ps l
  | [], [], _ => .nil
  | _ :: _, _ :: _, .cons h t => .cons (s _ _ h) (WmAt.same s t)
theorem WmAt.off {H : Hp} {D : Addr} {o : HO} {xs : List V} (hD : H D = some (.lst xs)) : ∀ {ps : List Addr} {l : List (Int × Nat)}, WmAt H ps l → WmAt (upd H D o) ps l
  | [], [], _ => .nil
  | _ :: _, _ :: _, .cons h t => .cons (by rw [upd_ne (ne_of h hD (by intro z; cases z))]; exact h) (WmAt.off hD t)
theorem WmAt.snoc {H : Hp} : ∀ {ps : List Addr} {l : List (Int × Nat)} {a : Addr} {y : Int × Nat}, WmAt H ps l → H a = some (.tup [.int y.1, iV y.2]) → WmAt H (ps ++ [a]) (l ++ [y])
  | [], [], _, _, _, h => .cons h .nil
  | _ :: _, _ :: _, _, _, .cons h t, g => .cons h (WmAt.snoc t g)
theorem WmAt.len {H : Hp} : ∀ {ps : List Addr} {l : List (Int × Nat)}, WmAt H ps l → ps.length = l.length
  | [], [], _ => rfl
  | _ :: _, _ :: _, .cons _ t => by rw [List.length_cons, List.length_cons, WmAt.len t]
theorem WmAt.get {H : Hp} : ∀ {ps : List Addr} {l : List (Int × Nat)}, WmAt H ps l → ∀ (i : Nat) (a : Addr), ps[i]? = some a → ∃ y, l[i]? = some y ∧ H a = some (.tup [.int y.1, iV y.2])
  | [], [], _, i, a, h => (by cases h)
  | _ :: _, _ :: _, .cons h t, i, a, e => by
    match i with
    | 0 => cases e; exact ⟨_, rfl, h⟩
    | i + 1 => exact WmAt.get t i a e
theorem WmAt.unlock {H : Hp} {d : Addr} {od : Obj} {u u' : HO} (hd : H d = some (.frz od u)) : ∀ {ps : List Addr} {l : List (Int × Nat)}, WmAt H ps l → WmAt (upd H d u') ps l
  | [], [], _ => .nil
  | _ :: _, _ :: _, .cons h t => .cons (by rw [upd_ne (ne_of h hd (by intro z; cases z))]; exact h) (WmAt.unlock hd t)
section
variable {P : Program} {w : World} {K : PySem.W.Frag} {mg : Str → Option Value} {base : Heap}
abbrev NLa : List Str := ["self", "record", "number", "values", "worths", "seen", "m", "worth"]
theorem sc_la : FnScope NLa ["self", "record"] (defScope s_Stage_lane) := ⟨rfl, rfl, rfl, by decide +kernel, rfl, by decide +kernel, by decide +kernel⟩
theorem ok_lane (B : Bk K mg) : ∃ fd, FnOk P w K mg base CX0 1 (He.ma K (He.ga K "Stage") "lane") fd ["self", "record"] (spLane K) ∧ Fun K "lane" "Stage.lane" s_Stage_lane (He.ma K (He.ga K "Stage") "lane") fd := by
  obtain ⟨fd, F⟩ := B.F_Stage_lane
  refine ⟨fd, ?_, F⟩
  refine F.ok sc_la (fun vs H Q E h => ?_) (fun cdv A outer s H vs Q E hr h => ?_)
  · obtain ⟨_, _, _, _, _, _, _, _, rfl, _⟩ := h
    rfl
  · obtain ⟨x, rc, kk, d, ns, t, m, r, rfl, so, ⟨va, hrc, hva⟩, rl, k⟩ := h
    refine ⟨_, pss_cons (ps_asg (pv 1) (pg_tup (by rfl) (pgs_cons (pg_name (i := 2) sc_la.nd rfl (.inl rfl)) (pgs_cons (pg_name (i := 3) sc_la.nd rfl (.inl rfl)) pgs_nil))))
      (pss_cons (ps_set (i := 4) sc_la.nd rfl (Or.inl rfl) (pe_tup (pa_cons (pv 2) (StX.pa_star (pv 3) pa_nil))))
      (pss_cons (ps_lock (ps_setLc (i := 5) (own := [("m", 6), ("worth", 7)]) (g := gTup K 2 (gCons (gName 6) (gCons (gName 7) gNil))) (tt := tTest (tOp rNe (tVar 6) (tC (.int 1)))) (te := tTup (tCons (tVar 7) (tCons (tVar 6) tNil))) rfl sc_la.nd rfl rfl (sw_true rfl rfl rfl (by decide +kernel))
          (pi_Z2 (by rfl) B.b_zip (pa_cons (pe_vw (pe_fld (pv 0) rfl)) (pa_cons (pv 4) pa_nil))) (blkOk_by (N := NLa) (sc := defScope s_Stage_lane) (by decide +kernel))
          (fun _ _ _ _ _ => pg_tup rfl (pgs_cons (pg_name (i := 6) sc_la.nd rfl (Or.inl rfl)) (pgs_cons (pg_name (i := 7) sc_la.nd rfl (Or.inl rfl)) pgs_nil))) (fun _ _ _ _ _ => pts_one (pt_cmpR op_ne (pv 6) pe_int (nomark _))) (fun _ _ _ _ _ => pe_tup (pa_cons (pv 7) (pa_cons (pv 6) pa_nil)))))
      (pss_one (ps_ret (pe_callTy call_tuple_of (by rfl) B.b_tuple (by decide +kernel) (pa_cons (pe_lc (own := [("worth", 7), ("m", 6)]) (g := gTup K 2 (gCons (gName 7) (gCons (gName 6) gNil))) (tt := tYes)
          (te := tIf (tTest (tOp rEq (tVar 6) (tC (.int 0)))) (tVar 7) (tOp (rI (fun _ j => 0 < j) fun i j => .int (i % j)) (tVar 7) (tVar 6))) rfl sc_la.nd (pi_list (pv 5)) (blkOk_by (N := NLa) (sc := defScope s_Stage_lane) (by decide +kernel))
          (fun _ _ _ _ _ => pg_tup rfl (pgs_cons (pg_name (i := 7) sc_la.nd rfl (Or.inl rfl)) (pgs_cons (pg_name (i := 6) sc_la.nd rfl (Or.inl rfl)) pgs_nil))) (fun _ _ _ _ _ => pts_nil) (fun _ _ _ _ _ => pe_ifExp (pt_cmpR op_eq (pv 6) pe_int (nomark _)) (pv 7) (pe_op op_mod (pv 7) (pv 6)))) pa_nil)))))), ?_⟩
    obtain ⟨dx, hx⟩ := so.x
    obtain ⟨_, _, _, _, _, _, _, _, nd, l7, _⟩ := id so.k
    have big : (1000 : Nat) < sizeLine := by decide
    refine ⟨_, rfl, _, _, rfl, SqT.of hrc, rfl, _, _, rfl, _, _, rfl, rfl, ?_⟩
    refine ⟨_, rfl, _, rfl, va, _, rfl, .inl (SqT.of hva), ?_, fun wp nw => ?_⟩
    · rw [List.append_nil, List.length_cons, List.length_map]
      omega
    have s1 := Same_new (o := HO.tup (V.int r.1 :: (r.2.map V.int ++ []))) nw
    have hw1 : (upd H wp (.tup (V.int r.1 :: (r.2.map V.int ++ [])))) wp = some (.tup ((r.1 :: r.2).map V.int)) := by
      rw [upd_same, List.append_nil]
      rfl
    replace so := so.same s1
    replace hx := s1 _ _ hx
    generalize hH1 : (upd H wp (.tup (V.int r.1 :: (r.2.map V.int ++ [])))) = H1 at s1 hw1 so hx
    refine ⟨d, _, so.d, trivial, fun od => ?_⟩
    generalize hL : (upd H1 d (.frz od (.dK (kvG (hs ns) (numV m))))) = L
    have hdL : L d = some (.frz od (.dK (kvG (hs ns) (numV m)))) := by rw [← hL]; exact upd_same
    have hxL : L x = some (.ins (He.ga K "Stage") dx [("_schema", .ref kk), ("_numbers", .ref d)]) := by
      rw [← hL, upd_ne (ne_of hx so.d (by intro z; cases z))]
      exact hx
    have hwL : L wp = some (.tup ((r.1 :: r.2).map V.int)) := by
      rw [← hL, upd_ne (ne_of hw1 so.d (by intro z; cases z))]
      exact hw1
    refine ⟨_, rfl, x, _, dx, _, _, rfl, hxL, B.cl_Stage, B.no_Stage__numbers, rfl, d, od, _, rfl, hdL, fun q nq => ?_⟩
    have sq := Same_new (o := vwO q d) nq
    refine ⟨_, rfl, .vw q d od (kvG (hs ns) (numV m)), .tup wp, _, _, rfl, ⟨upd_same, sq _ _ hdL, rfl⟩, SqT.of (sq _ _ hwL), fun D hD => ?_⟩
    have ek : (kvG (hs ns) (numV m)).map Prod.snd = ((hs ns).map m).map iV := by
      unfold kvG
      rw [List.map_map, List.map_map]
      rfl
    have ln : ((hs ns).map m).length = (r.1 :: r.2).length := by rw [List.length_map, List.length_cons, List.length_cons, rl]
    generalize hM : (upd L q (vwO q d)) = M at sq hD
    have hqM : M q = some (vwO q d) := by rw [← hM]; exact upd_same
    refine lc_it (walk_Z2 (xs := ((hs ns).map m).map iV) (ys := (r.1 :: r.2).map V.int) (n := (r.1 :: r.2).length) (by simp [rl])) (fun i H' => Same M H' ∧ ∃ ps : List Addr, H' D = some (.lst (ps.map V.ref)) ∧ ps.length ≤ i ∧ WmAt H' ps ((((r.1 :: r.2).zip ((hs ns).map m)).take i).filter fun p => decide (p.2 ≠ 1)))
      ⟨Same_new hD, [], upd_same, Nat.le_refl _, .nil⟩ (fun i H' _ p => ⟨⟨p.1 _ _ hqM, p.1 _ _ (sq _ _ hdL), ek.symm⟩, SqT.of (p.1 _ _ (sq _ _ hwL))⟩) (fun i v H2 H3 hi ⟨s2, ps, hD2, pl, pp⟩ y => ?_) (fun H2 ⟨s2, ps, hD2, pl, pp⟩ => ?_)
    · obtain ⟨T, y1, y2, rfl, nT, rfl, e1, e2⟩ := y
      rw [List.getElem?_map] at e1 e2
      obtain ⟨k1, f1, rfl⟩ := Option.map_eq_some_iff.mp e1
      obtain ⟨z1, f2, rfl⟩ := Option.map_eq_some_iff.mp e2
      have sT := Same_new (a := T) (o := HO.tup [iV k1, V.int z1]) nT
      have hzip : ((r.1 :: r.2).zip ((hs ns).map m))[i]? = some (z1, k1) := by
        rw [List.getElem?_zip_eq_some]
        exact ⟨f2, f1⟩
      have e4 : ((((r.1 :: r.2).zip ((hs ns).map m)).take (i + 1)).filter fun p => decide (p.2 ≠ 1)) = ((((r.1 :: r.2).zip ((hs ns).map m)).take i).filter fun p => decide (p.2 ≠ 1)) ++ [(z1, k1)].filter fun p => decide (p.2 ≠ 1) := by
        rw [List.take_add_one, hzip, List.filter_append]
        rfl
      refine ⟨_, _, rfl, SqT.of upd_same, rfl, _, _, rfl, _, _, rfl, rfl, rfl, _, rfl, rfl, _, rfl, two (fun c => ?_) (fun c => ?_)⟩
      · have k1n : k1 ≠ 1 := fun e => by
          subst e
          exact absurd c (by decide)
        refine ⟨_, rfl, _, rfl, (by show 2 ≤ sizeLine; decide), fun u nu => ?_⟩
        have su := Same_new (a := u) (o := HO.tup [V.int z1, iV k1]) nu
        have hDu := su _ _ (sT _ _ hD2)
        refine ⟨_, hDu, ?_, ?_, ps ++ [u], by rw [upd_same, List.map_append]; rfl, by rw [List.length_append]; exact Nat.add_le_add_right pl 1, ?_⟩
        · rw [List.length_map]
          rw [List.length_cons, rl] at hi
          omega
        · exact Same_upd ((s2.trans sT).trans su) hD
        · rw [e4, List.filter_cons_of_pos (by simp [k1n])]
          exact WmAt.off hDu (WmAt.snoc (WmAt.same su (WmAt.same sT pp)) upd_same)
      · have k1e : k1 = 1 := by
          by_cases e : k1 = 1
          · exact e
          · refine absurd c ?_
            show ¬ (!decide (V.int (k1 : Nat) = V.int 1)) = false
            rw [decide_eq_false fun z => e (by have := V.int.inj z; omega)]
            decide
        refine ⟨s2.trans sT, ps, sT _ _ hD2, Nat.le_succ_of_le pl, ?_⟩
        rw [e4, List.filter_cons_of_neg (by simp [k1e]), List.filter_nil, List.append_nil]
        exact WmAt.same sT pp
    · rw [List.take_of_length_le (by rw [List.length_zip, ln, Nat.min_self]; exact Nat.le_refl _)] at pp
      have sL := (sq.trans s2)
      have hd2 := sL _ _ hdL
      refine ⟨hd2, ?_⟩
      have s3 : Same H1 (upd H2 d (.dK (kvG (hs ns) (numV m)))) := by
        rw [← hL] at sL
        exact Same_unlock so.d sL
      have nDd : D ≠ d := ne_of hD2 hd2 (by intro z; cases z)
      have hD3 : (upd H2 d (.dK (kvG (hs ns) (numV m)))) D = some (.lst (ps.map V.ref)) := by rw [upd_ne nDd]; exact hD2
      replace pp := WmAt.unlock (u' := .dK (kvG (hs ns) (numV m))) hd2 pp
      generalize (upd H2 d (.dK (kvG (hs ns) (numV m)))) = H3 at s3 hD3 pp
      refine ⟨_, rfl, D, rfl, ⟨_, SqL.of hD3⟩, fun D2 hD2 => ?_⟩
      have lp := pp.len
      have llen : ps.length ≤ 8 := by
        have := hs_len_le (ns := ns) l7
        rw [List.length_cons, rl] at pl
        rw [List.length_cons] at this
        omega
      refine lc_fm (walk_list (xs := ps.map V.ref)) (fun i => ((((r.1 :: r.2).zip ((hs ns).map m)).filter fun p => decide (p.2 ≠ 1))[i]?).map fun p => V.int (p.1 % (p.2 : Int))) hD2 (by rw [List.length_map]; omega) (fun H' s' => SqL.of (s' _ _ hD3)) (fun i v H4 H5 Kt Kf hi s4 y kt kf => ?_) (fun H4 s4 hD4 => ?_)
      · obtain ⟨rfl, hv⟩ := y
        obtain ⟨a, ha, rfl⟩ := at_ref hv
        obtain ⟨⟨z1, k1⟩, hy, ht⟩ := pp.get i a ha
        refine ⟨_, _, rfl, SqT.of (s4 _ _ ht), rfl, _, _, rfl, _, _, rfl, rfl, rfl, iteT (B := ∃ z : Nat, z = 0) ?_⟩
        refine ⟨_, rfl, rfl, _, rfl, two (fun c => ?_) (fun c => ?_)⟩
        · have k1e : k1 = 0 := by
            have e := V.int.inj (of_decide_eq_true c)
            omega
          refine ⟨_, rfl, kt _ _ ?_ (Same.refl _)⟩
          rw [hy, k1e]
          show some (V.int (z1 % ((0 : Nat) : Int))) = some (V.int z1)
          rw [show ((0 : Nat) : Int) = 0 from rfl, Int.emod_zero]
        · have k1n : k1 ≠ 0 := fun e => of_decide_eq_false c (by rw [e]; rfl)
          exact ⟨_, rfl, _, rfl, z1, (k1 : Int), rfl, rfl, by omega, kt _ _ (by rw [hy]; rfl) (Same.refl _)⟩
      · have eD : (List.range (ps.map V.ref).length).filterMap (fun i => ((((r.1 :: r.2).zip ((hs ns).map m)).filter fun p => decide (p.2 ≠ 1))[i]?).map fun p => V.int (p.1 % (p.2 : Int))) = (laneOf ns m r).map V.int := by
          rw [List.length_map, lp]
          unfold laneOf
          rw [looks_zip, List.map_map]
          exact fm_some fun i p hp => (by rw [hp]; rfl)
        rw [eD] at hD4
        refine ⟨D2, _, rfl, .inl ⟨SqL.of hD4, fun u nu => ?_⟩⟩
        exact k _ u ((s1.trans s3).trans (s4.trans (Same_new nu))) upd_same
theorem sc_sme : FnScope ["self", "one", "other"] ["self", "one", "other"] (defScope s_Stage_same) := ⟨rfl, rfl, rfl, by decide +kernel, rfl, by decide +kernel, by decide +kernel⟩
theorem ok_same (B : Bk K mg) : ∃ fd, FnOk P w K mg base CX0 2 (He.ma K (He.ga K "Stage") "same") fd ["self", "one", "other"] (spSmL K) ∧ Fun K "same" "Stage.same" s_Stage_same (He.ma K (He.ga K "Stage") "same") fd := by
  obtain ⟨fd, F⟩ := B.F_Stage_same
  obtain ⟨fdL, GL, FL⟩ := ok_lane (P := P) (w := w) (base := base) B
  have bL : Binds K fdL ["self", "record"] [] := FL.binds fun _ _ _ _ _ _ us hl => match us, hl with | [_, _], _ => rfl
  refine ⟨fd, ?_, F⟩
  refine F.ok sc_sme (fun vs H Q E h => ?_) (fun cdv A outer s H vs Q E hr h => ?_)
  · obtain ⟨_, _, _, _, _, _, _, _, _, _, rfl, _⟩ := h
    rfl
  · obtain ⟨x, a, b, kk, d, ns, t, m, r, u, rfl, so, ra, rb, lr, lu, k⟩ := h
    refine ⟨_, pss_one (ps_ret (pe_cmpR (op_eqD hr.units) (pe_meth (E := E0) (pv 0) B.cl_Stage B.me_Stage_lane GL hr bL .nil pass0 (pa_cons (pv 1) pa_nil)) (pe_meth (E := E0) (pv 0) B.cl_Stage B.me_Stage_lane GL hr bL .nil pass0 (pa_cons (pv 2) pa_nil)) (nomark _))), ?_⟩
    obtain ⟨dx, hx⟩ := so.x
    refine ⟨_, rfl, x, dx, _, rfl, hx, rfl, _, rfl, x, a, kk, d, ns, t, m, r, rfl, so, ra, lr, fun H1 p1 s1 hp1 => ?_⟩
    refine ⟨_, rfl, x, dx, _, rfl, s1 _ _ hx, rfl, _, rfl, x, b, kk, d, ns, t, m, u, rfl, so.same s1, rb.same s1, lu, fun H2 p2 s2 hp2 => ?_⟩
    refine ⟨_, _, dpT (s2 _ _ hp1), dpT hp2, shpT _, shpT _, ?_⟩
    rw [eqvT]
    exact k _ (s1.trans s2)
end
end Jd
namespace Jd
open PySem PySem.Spec PyProof.Rows L2
/-! ### _queues, lanes -/
abbrev lKey (k : List Int) : List Key := k.map Sum.inl
theorem lKey_inj {k j : List Int} (h : lKey k = lKey j) : k = j := (List.map_inj_right fun _ _ e => Sum.inl.inj e).mp h
theorem lKey_kV (k : List Int) : (lKey k).map kV = k.map V.int := by
  rw [List.map_map]
  rfl
def kvQ (ks : List (List Int)) (A : List Int → Addr) : List (List Key × V) := ks.map fun k => (lKey k, V.ref (A k))
theorem valV_kvQ {k : List Int} {A : List Int → Addr} : ∀ {ks : List (List Int)}, k ∈ ks → valV (kvQ ks A) (lKey k) = some (.ref (A k))
  | j :: ks, h => by
    by_cases e : j = k
    · subst e
      exact valV_pos rfl
    · rw [show kvQ (j :: ks) A = (lKey j, V.ref (A j)) :: kvQ ks A from rfl, valV_neg fun z => e (lKey_inj z)]
      exact valV_kvQ ((List.mem_cons.mp h).resolve_left fun z => e z.symm)
theorem valV_kvQN {k : List Int} {A : List Int → Addr} : ∀ {ks : List (List Int)}, k ∉ ks → valV (kvQ ks A) (lKey k) = none
  | [], _ => rfl
  | j :: ks, h => by
    rw [show kvQ (j :: ks) A = (lKey j, V.ref (A j)) :: kvQ ks A from rfl, valV_neg fun z => h (by rw [lKey_inj z]; exact List.mem_cons_self)]
    exact valV_kvQN fun q => h (List.mem_cons_of_mem _ q)
theorem putQ_new {k : List Int} {A : List Int → Addr} {q : Addr} {ks : List (List Int)} (h : k ∉ ks) : putK (kvQ ks A) (lKey k) (.ref q) = kvQ (ks ++ [k]) (fun j => if j = k then q else A j) := by
  rw [L2.putK_new _ (valV_kvQN h)]
  unfold kvQ
  rw [List.map_append]
  congr 1
  · refine List.map_congr_left fun j hj => ?_
    show (lKey j, V.ref (A j)) = (lKey j, V.ref (if j = k then q else A j))
    rw [if_neg (fun e : j = k => h (e ▸ hj))]
  · show [(lKey k, V.ref q)] = [(lKey k, V.ref (if k = k then q else A k))]
    rw [if_pos rfl]
theorem gadd_new {k : List Int} {r : Rcd} {G : List (List Int × List Rcd)} (h : k ∉ G.map Prod.fst) : gadd (G ++ [(k, [])]) k r = gadd G k r := by
  unfold gadd
  rw [if_pos (by rw [List.map_append]; exact List.mem_append_right _ (by simp)), if_neg h, List.map_append]
  congr 1
  · refine (List.map_congr_left fun p hp => ?_).trans (List.map_id G)
    show (if p.1 = k then (k, p.2 ++ [r]) else p) = p
    rw [if_neg (fun e : p.1 = k => h (e ▸ List.mem_map_of_mem hp))]
  · simp
/-- the queues of the groups; what stood at H0 stands, but d -/
structure QuAt (H0 H : Hp) (d : Addr) (G : List (List Int × List Rcd)) (A : List Int → Addr) : Prop where
  at_ : H d = some (.dT (kvQ (G.map Prod.fst) A))
  inj : ∀ g ∈ G, ∀ h ∈ G, A g.1 = A h.1 → g.1 = h.1
  new : ∀ g ∈ G, H0 (A g.1) = none
  lst : ∀ g ∈ G, ∃ rs : List Addr, H (A g.1) = some (.lst (rs.map V.ref)) ∧ RowAt H rs g.2
  kp : Keep d H0 H
theorem QuAt.same {H0 H H' : Hp} {d : Addr} {G : List (List Int × List Rcd)} {A : List Int → Addr} (q : QuAt H0 H d G A) (s : Same H H') : QuAt H0 H' d G A :=
  ⟨s _ _ q.at_, q.inj, q.new, fun g hg => let ⟨rs, a, b⟩ := q.lst g hg; ⟨rs, s _ _ a, b.same s⟩, q.kp.trans (Same.keep s)⟩
theorem QuAt.push {H0 H : Hp} {d a : Addr} {G : List (List Int × List Rcd)} {A : List Int → Addr} (q : QuAt H0 H d G A) {k : List Int} {r : Rcd} {rs : List Addr} (hk : k ∈ G.map Prod.fst) (ha : RecAt H a r) (hA : H (A k) = some (.lst (rs.map V.ref))) :
    QuAt H0 (upd H (A k) (.lst ((rs ++ [a]).map V.ref))) d (gadd G k r) A := by
  have nd : A k ≠ d := ne_of hA q.at_ (by intro z; cases z)
  have e1 : (gadd G k r).map Prod.fst = G.map Prod.fst := by
    unfold gadd
    rw [if_pos hk, List.map_map]
    refine List.map_congr_left fun p _ => ?_
    show (if p.1 = k then (k, p.2 ++ [r]) else p).1 = p.1
    split
    · rename_i e; exact e.symm
    · rfl
  obtain ⟨g0, hg0, e0⟩ := List.mem_map.mp hk
  have mem : ∀ g ∈ gadd G k r, ∃ p ∈ G, g = if p.1 = k then (k, p.2 ++ [r]) else p := fun g hg => by
    unfold gadd at hg
    rw [if_pos hk] at hg
    obtain ⟨p, hp, e⟩ := List.mem_map.mp hg
    exact ⟨p, hp, e.symm⟩
  have fst : ∀ g ∈ gadd G k r, ∃ p ∈ G, g.1 = p.1 := fun g hg => by
    obtain ⟨p, hp, rfl⟩ := mem g hg
    refine ⟨p, hp, ?_⟩
    split
    · rename_i e; exact e.symm
    · rfl
  refine ⟨by rw [upd_ne nd.symm, e1]; exact q.at_, fun g hg h hh e => ?_, fun g hg => ?_, fun g hg => ?_, fun b o nb hb => ?_⟩
  · obtain ⟨p, hp, ep⟩ := fst g hg
    obtain ⟨p', hp', ep'⟩ := fst h hh
    rw [ep, ep'] at e ⊢
    exact q.inj p hp p' hp' e
  · obtain ⟨p, hp, ep⟩ := fst g hg
    rw [ep]
    exact q.new p hp
  · obtain ⟨p, hp, rfl⟩ := mem g hg
    obtain ⟨rs', h1, h2⟩ := q.lst p hp
    by_cases e : p.1 = k
    · rw [if_pos e]
      rw [e, hA] at h1
      have h1 := Option.some.inj h1
      injection h1 with h1
      have e3 : rs = rs' := (List.map_inj_right fun _ _ z => V.ref.inj z).mp h1
      subst e3
      exact ⟨rs ++ [a], upd_same, RowAt.off hA (RowAt.snoc h2 ha)⟩
    · rw [if_neg e]
      refine ⟨rs', ?_, RowAt.off hA h2⟩
      rw [upd_ne fun z => e (by rw [← e0] at z ⊢; exact q.inj p hp g0 hg0 z)]
      exact h1
  · have : b ≠ A k := fun z => by
      have n := q.new g0 hg0
      rw [e0] at n
      rw [z, n] at hb
      cases hb
    rw [upd_ne this]
    exact q.kp _ _ nb hb
theorem QuAt.fresh {H0 H : Hp} {d p : Addr} {G : List (List Int × List Rcd)} {A : List Int → Addr} (q : QuAt H0 H d G A) {k : List Int} (hk : k ∉ G.map Prod.fst) (np : H p = none) (n0 : H0 d ≠ none) :
    QuAt H0 (upd (upd H p (.lst [])) d (.dT (putK (kvQ (G.map Prod.fst) A) (lKey k) (.ref p)))) d (G ++ [(k, [])]) (fun j => if j = k then p else A j) := by
  have s1 := Same_new (o := HO.lst []) np
  have npd : p ≠ d := fun e => by rw [e, q.at_] at np; cases np
  have old : ∀ g ∈ G, (if g.1 = k then p else A g.1) = A g.1 := fun g hg => if_neg (fun e : g.1 = k => hk (e ▸ List.mem_map_of_mem hg))
  have np0 : H0 p = none := by
    cases e : H0 p with
    | none => rfl
    | some o =>
      have := q.kp _ _ npd e
      rw [np] at this
      cases this
  have ap : ∀ g ∈ G, A g.1 ≠ p := fun g hg e => by
    obtain ⟨rs, h1, _⟩ := q.lst g hg
    rw [e, np] at h1
    cases h1
  refine ⟨?_, fun g hg h hh e => ?_, fun g hg => ?_, fun g hg => ?_, fun b o nb hb => ?_⟩
  · rw [upd_same, putQ_new hk, List.map_append]
    rfl
  · have e : (if g.1 = k then p else A g.1) = (if h.1 = k then p else A h.1) := e
    rcases List.mem_append.mp hg with hg | hg
    · rcases List.mem_append.mp hh with hh | hh
      · rw [old g hg, old h hh] at e
        exact q.inj g hg h hh e
      · rw [List.mem_singleton.mp hh] at e ⊢
        rw [old g hg, if_pos rfl] at e
        exact absurd e (ap g hg)
    · rcases List.mem_append.mp hh with hh | hh
      · rw [List.mem_singleton.mp hg] at e ⊢
        rw [old h hh, if_pos rfl] at e
        exact absurd e.symm (ap h hh)
      · rw [List.mem_singleton.mp hg, List.mem_singleton.mp hh]
  · show H0 (if g.1 = k then p else A g.1) = none
    rcases List.mem_append.mp hg with hg | hg
    · rw [old g hg]
      exact q.new g hg
    · rw [List.mem_singleton.mp hg, if_pos rfl]
      exact np0
  · show ∃ rs : List Addr, (upd (upd H p (.lst [])) d (.dT (putK (kvQ (G.map Prod.fst) A) (lKey k) (.ref p)))) (if g.1 = k then p else A g.1) = some (.lst (rs.map V.ref)) ∧ RowAt (upd (upd H p (.lst [])) d (.dT (putK (kvQ (G.map Prod.fst) A) (lKey k) (.ref p)))) rs g.2
    have offd : ∀ {rs : List Addr} {row : List Rcd}, RowAt H rs row → RowAt (upd (upd H p (.lst [])) d (.dT (putK (kvQ (G.map Prod.fst) A) (lKey k) (.ref p)))) rs row := by
      intro rs row h
      induction h with
      | nil => exact .nil
      | cons a _ ih =>
        obtain ⟨va, h1, h2⟩ := a
        refine .cons ⟨va, ?_, ?_⟩ ih
        · rw [upd_ne (ne_of h1 q.at_ (by intro z; cases z))]
          exact s1 _ _ h1
        · rw [upd_ne (ne_of h2 q.at_ (by intro z; cases z))]
          exact s1 _ _ h2
    rcases List.mem_append.mp hg with hg | hg
    · rw [old g hg]
      obtain ⟨rs, h1, h2⟩ := q.lst g hg
      refine ⟨rs, ?_, offd h2⟩
      rw [upd_ne (ne_of h1 q.at_ (by intro z; cases z))]
      exact s1 _ _ h1
    · rw [List.mem_singleton.mp hg, if_pos rfl]
      exact ⟨[], by rw [upd_ne npd, upd_same]; rfl, .nil⟩
  · rw [upd_ne nb]
    exact s1 _ _ (q.kp _ _ nb hb)
def spQu (K : PySem.W.Frag) : Sp := fun vs H Q _ => ∃ (x p kk d : Addr) (ns : List Str) (t : Str → List Str) (m : Str → Nat) (rs : List Addr) (row : List Rcd), vs = [.ref x, .ref p] ∧ StageO K H x kk d ns t m ∧ H p = some (.tup (rs.map V.ref)) ∧ RowAt H rs row ∧ row.length ≤ 1000 ∧ (∀ r ∈ row, r.2.length = ns.length) ∧
  ∀ H' D G A, Same H H' → H D = none → Grp (laneOf ns m) row G → H' D = some (.dT (kvQ (G.map Prod.fst) A)) → (∀ g ∈ G, ∃ rs : List Addr, H' (A g.1) = some (.lst (rs.map V.ref)) ∧ RowAt H' rs g.2) → Q (.ref D) H'
section
variable {P : Program} {w : World} {K : PySem.W.Frag} {mg : Str → Option Value} {base : Heap}
abbrev NQu : List Str := ["stage", "row", "queues", "record", "lane"]
theorem sc_qu : FnScope NQu ["stage", "row"] (defScope s__queues) := ⟨rfl, rfl, rfl, by decide +kernel, rfl, by decide +kernel, by decide +kernel⟩
theorem ok_queues (B : Bk K mg) : Df P w K mg base CX0 2 "_queues" ["stage", "row"] (spQu K) := by
  obtain ⟨fd, F⟩ := B.F_queues
  obtain ⟨fdT, GT, bT⟩ := (ok_tuples (P := P) (w := w) (base := base) B).ex
  have kT := (ok_tuples (P := P) (w := w) (base := base) B).kp
  obtain ⟨fdL, GL, FL⟩ := ok_lane (P := P) (w := w) (base := base) B
  have bL : Binds K fdL ["self", "record"] [] := FL.binds fun _ _ _ _ _ _ us hl => match us, hl with | [_, _], _ => rfl
  refine ⟨⟨fd, ?_, F.binds fun _ _ _ _ _ _ us hl => match us, hl with | [_, _], _ => rfl⟩, B.g_queues, F.kp⟩
  refine F.ok sc_qu (fun vs H Q E h => ?_) (fun cdv A outer s H vs Q E hr h => ?_)
  · obtain ⟨_, _, _, _, _, _, _, _, _, rfl, _⟩ := h
    rfl
  · obtain ⟨x, p, kk, dm, ns, t, m, rs, row, rfl, so, hp, hrow, l, lens, k⟩ := h
    have hu := hu_of hr
    refine ⟨_, pss_cons (ps_set (i := 2) sc_qu.nd rfl (Or.inl rfl) pe_dnewT)
      (pss_cons (ps_for PassesOwn.never rfl (pi_tup (pe_call GT hr rfl B.g_tuples kT bT .nil pass0 (pa_cons (pv 1) pa_nil))) (pg_name (i := 3) sc_qu.nd rfl (.inl rfl))
        (pss_cons (ps_set (i := 4) sc_qu.nd rfl (Or.inl rfl) (pe_meth (E := E0) (pv 0) B.cl_Stage B.me_Stage_lane GL hr bL .nil pass0 (pa_cons (pv 3) pa_nil)))
        (pss_cons (ps_if (pt_cmp (pc_dnotin hu (pv 4) (pv 2))) (pss_one (ps_dput hu (pv 2) (pv 4) (pe_lst pa_nil) rfl)) pss_nil)
        (pss_one (ps_expr (pe_bm PySem.F.plainAttrs_list PySem.F.slot_list_append PySem.F.type_list_append mt_append (pe_dget hu (pv 2) (pv 4) (fun _ _ => rfl)) (pa_cons (pv 3) pa_nil)))))))
      (pss_one (ps_ret (pv 2)))), ?_⟩
    have big : (1000 : Nat) < sizeLine := by decide
    refine fun D nD => ?_
    have s1 := Same_new (o := HO.dT []) nD
    refine ⟨_, rfl, p, rs, row, rfl, s1 _ _ hp, hrow.same s1, l, fun H2 p2 rs2 s2 hp2 row2 => ?_⟩
    have hD2 := s2 _ _ (show (upd H D (.dT [])) D = some (.dT []) from upd_same)
    have s12 := s1.trans s2
    obtain ⟨lr, at_r⟩ := row_at row2
    obtain ⟨dx, hx⟩ := so.x
    have nxD : x ≠ D := fun e => by rw [e, nD] at hx; cases hx
    refine ⟨p2, rfl, ⟨_, SqT.of hp2⟩, ?_⟩
    have kpS : ∀ {H' : Hp}, Keep D H2 H' → Same H H' := fun kp b o q => kp _ _ (ne_of_none q nD) (s12 _ _ q)
    have np2 : p2 ≠ D := ne_of hp2 hD2 (by intro z; cases z)
    refine for_it (walk_tup (xs := rs2.map V.ref)) (fun i σ H' => ∃ v3 v4 : Option V, ∃ G A, σ = [some (.ref x), some (.ref p), some (.ref D), v3, v4] ∧ Grp (laneOf ns m) (row.take i) G ∧ QuAt H2 H' D G A)
      ⟨_, _, [], fun _ => 0, rfl, Grp.nil, ⟨hD2, fun g hg => (by cases hg), fun g hg => (by cases hg), fun g hg => (by cases hg), Keep.refl _ _⟩⟩ (fun i σ H' _ ⟨_, _, _, _, _, _, q⟩ => SqT.of (q.kp _ _ np2 hp2)) (fun i v σ H5 H6 hi ⟨v3, v4, G, A, e, gr, qu⟩ y => ?_) (fun σ H5 ⟨v3, v4, G, A, e, gr, qu⟩ => ?_)
    · obtain ⟨rfl, hv⟩ := y
      subst e
      obtain ⟨a, ha, rfl⟩ := at_ref hv
      obtain ⟨r, hr1, ra⟩ := at_r i a ha
      have ra6 : RecAt H6 a r := by
        obtain ⟨va, h1, h2⟩ := ra
        exact ⟨va, qu.kp _ _ (ne_of h1 hD2 (by intro z; cases z)) h1, qu.kp _ _ (ne_of h2 hD2 (by intro z; cases z)) h2⟩
      have sH6 := kpS qu.kp
      refine ⟨_, rfl, x, dx, _, rfl, sH6 _ _ hx, rfl, _, rfl, x, a, kk, dm, ns, t, m, r, rfl, so.same sH6, ra6, lens r (List.mem_of_getElem? hr1), fun H7 lp s7 hlp => ?_⟩
      have qu7 := qu.same s7
      have et : row.take (i + 1) = row.take i ++ [r] := by rw [List.take_add_one, hr1]; rfl
      have gr' := gr.add r
      rw [← et] at gr'
      have lG : G.length < sizeLine := by
        have := gr.len
        rw [List.length_take] at this
        omega
      have hkV : H7 lp = some (.tup ((lKey (laneOf ns m r)).map kV)) := by rw [lKey_kV]; exact hlp
      refine ⟨_, rfl, _, rfl, D, _, rfl, DGet.t qu7.at_ hkV, _, rfl, ?_⟩
      by_cases hk : laneOf ns m r ∈ G.map Prod.fst
      · rw [valV_kvQ hk]
        refine iteF ?_
        obtain ⟨g0, hg0, e0⟩ := List.mem_map.mp hk
        obtain ⟨rs0, h1, h2⟩ := qu7.lst g0 hg0
        rw [e0] at h1
        have gt : DGet H7 D (.ref lp) (some (.ref (A (laneOf ns m r)))) := by
          have q := DGet.t qu7.at_ hkV
          rw [valV_kvQ hk] at q
          exact q
        have lt0 : rs0.length < sizeLine := by
          have e1 : rs0.length = g0.2.length := (row_at h2).1
          have e2 := (gr.of g0 hg0).1
          have e3 := List.length_filter_le (fun u => decide (laneOf ns m u = g0.1)) (row.take i)
          rw [← e2, List.length_take] at e3
          omega
        refine ⟨_, rfl, _, rfl, D, _, rfl, gt, .inl ⟨rfl, _, SqL.of h1⟩, _, rfl, _, _, _, rfl, rfl, h1, by rw [List.length_map]; exact lt0, ?_⟩
        refine ⟨_, _, gadd G (laneOf ns m r) r, A, rfl, gr', ?_⟩
        have qp := qu7.push hk (ra6.same s7) h1
        rw [List.map_append] at qp
        exact qp
      · rw [valV_kvQN hk]
        refine iteT ?_
        refine ⟨(by show 0 ≤ sizeLine; decide), fun u nu => ?_⟩
        have su := Same_new (o := HO.lst []) nu
        refine ⟨_, rfl, _, rfl, D, _, rfl, DPut.t (su _ _ qu7.at_) (su _ _ hkV) (by unfold kvQ; rw [List.length_map, List.length_map]; exact lG), ?_⟩
        have qf := qu7.fresh hk nu (by rw [hD2]; intro z; cases z)
        have kmem : laneOf ns m r ∈ (G ++ [(laneOf ns m r, [])]).map Prod.fst := by
          rw [List.map_append]
          exact List.mem_append_right _ (by simp)
        have eA : (if laneOf ns m r = laneOf ns m r then u else A (laneOf ns m r)) = u := if_pos rfl
        have nuD : u ≠ D := fun e => by rw [e, qu7.at_] at nu; cases nu
        have hu8 : (upd (upd H7 u (.lst [])) D (.dT (putK (kvQ (G.map Prod.fst) A) (lKey (laneOf ns m r)) (.ref u)))) u = some (.lst []) := by rw [upd_ne nuD, upd_same]
        have hlp8 : (upd (upd H7 u (.lst [])) D (.dT (putK (kvQ (G.map Prod.fst) A) (lKey (laneOf ns m r)) (.ref u)))) lp = some (.tup ((lKey (laneOf ns m r)).map kV)) := by
          rw [upd_ne (ne_of hkV qu7.at_ (by intro z; cases z))]
          exact su _ _ hkV
        have ra8 : RecAt (upd (upd H7 u (.lst [])) D (.dT (putK (kvQ (G.map Prod.fst) A) (lKey (laneOf ns m r)) (.ref u)))) a r := by
          obtain ⟨va, h1, h2⟩ := ra6.same s7
          exact ⟨va, by rw [upd_ne (ne_of h1 qu7.at_ (by intro z; cases z))]; exact su _ _ h1, by rw [upd_ne (ne_of h2 qu7.at_ (by intro z; cases z))]; exact su _ _ h2⟩
        generalize (upd (upd H7 u (.lst [])) D (.dT (putK (kvQ (G.map Prod.fst) A) (lKey (laneOf ns m r)) (.ref u)))) = H8 at qf hu8 hlp8 ra8
        have gt : DGet H8 D (.ref lp) (some (.ref u)) := by
          have q := DGet.t qf.at_ hlp8
          rw [valV_kvQ kmem, eA] at q
          exact q
        refine ⟨_, rfl, _, rfl, D, _, rfl, gt, .inl ⟨rfl, _, SqL.of hu8⟩, _, rfl, _, _, _, rfl, rfl, hu8, (by show 0 < sizeLine; decide), ?_⟩
        refine ⟨_, _, gadd G (laneOf ns m r) r, fun j => if j = laneOf ns m r then u else A j, rfl, gr', ?_⟩
        have qp := qf.push (rs := []) kmem ra8 (by rw [eA]; exact hu8)
        rw [eA, gadd_new hk] at qp
        exact qp
    · subst e
      rw [List.length_map, lr, List.take_length] at gr
      exact ⟨_, rfl, k H5 D G A (kpS qu.kp) nD gr qu.at_ qu.lst⟩
end
end Jd
namespace Jd
open PySem PySem.Spec PyProof.Rows L2
/-! ### lanes -/
theorem RowAt.offT {H : Hp} {D : Addr} {o : HO} {kvs : List (List Key × V)} (hD : H D = some (.dT kvs)) : ∀ {rs : List Addr} {row : List Rcd}, RowAt H rs row → RowAt (upd H D o) rs row
  | [], [], _ => .nil
  | _ :: _, _ :: _, .cons ⟨va, h1, h2⟩ t => .cons ⟨va, by rw [upd_ne (ne_of h1 hD (by intro z; cases z))]; exact h1, by rw [upd_ne (ne_of h2 hD (by intro z; cases z))]; exact h2⟩ (RowAt.offT hD t)
/-- tuples of the groups' records -/
def PilesAt (H : Hp) (ts : List Addr) (G : List (List Int × List Rcd)) : Prop := Paired (fun T g => ∃ rs : List Addr, H T = some (.tup (rs.map V.ref)) ∧ RowAt H rs g.2) ts G
theorem PilesAt.same {H H' : Hp} (s : Same H H') : ∀ {ts : List Addr} {G : List (List Int × List Rcd)}, PilesAt H ts G → PilesAt H' ts G
  | [], [], _ => .nil
  | _ :: _, _ :: _, .cons ⟨rs, h1, h2⟩ t => .cons ⟨rs, s _ _ h1, h2.same s⟩ (PilesAt.same s t)
theorem PilesAt.off {H : Hp} {D : Addr} {o : HO} {xs : List V} (hD : H D = some (.lst xs)) : ∀ {ts : List Addr} {G : List (List Int × List Rcd)}, PilesAt H ts G → PilesAt (upd H D o) ts G
  | [], [], _ => .nil
  | _ :: _, _ :: _, .cons ⟨rs, h1, h2⟩ t => .cons ⟨rs, by rw [upd_ne (ne_of h1 hD (by intro z; cases z))]; exact h1, RowAt.off hD h2⟩ (PilesAt.off hD t)
theorem PilesAt.snoc {H : Hp} {T : Addr} {rs : List Addr} {g : List Int × List Rcd} (h1 : H T = some (.tup (rs.map V.ref))) (h2 : RowAt H rs g.2) : ∀ {ts : List Addr} {G : List (List Int × List Rcd)}, PilesAt H ts G → PilesAt H (ts ++ [T]) (G ++ [g])
  | [], [], _ => .cons ⟨rs, h1, h2⟩ .nil
  | _ :: _, _ :: _, .cons a t => .cons a (PilesAt.snoc h1 h2 t)
theorem PilesAt.len {H : Hp} : ∀ {ts : List Addr} {G : List (List Int × List Rcd)}, PilesAt H ts G → ts.length = G.length
  | [], [], _ => rfl
  | _ :: _, _ :: _, .cons _ t => by rw [List.length_cons, List.length_cons, PilesAt.len t]
theorem PilesAt.get {H : Hp} : ∀ {ts : List Addr} {G : List (List Int × List Rcd)}, PilesAt H ts G → ∀ (i : Nat) (a : Addr), ts[i]? = some a → ∃ g, G[i]? = some g ∧ ∃ rs : List Addr, H a = some (.tup (rs.map V.ref)) ∧ RowAt H rs g.2
  | [], [], _, i, a, h => (by cases h)
  | _ :: _, _ :: _, .cons h t, i, a, e => by
    match i with
    | 0 => cases e; exact ⟨_, rfl, h⟩
    | i + 1 => exact PilesAt.get t i a e
def spLn (K : PySem.W.Frag) : Sp := fun vs H Q _ => ∃ (x p kk d : Addr) (ns : List Str) (t : Str → List Str) (m : Str → Nat) (rs : List Addr) (row : List Rcd), vs = [.ref x, .ref p] ∧ StageO K H x kk d ns t m ∧ H p = some (.tup (rs.map V.ref)) ∧ RowAt H rs row ∧ row.length ≤ 1000 ∧ (∀ r ∈ row, r.2.length = ns.length) ∧
  ∀ H' L ts G, Same H H' → Grp (laneOf ns m) row G → H' L = some (.lst (ts.map V.ref)) → PilesAt H' ts G → Q (.ref L) H'
section
variable {P : Program} {w : World} {K : PySem.W.Frag} {mg : Str → Option Value} {base : Heap}
abbrev NLn : List Str := ["stage", "row", "queue"]
theorem sc_lns : FnScope NLn ["stage", "row"] (defScope s_lanes) := ⟨rfl, rfl, rfl, by decide +kernel, rfl, by decide +kernel, by decide +kernel⟩
theorem ok_lanes (B : Bk K mg) : Df P w K mg base CX0 3 "lanes" ["stage", "row"] (spLn K) := by
  obtain ⟨fd, F⟩ := B.F_lanes
  obtain ⟨fdQ, GQ, bQ⟩ := (ok_queues (P := P) (w := w) (base := base) B).ex
  have kQ := (ok_queues (P := P) (w := w) (base := base) B).kp
  refine ⟨⟨fd, ?_, F.binds fun _ _ _ _ _ _ us hl => match us, hl with | [_, _], _ => rfl⟩, B.g_lanes, F.kp⟩
  refine F.ok sc_lns (fun vs H Q E h => ?_) (fun cdv A outer s H vs Q E hr h => ?_)
  · obtain ⟨_, _, _, _, _, _, _, _, _, rfl, _⟩ := h
    rfl
  · obtain ⟨x, p, kk, dm, ns, t, m, rs, row, rfl, so, hp, hrow, l, lens, k⟩ := h
    refine ⟨_, pss_one (ps_ret (pe_lc (own := [("queue", 2)]) (g := gName 2) (tt := tYes) (te := tCB (rTupOf K) (tCons (tVar 2) tNil)) rfl sc_lns.nd (pi_valuesT (pe_call GQ hr rfl B.g_queues kQ bQ .nil pass0 (pa_cons (pv 0) (pa_cons (pv 1) pa_nil)))) (blkOk_by (N := NLn) (sc := defScope s_lanes) (by decide +kernel))
      (fun _ _ _ _ _ => pg_name (i := 2) sc_lns.nd rfl (Or.inl rfl)) (fun _ _ _ _ _ => pts_nil) (fun _ _ _ _ _ => pe_callTy call_tuple_of (by rfl) B.b_tuple (by decide +kernel) (pa_cons (pv 2) pa_nil)))), ?_⟩
    refine ⟨_, rfl, _, rfl, x, p, kk, dm, ns, t, m, rs, row, rfl, so, hp, hrow, l, lens, fun H1 D G A s1 nD gr hD hl => ?_⟩
    refine ⟨D, _, rfl, hD, fun o => ?_⟩
    have s2 : Same H (upd H1 D (.frz o (.dT (kvQ (G.map Prod.fst) A)))) := Same_upd s1 nD
    have hD2 : (upd H1 D (.frz o (.dT (kvQ (G.map Prod.fst) A)))) D = some (.frz o (.dT (kvQ (G.map Prod.fst) A))) := upd_same
    have hl2 : ∀ g ∈ G, ∃ rs : List Addr, (upd H1 D (.frz o (.dT (kvQ (G.map Prod.fst) A)))) (A g.1) = some (.lst (rs.map V.ref)) ∧ RowAt (upd H1 D (.frz o (.dT (kvQ (G.map Prod.fst) A)))) rs g.2 := fun g hg => by
      obtain ⟨rs, h1, h2⟩ := hl g hg
      exact ⟨rs, by rw [upd_ne (ne_of h1 hD (by intro z; cases z))]; exact h1, RowAt.offT hD h2⟩
    generalize (upd H1 D (.frz o (.dT (kvQ (G.map Prod.fst) A)))) = H2 at s2 hD2 hl2
    intro L nL
    have lG : G.length ≤ 1000 := Nat.le_trans gr.len l
    have lk : (kvQ (G.map Prod.fst) A).length = G.length := by unfold kvQ; rw [List.length_map, List.length_map]
    refine lc_it (walk_dT (d := D) (o := o) (kvs := kvQ (G.map Prod.fst) A)) (fun i H' => Same H2 H' ∧ ∃ ts : List Addr, H' L = some (.lst (ts.map V.ref)) ∧ ts.length = i ∧ PilesAt H' ts (G.take i))
      ⟨Same_new nL, [], upd_same, rfl, .nil⟩ (fun i H' _ q => q.1 _ _ hD2) (fun i v H3 H4 hi ⟨s3, ts, hL, lt, pp⟩ y => ?_) (fun H3 ⟨s3, ts, hL, lt, pp⟩ => ?_)
    · obtain ⟨rfl, kk', hv⟩ := y
      unfold kvQ at hv
      rw [List.getElem?_map, List.getElem?_map] at hv
      obtain ⟨g1, e1, e2⟩ := Option.map_eq_some_iff.mp hv
      obtain ⟨g, hg, rfl⟩ := Option.map_eq_some_iff.mp e1
      cases e2
      obtain ⟨rs2, h1, h2⟩ := hl2 g (List.mem_of_getElem? hg)
      refine ⟨rfl, iteT (B := ∃ z : Nat, z = 0) ?_⟩
      refine ⟨_, rfl, _, _, rfl, .inl ⟨SqL.of (s3 _ _ h1), fun T nT => ?_⟩⟩
      have sT := Same_new (o := HO.tup (rs2.map V.ref)) nT
      have hLT := sT _ _ hL
      refine ⟨_, hLT, ?_, Same_upd (s3.trans sT) nL, ts ++ [T], by rw [upd_same, List.map_append]; rfl, by rw [List.length_append, lt]; rfl, ?_⟩
      · rw [List.length_map, lt]
        have : (1000 : Nat) < sizeLine := by decide
        omega
      · rw [List.take_add_one, hg]
        exact PilesAt.off hLT (PilesAt.snoc upd_same ((h2.same s3).same sT) (PilesAt.same sT pp))
    · rw [lk, List.take_length] at pp
      exact k H3 L ts G (s2.trans s3) gr hL pp
end
end Jd
namespace Jd
open PySem PySem.Spec PyProof.Rows L2
/-! ### two records that part two Stages: the mathematics -/
/-- the names at which u looks at what m does not -/
def apOf (ns : List Str) (m u : Str → Nat) : List Str := (hs ns).filter fun n => !decide (u n ∣ m n)
def mvAt (ns : List Str) (t : Str → List Str) (a n : Str) : Bool := decide (n = a ∨ a ∈ toldAt ns t n)
def r0Of (ns : List Str) : Rcd := (0, ns.map fun _ => 0)
def fmv (ns : List Str) (t : Str → List Str) (m : Str → Nat) (a n : Str) : Int := if mvAt ns t a n = true then (m n : Int) else 0
def r1Of (ns : List Str) (t : Str → List Str) (m : Str → Nat) (a : Str) : Rcd := ((m "#" : Nat), ns.map (fmv ns t m a))
theorem ap_nil {ns : List Str} {m u : Str → Nat} : apOf ns m u = [] ↔ leB ns u m = true := by
  unfold apOf leB
  rw [List.filter_eq_nil_iff, decide_eq_true_iff]
  refine forall_congr' fun n => forall_congr' fun _ => ?_
  rw [Bool.not_eq_true', decide_eq_false_iff_not]
  exact Decidable.not_not
section
variable {ns : List Str} {t : Str → List Str} {m u : Str → Nat} {a : Str} {rest : List Str}
theorem ap_mem (h : apOf ns m u = a :: rest) : a ∈ hs ns ∧ ¬ u a ∣ m a := by
  have q : a ∈ apOf ns m u := by rw [h]; exact List.mem_cons_self
  obtain ⟨q1, q2⟩ := List.mem_filter.mp q
  refine ⟨q1, fun z => ?_⟩
  rw [decide_eq_true z] at q2
  cases q2
theorem len0 : (r0Of ns).2.length = ns.length := List.length_map ..
theorem len1 : (r1Of ns t m a).2.length = ns.length := List.length_map ..
theorem xr_same : laneOf ns m (r0Of ns) = laneOf ns m (r1Of ns t m a) := by
  rw [lane_eq len0 len1]
  intro i n x y hn hx hy
  cases i with
  | zero =>
    obtain rfl := Option.some.inj hn
    obtain rfl := Option.some.inj hx
    obtain rfl := Option.some.inj hy
    show (0 : Int) % ((m "#" : Nat) : Int) = ((m "#" : Nat) : Int) % ((m "#" : Nat) : Int)
    rw [Int.zero_emod, Int.emod_self]
  | succ i =>
    have hn : ns[i]? = some n := hn
    have hx : (ns.map fun _ => (0 : Int))[i]? = some x := hx
    have hy : (ns.map (fmv ns t m a))[i]? = some y := hy
    rw [List.getElem?_map, hn] at hx hy
    obtain rfl := Option.some.inj hx
    obtain rfl := Option.some.inj hy
    unfold fmv
    split
    · rw [Int.zero_emod, Int.emod_self]
    · rfl
theorem xr_diff (h : apOf ns m u = a :: rest) : laneOf ns u (r0Of ns) ≠ laneOf ns u (r1Of ns t m a) := by
  obtain ⟨ha, nd⟩ := ap_mem h
  rw [Ne, lane_eq len0 len1]
  intro q
  obtain ⟨i, hi, e⟩ := List.getElem_of_mem ha
  have hn : (hs ns)[i]? = some a := by rw [List.getElem?_eq_getElem hi, e]
  have key : ∃ x y : Int, ((r0Of ns).1 :: (r0Of ns).2)[i]? = some x ∧ ((r1Of ns t m a).1 :: (r1Of ns t m a).2)[i]? = some y ∧ x = 0 ∧ y = (m a : Int) := by
    cases i with
    | zero =>
      cases hn
      exact ⟨0, (m "#" : Nat), rfl, rfl, rfl, rfl⟩
    | succ i =>
      have hn : ns[i]? = some a := hn
      refine ⟨0, fmv ns t m a a, ?_, ?_, rfl, ?_⟩
      · show (ns.map fun _ => (0 : Int))[i]? = some 0
        rw [List.getElem?_map, hn]
        rfl
      · show (ns.map (fmv ns t m a))[i]? = _
        rw [List.getElem?_map, hn]
        rfl
      · unfold fmv mvAt
        rw [if_pos (decide_eq_true (.inl rfl))]
  obtain ⟨x, y, hx, hy, rfl, rfl⟩ := key
  have e2 := q i a _ _ hn hx hy
  rw [Int.zero_emod] at e2
  exact nd (Int.natCast_dvd_natCast.mp (Int.dvd_of_emod_eq_zero e2.symm))
theorem xr_law (nd : ns.Nodup) (sm : StM ns t m) (tr : ∀ v w x, v ∈ hs ns → w ∈ toldAt ns t v → x ∈ toldAt ns t w → x ∈ toldAt ns t v) (sub : ∀ n ∈ ns, ∀ o ∈ t n, o ∈ ns) (h : apOf ns m u = a :: rest) : LawRow ns t [r0Of ns, r1Of ns t m a] := by
  obtain ⟨ha, ndv⟩ := ap_mem h
  have tA : ∀ z ∈ ns, toldAt ns t z = t z := fun z hz => if_neg fun e : z = "#" => sm.n0 (e ▸ hz)
  have mh : m "#" ≠ 0 := fun e => by
    have ma : m a = 0 := by
      rcases List.mem_cons.mp ha with rfl | ha
      · exact e
      · refine sm.cl "#" List.mem_cons_self e a ?_
        unfold toldAt
        rw [if_pos rfl]
        exact ha
    exact ndv (ma ▸ Nat.dvd_zero _)
  have v0 : ∀ n ∈ ns, valAt ns (r0Of ns) n = 0 := fun n hn => valAt_map (f := fun _ => (0 : Int)) nd hn
  have v1 : ∀ n ∈ ns, valAt ns (r1Of ns t m a) n = fmv ns t m a n := fun n hn => valAt_map nd hn
  have key : ∀ p ∈ ns, ∀ q ∈ t p, fmv ns t m a p = 0 → fmv ns t m a q = 0 := fun p hp q hq e => by
    have hqn := sub p hp q hq
    unfold fmv at e ⊢
    by_cases mq : mvAt ns t a q = true
    · rw [if_pos mq]
      have mp : mvAt ns t a p = true := by
        refine decide_eq_true (.inr ?_)
        rcases of_decide_eq_true mq with rfl | z
        · rw [tA p hp]
          exact hq
        · exact tr p q a (List.mem_cons_of_mem _ hp) (by rw [tA p hp]; exact hq) z
      rw [if_pos mp] at e
      have m0 : m p = 0 := by omega
      have := sm.cl p (List.mem_cons_of_mem _ hp) m0 q (by rw [tA p hp]; exact hq)
      rw [this]
      rfl
    · rw [if_neg mq]
  have two : ∀ r ∈ [r0Of ns, r1Of ns t m a], r = r0Of ns ∨ r = r1Of ns t m a := fun r hr => by simpa using hr
  refine ⟨?_, fun r hr => ?_, fun r hr s hs' p hp q hq => ?_⟩
  · show ([(0 : Int), (m "#" : Nat)]).Nodup
    rw [List.nodup_cons]
    refine ⟨fun z => ?_, by simp⟩
    have z := List.mem_singleton.mp z
    exact mh (by omega)
  · rcases two r hr with rfl | rfl
    · exact ⟨Int.le_refl _, len0⟩
    · exact ⟨Int.natCast_nonneg _, len1⟩
  · have hqn := sub p hp q hq
    rcases two r hr with rfl | rfl <;> rcases two s hs' with rfl | rfl
    · intro _; rfl
    · rw [v0 p hp, v1 p hp, v0 q hqn, v1 q hqn]
      exact fun e => (key p hp q hq e.symm).symm
    · rw [v0 p hp, v1 p hp, v0 q hqn, v1 q hqn]
      exact fun e => key p hp q hq e
    · intro _; rfl
end
end Jd
namespace Jd
open PySem PySem.Spec PyProof.Rows L2
/-! ### a tuple times one is itself; times any small number -/
theorem tup_mul1 (l : Addr) (items : Array Value) (n : Nat) (dd : Option Addr) (sl : Array (Option Value)) (u : Tok) (c1 : (items.isEmpty || (1 : Int) == 1) = true) :
    Meets (Builtin.«tuple.__mul__» ⟨[.ref l, .int 1 u], []⟩) (fun _ R s => s.heap.get? l = some { cls := .type "tuple", dict := dd, data := .seq items n, slots := sl } ∧ R (.ok (.ret (Value.ref l))) s) :=
  .of_wp fun prog w A R s h => by
    obtain ⟨hp, g, d, tk, os⟩ := s
    obtain ⟨hl, h⟩ := h
    have f1 := AutoSeq1.idx_int
    wp_walk using wpAny_loadPart' hl
    repeat (first
      | (refine wpAny_ite_false (decide_eq_false (by decide)) ?_; wp_walk using wpAny_loadPart' hl)
      | (refine wpAny_ite_true (decide_eq_true c1) ?_; wp_walk using wpAny_loadPart' hl)
      | (refine wpAny_ite_true (decide_eq_true (by decide)) ?_; wp_walk using wpAny_loadPart' hl))
    exact ⟨_, rfl, h⟩
def rRep1 (K : PySem.W.Frag) : R2 := fun x y H Q => ∃ l xs, x = .ref l ∧ y = .int 1 ∧ SqT K H l xs ∧ Q (.ref l) H
theorem op_rep1 {X : Cx} : OpR X (binaryOp .Mult) (rRep1 X.K) := by
  intro pins s σ H x y v u Q I rx ry h
  obtain ⟨l, xs, rfl, rfl, hT, q⟩ := h
  cases rx
  obtain ⟨t, rfl⟩ := ry
  obtain ⟨its, r, ⟨⟨cls, dd, data, sl⟩, ho, hc, n, hd⟩, hs⟩ := I.tuple hT
  simp only at hc hd
  subst hc hd
  exact wpAny_binaryOp_repeat_ref (T := "tuple") (U := "int") (by decide) ⟨_, ho, rfl⟩ (fun s' => typeIs_int s' 1 t) noFill_tuple_mul F.fills_int_mul F.slot_int_rmul repeat_tuple F.slot_int_index.lookup
    (call_meets F.slot_int_rmul (typeIs_int s 1 t) F.entry_int_rmul (F.args_int_rmul_2 _ _) (int_rmul_tuple 1 t l its.toArray n dd sl)
      ⟨ho, rfl, ⟨_, ho, rfl⟩, call_meets F.slot_tuple_mul ⟨_, ho, rfl⟩ F.entry_tuple_mul (F.args_tuple_mul_2 _ _) (tup_mul1 l its.toArray n dd sl t (by simp)) ⟨ho, ⟨.ref l, H, I, rfl, q⟩⟩⟩)
/-- xs * k, 1 ≤ k -/
def rRepA : R2 := fun x y H Q => ∃ l k xs, x = .ref l ∧ y = .int k ∧ H l = some (.tup xs) ∧ xs ≠ [] ∧ 1 ≤ k ∧ k ≤ 1000 ∧ xs.length ≤ 1000 ∧ ∀ H' p, Same H H' → H' p = some (.tup (List.replicate k.toNat xs).flatten) → Q (.ref p) H'
theorem op_repA {X : Cx} : OpR X (binaryOp .Mult) rRepA := by
  intro pins s σ H x y v u Q I rx ry h
  obtain ⟨l, k, xs, rfl, rfl, hT, hne, h1, h2, hz, q⟩ := h
  by_cases e : k = 1
  · subst e
    refine op_rep1 pins s σ H _ _ v u Q I rx ry ⟨l, xs, rfl, rfl, SqT.of hT, q H l (Same.refl H) ?_⟩
    have e1 : (List.replicate (1 : Int).toNat xs).flatten = xs := by
      show (List.replicate 1 xs).flatten = xs
      simp
    rw [e1]
    exact hT
  · exact op_repT pins s σ H _ _ v u Q I rx ry ⟨l, k, xs, rfl, rfl, SqT.of hT, hne, by omega, h2, hz, fun p np => q _ p (Same_new np) upd_same⟩
end Jd
namespace Jd
open PySem PySem.Spec PyProof.Rows L2
/-! ### _parted, ^ -/
theorem tells_no {ns : List Str} {z y : Str} {A : Str → Prop} (h1 : z = "#" ∨ z ∈ ns) (h2 : y = "#" ∨ y ∈ ns) : ∀ b : Str, (if (z = "#" ∨ z ∈ ns) then (¬ (y = "#" ∨ y ∈ ns) ∧ b = y) else b = z) → A b := fun b hb => by
  rw [if_pos h1] at hb
  exact absurd h2 hb.1
theorem rep_zero : ∀ ns : List Str, (List.replicate ns.length [V.int 0]).flatten = (ns.map fun _ => (0 : Int)).map V.int
  | [] => rfl
  | n :: r => by
    rw [List.length_cons, List.replicate_succ, List.flatten_cons, rep_zero r]
    rfl
/-- the two records as a tuple -/
def PrrAt (H : Hp) (p : Addr) (r s : Rcd) : Prop := ∃ q0 q1, H p = some (.tup [.ref q0, .ref q1]) ∧ RecAt H q0 r ∧ RecAt H q1 s
theorem PrrAt.same {H H' : Hp} {p : Addr} {r s : Rcd} (h : PrrAt H p r s) (e : Same H H') : PrrAt H' p r s := let ⟨a, b, x, y, z⟩ := h; ⟨a, b, e _ _ x, y.same e, z.same e⟩
def spPt (K : PySem.W.Frag) : Sp := fun vs H Q _ => ∃ (x y : Addr) (ns : List Str) (t : Str → List Str) (m u : Str → Nat) (a : Str) (rest : List Str), vs = [.ref x, .ref y] ∧ Sg K H x ns t m ∧ Sg K H y ns t u ∧ apOf ns m u = a :: rest ∧ ns ≠ [] ∧
  ∀ H' p, Same H H' → PrrAt H' p (r0Of ns) (r1Of ns t m a) → Q (.ref p) H'
/-- what ^ answers -/
def XrAns (ns : List Str) (t : Str → List Str) (m u : Str → Nat) (H' : Hp) (v : V) : Prop := match apOf ns m u with
  | a :: _ => ∃ p, v = .ref p ∧ PrrAt H' p (r0Of ns) (r1Of ns t m a)
  | [] => match apOf ns u m with
    | a :: _ => ∃ p, v = .ref p ∧ PrrAt H' p (r0Of ns) (r1Of ns t u a)
    | [] => v = .non
def spXo (K : PySem.W.Frag) : Sp := fun vs H Q _ => ∃ (x y : Addr) (ns : List Str) (t : Str → List Str) (m u : Str → Nat), vs = [.ref x, .ref y] ∧ Sg K H x ns t m ∧ Sg K H y ns t u ∧ ns ≠ [] ∧
  ∀ H' v, Same H H' → XrAns ns t m u H' v → Q v H'
section
variable {P : Program} {w : World} {K : PySem.W.Frag} {mg : Str → Option Value} {base : Heap}
abbrev NPt : List Str := ["one", "other", "keys", "apart", "name", "moved", "values"]
theorem sc_pt : FnScope NPt ["one", "other"] (defScope s__parted) := ⟨rfl, rfl, rfl, by decide +kernel, rfl, by decide +kernel, by decide +kernel⟩
theorem ok_parted (B : Bk K mg) : Df P w K mg base CX0 6 "_parted" ["one", "other"] (spPt K) := by
  obtain ⟨fd, F⟩ := B.F_parted
  obtain ⟨fdS, GS, bS⟩ := ok_schema (P := P) (w := w) (base := base) B
  obtain ⟨fdG, GG, bG⟩ := ok_get (P := P) (w := w) (base := base) B
  obtain ⟨fdN, GN, bN⟩ := ok_names (P := P) (w := w) (base := base) B
  obtain ⟨fdL, GL, bL⟩ := ok_lenK (P := P) (w := w) (base := base) B
  obtain ⟨fdT, GT, FT⟩ := ok_tells (P := P) (w := w) (base := base) B
  have bT : Binds K fdT ["self", "one", "other"] [] := FT.binds fun _ _ _ _ _ _ us hl => match us, hl with | [_, _, _], _ => rfl
  obtain ⟨fdD, GD, bD⟩ := (ok_divides (P := P) (w := w) (base := base) B).ex
  have kD := (ok_divides (P := P) (w := w) (base := base) B).kp
  obtain ⟨fdA, GA, bA⟩ := (ok_all_names (P := P) (w := w) (base := base) B).ex
  have kA := (ok_all_names (P := P) (w := w) (base := base) B).kp
  refine ⟨⟨fd, ?_, F.binds fun _ _ _ _ _ _ us hl => match us, hl with | [_, _], _ => rfl⟩, B.g_parted, F.kp⟩
  refine F.ok sc_pt (fun vs H Q E h => ?_) (fun cdv A outer s H vs Q E hr h => ?_)
  · obtain ⟨_, _, _, _, _, _, _, _, rfl, _⟩ := h
    rfl
  · obtain ⟨x, y, ns, t, m, u, a, rest, rfl, sx, sy, hap, hne, k⟩ := h
    have hr1 : Room 1 _ := hr.mono (by decide)
    have hr2 : Room 2 _ := hr.mono (by decide)
    have hr3 : Room 3 _ := hr.mono (by decide)
    have hr4 : Room 4 _ := hr.mono (by decide)
    have hr5 : Room 5 _ := hr
    refine ⟨_, pss_cons (ps_set (i := 2) sc_pt.nd rfl (Or.inr rfl) (pe_prop (pv 0) B.cl_Stage B.pr_Stage_schema GS hr2 bS .nil pass0 rfl))
      (pss_cons (ps_set (i := 3) sc_pt.nd rfl (Or.inr rfl) (pe_ix ix_list (pe_lc (own := [("name", 4)]) (g := gName 4) (tt := tNot (tB (tCall spDv [] E0 (tCons (tOp (rIxOwn (He.ga K "Stage") (spGet K) (fun _ _ _ => False)) (tVar 1) (tVar 4)) (tCons (tOp (rIxOwn (He.ga K "Stage") (spGet K) (fun _ _ _ => False)) (tVar 0) (tVar 4)) tNil))))) (te := tVar 4) rfl sc_pt.nd
          (pi_tup (pe_call GA hr3 rfl B.g_all_names kA bA .nil pass0 (pa_cons (pv 2) pa_nil))) (blkOk_by (N := NPt) (sc := defScope s__parted) (by decide +kernel)) (fun _ _ _ _ _ => pg_name (i := 4) sc_pt.nd rfl (Or.inl rfl))
          (fun _ _ _ _ _ => pts_one (pt_not (pt_val (pe_call GD hr1 rfl B.g_divides kD bD .nil pass0 (pa_cons (pe_ixOwn (E := fun _ _ _ => False) GG hr4 B.sp_Stage_getitem B.fin_Stage_getitem bG passF (pv 1) (pv 4) (fun _ _ => rfl)) (pa_cons (pe_ixOwn (E := fun _ _ _ => False) GG hr4 B.sp_Stage_getitem B.fin_Stage_getitem bG passF (pv 0) (pv 4) (fun _ _ => rfl)) pa_nil)))))) (fun _ _ _ _ _ => pv 4)) pe_int (fun _ _ => rfl)))
      (pss_cons (ps_set (i := 5) sc_pt.nd rfl (Or.inr rfl) (pe_lc (own := [("name", 4)]) (g := gName 4) (tt := tOr (tTest (tOp rEq (tVar 4) (tVar 3))) (tB (tMeth (He.ga K "Keys") "tells" (spTells K) [] (fun _ _ _ => False) (tVar 2) (tCons (tVar 4) (tCons (tVar 3) tNil))))) (te := tVar 4) rfl sc_pt.nd
          (pi_tup (pe_prop (pv 2) B.cl_Keys B.pr_Keys_names GN hr2 bN .nil pass0 rfl)) (blkOk_by (N := NPt) (sc := defScope s__parted) (by decide +kernel)) (fun _ _ _ _ _ => pg_name (i := 4) sc_pt.nd rfl (Or.inl rfl))
          (fun _ _ _ _ _ => pts_one (PW.pt (pw_or (pt_cmpR op_eq (pv 4) (pv 3) (nomark _)) (pw_or1 (pt_val (pe_meth (E := fun _ _ _ => False) (pv 2) B.cl_Keys B.me_Keys_tells GT hr5 bT .nil passF (pa_cons (pv 4) (pa_cons (pv 3) pa_nil)))))))) (fun _ _ _ _ _ => pv 4)))
      (pss_cons (ps_set (i := 6) sc_pt.nd rfl (Or.inl rfl) (pe_callTy call_tuple_of (by rfl) B.b_tuple (by decide +kernel) (pa_cons (pe_lc (own := [("name", 4)]) (g := gName 4) (tt := tYes) (te := tIf (tTest (tOp (rIn K false) (tVar 4) (tVar 5))) (tOp (rIxOwn (He.ga K "Stage") (spGet K) (fun _ _ _ => False)) (tVar 0) (tVar 4)) (tC (.int 0))) rfl sc_pt.nd
          (pi_tup (pe_prop (pv 2) B.cl_Keys B.pr_Keys_names GN hr2 bN .nil pass0 rfl)) (blkOk_by (N := NPt) (sc := defScope s__parted) (by decide +kernel)) (fun _ _ _ _ _ => pg_name (i := 4) sc_pt.nd rfl (Or.inl rfl)) (fun _ _ _ _ _ => pts_nil)
          (fun _ _ _ _ _ => pe_ifExp (pt_cmpR op_in_seq (pv 4) (pv 5) (by rfl)) (pe_ixOwn (E := fun _ _ _ => False) GG hr4 B.sp_Stage_getitem B.fin_Stage_getitem bG passF (pv 0) (pv 4) (fun _ _ => rfl)) pe_int)) pa_nil)))
      (pss_one (ps_ret (pe_tup (pa_cons (pe_tup (pa_cons pe_int (pa_cons (pe_op op_repA (pe_tup (pa_cons pe_int pa_nil)) (pe_callB (call_lenOwn (E := E0) GL hr2 B.sp_Keys_len.1 B.sp_Keys_len.2 bL pass0) (by rfl) B.b_len (by decide +kernel) (pa_cons (pv 2) pa_nil))) pa_nil)))
        (pa_cons (pe_tup (pa_cons (pe_ixOwn (E := fun _ _ _ => False) GG hr4 B.sp_Stage_getitem B.fin_Stage_getitem bG passF (pv 0) pe_str (fun _ _ => rfl)) (pa_cons (pv 6) pa_nil))) pa_nil)))))))), ?_⟩
    obtain ⟨kx, dx, so⟩ := sx.o
    have ko := so.k
    obtain ⟨ax, hx⟩ := so.x
    obtain ⟨dk, tn, dd, AA, hk, htn, _, _, nd, l7, _, t7⟩ := id ko
    have n0 := sx.s.n0
    have ndk : (hs ns).Nodup := List.nodup_cons.mpr ⟨n0, nd⟩
    have big : (1000 : Nat) < sizeLine := by decide
    obtain ⟨ha, _⟩ := ap_mem hap
    have ha' : a = "#" ∨ a ∈ ns := List.mem_cons.mp ha
    refine ⟨_, rfl, x, ax, _, rfl, hx, x, kx, dx, ns, m, rfl, so.r, ?_⟩
    refine ⟨_, rfl, kx, ns, t, rfl, ko, fun H1 p1 s1 hp1 => ?_⟩
    refine ⟨p1, rfl, ⟨_, SqT.of hp1⟩, fun D hD => ?_⟩
    refine lc_fm (walk_tup (xs := (hs ns).map V.str)) (fun i => ((hs ns)[i]?).bind fun n => if (!decide (u n ∣ m n)) = true then some (V.str n) else none) hD (by rw [List.length_map, List.length_cons]; omega) (fun H' s' => SqT.of (s' _ _ hp1)) (fun i v H2 H3 Kt Kf hi s2 yy kt kf => ?_) (fun H2 s2 hD2 => ?_)
    · obtain ⟨rfl, hv⟩ := yy
      obtain ⟨n, hn, rfl⟩ := at_str hv
      have hni := List.mem_of_getElem? hn
      have s12 := s1.trans s2
      refine ⟨rfl, _, rfl, _, rfl, rd_get (sy.same s12) hni ?_⟩
      refine ⟨_, rfl, _, rfl, rd_get (sx.same s12) hni ?_⟩
      refine ⟨u n, m n, rfl, dvd_lt (sy.s.dv n hni), dvd_lt (sx.s.dv n hni), _, rfl, two (fun c => ?_) (fun c => ?_)⟩
      · exact ⟨_, rfl, kt _ _ (by rw [hn]; exact if_pos c) (Same.refl _)⟩
      · exact kf _ (by rw [hn]; exact if_neg (by rw [c]; exact Bool.false_ne_true)) (Same.refl _)
    · rw [List.length_map, fm_bind, fm_filter] at hD2
      have hap2 : ((hs ns).filter fun n => !decide (u n ∣ m n)) = a :: rest := hap
      rw [hap2] at hD2
      have s12 := s1.trans s2
      refine ⟨D, _, 0, .str a, rfl, rfl, SqL.of hD2, atI_nat (j := 0) rfl, ?_⟩
      have ko2 := ko.same s12
      obtain ⟨dk2, tn2, dd2, AA2, hk2, _⟩ := id ko2
      refine ⟨_, rfl, kx, dk2, _, rfl, hk2, kx, ns, t, rfl, ko2, fun p3 hp3 => ⟨p3, rfl, ⟨_, SqT.of hp3⟩, fun D2 hD2n => ?_⟩⟩
      refine lc_fm (walk_tup (xs := ns.map V.str)) (fun i => (ns[i]?).bind fun n => if mvAt ns t a n = true then some (V.str n) else none) hD2n (by rw [List.length_map]; omega) (fun H' s' => SqT.of (s' _ _ hp3)) (fun i v H3 H4 Kt Kf hi s3 yy kt kf => ?_) (fun H3 s3 hD3 => ?_)
      · obtain ⟨rfl, hv⟩ := yy
        obtain ⟨n, hn, rfl⟩ := at_str hv
        have hni := List.mem_of_getElem? hn
        have yes : mvAt ns t a n = true → ∀ G, Same H4 G → Kt (V.str n) G := fun h G sG => kt _ _ (by rw [hn]; exact if_pos h) sG
        have no : mvAt ns t a n = false → ∀ G, Same H4 G → Kf G := fun h G sG => kf _ (by rw [hn]; exact if_neg (by rw [h]; exact Bool.false_ne_true)) sG
        refine ⟨rfl, _, rfl, _, rfl, rfl, _, rfl, two (fun h1 => iteT (B := ∃ z : Nat, z = 0) ?_) (fun h1 => ?_)⟩
        · exact ⟨_, rfl, yes (decide_eq_true (.inl (V.str.inj (of_decide_eq_true h1)))) _ (Same.refl _)⟩
        · have ne : n ≠ a := fun e => of_decide_eq_false h1 (by rw [e])
          refine ⟨_, rfl, kx, dk2, _, rfl, s3 _ _ hk2, rfl, _, rfl, _, rfl, kx, n, a, ns, t, rfl, ko2.same s3, fun _ _ => ⟨_, rfl, ?_⟩, tells_no (.inr hni) ha'⟩
          refine two (fun h2 => ?_) (fun h2 => ?_)
          · exact ⟨_, rfl, yes (decide_eq_true (.inr (of_decide_eq_true h2))) _ (Same.refl _)⟩
          · exact no (decide_eq_false fun h => h.elim ne (of_decide_eq_false h2)) _ (Same.refl _)
      · rw [List.length_map, fm_bind, fm_filter] at hD3
        have s13 := s12.trans s3
        have ko3 := ko.same s13
        obtain ⟨dk3, tn3, dd3, AA3, hk3, _⟩ := id ko3
        refine ⟨_, rfl, kx, dk3, _, rfl, hk3, kx, ns, t, rfl, ko3, fun p4 hp4 => ⟨p4, rfl, ⟨_, SqT.of hp4⟩, fun D4 hD4n => ?_⟩⟩
        refine lc_fm (walk_tup (xs := ns.map V.str)) (fun i => (ns[i]?).map fun n => V.int (fmv ns t m a n)) hD4n (by rw [List.length_map]; omega) (fun H' s' => SqT.of (s' _ _ hp4)) (fun i v H4 H5 Kt Kf hi s4 yy kt kf => ?_) (fun H4 s4 hD4 => ?_)
        · obtain ⟨rfl, hv⟩ := yy
          obtain ⟨n, hn, rfl⟩ := at_str hv
          have hni := List.mem_of_getElem? hn
          refine ⟨rfl, iteT (B := ∃ z : Nat, z = 0) ?_⟩
          refine ⟨_, rfl, _, rfl, D2, _, rfl, .inl (SqL.of (s4 _ _ hD3)), rfl, fl_str, _, rfl, ?_⟩
          rw [inV_str]
          refine two (fun c => ?_) (fun c => ?_)
          · have mv : mvAt ns t a n = true := (List.mem_filter.mp (of_decide_eq_true c)).2
            refine ⟨_, rfl, _, rfl, rd_get (sx.same (s13.trans s4)) (List.mem_cons_of_mem _ hni) (kt _ _ ?_ (Same.refl _))⟩
            rw [hn]
            show some (V.int (fmv ns t m a n)) = some (iV (m n))
            unfold fmv
            rw [if_pos mv]
            rfl
          · have mv : mvAt ns t a n = false := by
              cases e : mvAt ns t a n with
              | false => rfl
              | true => exact absurd (List.mem_filter.mpr ⟨hni, e⟩) (of_decide_eq_false c)
            refine kt _ _ ?_ (Same.refl _)
            rw [hn]
            show some (V.int (fmv ns t m a n)) = some (V.int 0)
            unfold fmv
            rw [mv]
            rfl
        · rw [List.length_map, fm_some (l := ns) (g := fun n => V.int (fmv ns t m a n)) fun i n hn => by rw [hn]; rfl] at hD4
          have s14 := s13.trans s4
          refine ⟨D4, _, rfl, .inl ⟨SqL.of hD4, fun vt nvt => ?_⟩⟩
          have s5 := Same_new (o := HO.tup (ns.map fun n => V.int (fmv ns t m a n))) nvt
          have hvt : (upd H4 vt (.tup (ns.map fun n => V.int (fmv ns t m a n)))) vt = some (.tup ((ns.map (fmv ns t m a)).map V.int)) := by
            rw [upd_same, List.map_map]
            rfl
          have s15 := s14.trans s5
          generalize (upd H4 vt (.tup (ns.map fun n => V.int (fmv ns t m a n)))) = H5 at s5 hvt s15
          refine ⟨(by show 1 ≤ sizeLine; decide), fun z0 nz0 => ?_⟩
          have s6 := s15.trans (Same_new (o := HO.tup [V.int 0]) nz0)
          have hvt6 := (Same_new (o := HO.tup [V.int 0]) nz0) _ _ hvt
          have hz0 : (upd H5 z0 (.tup [V.int 0])) z0 = some (.tup [V.int 0]) := upd_same
          generalize (upd H5 z0 (.tup [V.int 0])) = H6 at s6 hvt6 hz0
          have ko6 := ko.same s6
          obtain ⟨dk6, tn6, dd6, AA6, hk6, _⟩ := id ko6
          refine ⟨_, rfl, kx, dk6, _, rfl, hk6, kx, ns, t, rfl, ko6, _, rfl, by omega, by omega, ?_⟩
          have lpos : 1 ≤ ns.length := by
            cases ns with
            | nil => exact absurd rfl hne
            | cons _ _ => exact Nat.succ_pos _
          refine ⟨z0, (ns.length : Int), [V.int 0], rfl, rfl, hz0, (by intro e; cases e), by omega, by omega, (by decide), fun H7 zp s7 hzp => ?_⟩
          have hvt7 := s7 _ _ hvt6
          have s17 := s6.trans s7
          have ez : (List.replicate ((ns.length : Int)).toNat [V.int 0]).flatten = (ns.map fun _ => (0 : Int)).map V.int := by
            rw [Int.toNat_natCast]
            exact rep_zero ns
          rw [ez] at hzp
          refine ⟨(by show 2 ≤ sizeLine; decide), fun q0 nq0 => ?_⟩
          have s8 := Same_new (o := HO.tup [V.int 0, .ref zp]) nq0
          have r0 : RecAt (upd H7 q0 (.tup [V.int 0, .ref zp])) q0 (r0Of ns) := ⟨zp, upd_same, s8 _ _ hzp⟩
          have hvt8 := s8 _ _ hvt7
          have s18 := s17.trans s8
          generalize (upd H7 q0 (.tup [V.int 0, .ref zp])) = H8 at s8 r0 hvt8 s18
          refine ⟨_, rfl, rd_get (sx.same s18) List.mem_cons_self ?_⟩
          refine ⟨_, rfl, (by show 2 ≤ sizeLine; decide), fun q1 nq1 => ?_⟩
          have s9 := Same_new (o := HO.tup [iV (m "#"), .ref vt]) nq1
          have r1 : RecAt (upd H8 q1 (.tup [iV (m "#"), .ref vt])) q1 (r1Of ns t m a) := ⟨vt, upd_same, s9 _ _ hvt8⟩
          refine ⟨(by show 2 ≤ sizeLine; decide), fun pp npp => ?_⟩
          have s10 := Same_new (o := HO.tup [.ref q0, .ref q1]) npp
          exact k _ pp ((s18.trans s9).trans s10) ⟨q0, q1, upd_same, (r0.same s9).same s10, r1.same s10⟩
theorem sc_xo : FnScope ["self", "other"] ["self", "other"] (defScope s_Stage___xor__) := ⟨rfl, rfl, rfl, by decide +kernel, rfl, by decide +kernel, by decide +kernel⟩
theorem ok_xor (B : Bk K mg) : ∃ fd, FnOk P w K mg base CX0 7 (He.ma K (He.ga K "Stage") "__xor__") fd ["self", "other"] (spXo K) ∧ Binds K fd ["self", "other"] [] := by
  obtain ⟨fd, F⟩ := B.F_Stage___xor
  obtain ⟨fdL, GL, bL⟩ := ok_le (P := P) (w := w) (base := base) B
  obtain ⟨fdP, GP, bP⟩ := (ok_parted (P := P) (w := w) (base := base) B).ex
  have kP := (ok_parted (P := P) (w := w) (base := base) B).kp
  refine ⟨fd, ?_, F.binds fun _ _ _ _ _ _ us hl => match us, hl with | [_, _], _ => rfl⟩
  refine F.ok sc_xo (fun vs H Q E h => ?_) (fun cdv A outer s H vs Q E hr h => ?_)
  · obtain ⟨_, _, _, _, _, _, rfl, _⟩ := h
    rfl
  · have hr6 : Room 6 _ := hr
    refine ⟨_, pss_cons (ps_if (pt_not (pt_val (pe_callB call_isi (by rfl) B.b_isinstance (by decide +kernel) (pa_cons (pv 1) (pa_cons (pe_glob (v := .ref (He.ga K "Stage")) rfl B.g_Stage rfl) pa_nil))))) (pss_one ps_never) pss_nil)
      (pss_cons (ps_if (pt_not (pt_cmpR (op_cmpOwn (op := .LtE) (E := fun _ _ _ => False) rfl GL (hr6.mono (by decide)) B.sp_Stage_le bL passF) (pv 1) (pv 0) (nomark _))) (pss_one (ps_ret (pe_call GP hr6 rfl B.g_parted kP bP .nil pass0 (pa_cons (pv 0) (pa_cons (pv 1) pa_nil))))) pss_nil)
      (pss_cons (ps_if (pt_not (pt_cmpR (op_cmpOwn (op := .LtE) (E := fun _ _ _ => False) rfl GL (hr6.mono (by decide)) B.sp_Stage_le bL passF) (pv 0) (pv 1) (nomark _))) (pss_one (ps_ret (pe_call GP hr6 rfl B.g_parted kP bP .nil pass0 (pa_cons (pv 1) (pa_cons (pv 0) pa_nil))))) pss_nil)
      (pss_one (ps_ret pe_non)))), ?_⟩
    obtain ⟨x, y, ns, t, m, u, rfl, sx, sy, hne, k⟩ := h
    obtain ⟨ky, dy, oy⟩ := id sy.o
    refine ⟨_, rfl, _, _, _, _, _, rfl, .own _, oy.ty B, B.kit_Stage_Stage, _, rfl, iteF ?_⟩
    refine ⟨_, rfl, _, rfl, rd_le B sy sx fun H1 s1 => ?_⟩
    refine ⟨_, rfl, ?_⟩
    cases e1 : apOf ns m u with
    | cons a rest =>
      have l1 : leB ns u m = false := by
        cases l : leB ns u m with
        | false => rfl
        | true => rw [ap_nil.mpr l] at e1; cases e1
      rw [l1]
      refine iteT ⟨_, rfl, _, rfl, x, y, ns, t, m, u, a, rest, rfl, sx.same s1, sy.same s1, e1, hne, fun H2 p s2 hp => k _ _ (s1.trans s2) ?_⟩
      unfold XrAns
      rw [e1]
      exact ⟨p, rfl, hp⟩
    | nil =>
      rw [ap_nil.mp e1]
      refine iteF ?_
      refine ⟨_, rfl, _, rfl, rd_le B (sx.same s1) (sy.same s1) fun H2 s2 => ?_⟩
      refine ⟨_, rfl, ?_⟩
      cases e2 : apOf ns u m with
      | cons a rest =>
        have l1 : leB ns m u = false := by
          cases l : leB ns m u with
          | false => rfl
          | true => rw [ap_nil.mpr l] at e2; cases e2
        rw [l1]
        have s12 := s1.trans s2
        refine iteT ⟨_, rfl, _, rfl, y, x, ns, t, u, m, a, rest, rfl, sy.same s12, sx.same s12, e2, hne, fun H3 p s3 hp => k _ _ (s12.trans s3) ?_⟩
        unfold XrAns
        rw [e1]
        dsimp only
        rw [e2]
        exact ⟨p, rfl, hp⟩
      | nil =>
        rw [ap_nil.mp e2]
        refine iteF (k _ _ (s1.trans s2) ?_)
        unfold XrAns
        rw [e1]
        dsimp only
        rw [e2]
end
end Jd
namespace Jd
open PySem PySem.Spec PyProof.Rows L2
/-! ### _law_lane -/
def looksT (xs : List Int) (ks : List Nat) (i : Nat) : List Int := (((xs.zip ks).take i).filter fun p => decide (p.2 ≠ 1)).map fun p => p.1 % (p.2 : Int)
theorem looksT_next {xs : List Int} {ks : List Nat} {i k : Nat} {x : Int} (hx : xs[i]? = some x) (hk : ks[i]? = some k) : looksT xs ks (i + 1) = looksT xs ks i ++ if k = 1 then [] else [x % (k : Int)] := by
  have hz : (xs.zip ks)[i]? = some (x, k) := by
    rw [List.getElem?_zip_eq_some]
    exact ⟨hx, hk⟩
  unfold looksT
  rw [List.take_add_one, hz, List.filter_append, List.map_append]
  congr 1
  by_cases h : k = 1
  · rw [if_pos h]
    simp [h]
  · rw [if_neg h]
    simp [h]
theorem looksT_all {xs : List Int} {ks : List Nat} {n : Nat} (h1 : xs.length = n) (h2 : ks.length = n) : looksT xs ks n = looks xs ks := by
  unfold looksT
  rw [looks_zip, List.take_of_length_le (by rw [List.length_zip, h1, h2, Nat.min_self]; exact Nat.le_refl _)]
theorem looksT_len (xs : List Int) (ks : List Nat) (i : Nat) : (looksT xs ks i).length ≤ i := by
  unfold looksT
  rw [List.length_map]
  refine Nat.le_trans (List.length_filter_le _ _) ?_
  rw [List.length_take]
  exact Nat.min_le_left _ _
def spLl (K : PySem.W.Frag) : Sp := fun vs H Q _ => ∃ (b d e : Addr) (ns : List Str) (R : List (Str × Str)) (m : Str → Nat) (r : Rcd), vs = [.ref b, .ref d, .ref e] ∧ BkAt H b ns R ∧ ns.length ≤ 5 ∧ H d = some (.dK (kvG (hs ns) (numV m))) ∧ RecAt H e r ∧ r.2.length = ns.length ∧
  ∀ H' p, Same H H' → H' p = some (.tup ((laneOf ns m r).map V.int)) → Q (.ref p) H'
section
variable {P : Program} {w : World} {K : PySem.W.Frag} {mg : Str → Option Value} {base : Heap}
abbrev NLl : List Str := ["_law_book_here", "_law_mods_here", "_law_entry", "_law_seen_so", "_law_found", "_law_own", "_law_cell"]
theorem sc_ll : FnScope NLl ["_law_book_here", "_law_mods_here", "_law_entry"] (defScope s__law_lane) := ⟨rfl, rfl, rfl, by decide +kernel, rfl, by decide +kernel, by decide +kernel⟩
theorem ok_law_lane (B : Bk K mg) : Df P w K mg base CX0 1 "_law_lane" ["_law_book_here", "_law_mods_here", "_law_entry"] (spLl K) := by
  obtain ⟨fd, F⟩ := B.F_law_lane
  refine ⟨⟨fd, ?_, F.binds fun _ _ _ _ _ _ us hl => match us, hl with | [_, _, _], _ => rfl⟩, B.g_law_lane, F.kp⟩
  refine F.ok sc_ll (fun vs H Q E h => ?_) (fun cdv A outer s H vs Q E hr h => ?_)
  · obtain ⟨_, _, _, _, _, _, _, rfl, _⟩ := h
    rfl
  · obtain ⟨b, d, e, ns, R, m, r, rfl, hb, l5, hd, ⟨va, he, hva⟩, rl, k⟩ := h
    have hu := hu_of hr
    refine ⟨_, pss_cons (ps_par (i := 3) (j := 4) (by rfl) sc_ll.nd rfl rfl (by decide) rfl rfl (pa_cons
          (pe_op op_cat (pe_lst (pa_cons (pe_ix ix_tup (pv 2) pe_int (fun _ _ => rfl)) pa_nil)) (pe_callTy call_list_of (by rfl) B.b_list (by decide +kernel) (pa_cons (pe_ix ix_tup (pv 2) pe_int (fun _ _ => rfl)) pa_nil)))
          (pa_cons (pe_lst pa_nil) pa_nil)) (by rfl))
      (pss_cons (ps_for PassesOwn.never rfl (pi_Z2 (by rfl) B.b_zip (pa_cons (pe_op op_catA (pe_tup (pa_cons pe_str pa_nil)) (pe_callTy call_tupleT (by rfl) B.b_tuple (by decide +kernel) (pa_cons (pe_ix ix_tup (pv 0) pe_int (fun _ _ => rfl)) pa_nil))) (pa_cons (pv 3) pa_nil)))
          (pg_tup rfl (pgs_cons (pg_name (i := 5) sc_ll.nd rfl (.inl rfl)) (pgs_cons (pg_name (i := 6) sc_ll.nd rfl (.inl rfl)) pgs_nil)))
        (pss_one (ps_if (pt_cmpR op_ne (pe_dget hu (pv 1) (pv 5) (fun _ _ => rfl)) pe_int (nomark _))
          (pss_one (ps_expr (pe_bm PySem.F.plainAttrs_list PySem.F.slot_list_append PySem.F.type_list_append mt_append (pv 4) (pa_cons (pe_ifExp (pt_cmpR op_eq (pe_dget hu (pv 1) (pv 5) (fun _ _ => rfl)) pe_int (nomark _)) (pv 6)
            (pe_op op_mod (pe_callTy call_int1 (by rfl) B.b_int (by decide +kernel) (pa_cons (pv 6) pa_nil)) (pe_dget hu (pv 1) (pv 5) (fun _ _ => rfl)))) pa_nil)))) pss_nil)))
      (pss_one (ps_ret (pe_callTy call_tuple_of (by rfl) B.b_tuple (by decide +kernel) (pa_cons (pv 4) pa_nil))))), ?_⟩
    have big : (1000 : Nat) < sizeLine := by decide
    refine ⟨_, rfl, e, _, 0, .int r.1, rfl, rfl, SqT.of he, rfl, ?_⟩
    refine ⟨(by show 1 ≤ sizeLine; decide), fun l0 nl0 => ?_⟩
    have s0 := Same_new (o := HO.lst [V.int r.1]) nl0
    refine ⟨_, rfl, e, _, 1, .ref va, rfl, rfl, SqT.of (s0 _ _ he), rfl, ?_⟩
    refine ⟨va, _, rfl, .inr (SqT.of (s0 _ _ hva)), fun l1 nl1 => ?_⟩
    have s1 := Same_new (o := HO.lst (r.2.map V.int)) nl1
    refine ⟨l0, l1, _, _, rfl, rfl, s1 _ _ upd_same, upd_same, ?_, fun l2 nl2 => ?_⟩
    · rw [List.length_map]
      show 1 + r.2.length ≤ _
      omega
    have s2 := Same_new (o := HO.lst ([V.int r.1] ++ r.2.map V.int)) nl2
    have s02 := (s0.trans s1).trans s2
    have h2 : (upd (upd (upd H l0 (.lst [V.int r.1])) l1 (.lst (r.2.map V.int))) l2 (.lst ([V.int r.1] ++ r.2.map V.int))) l2 = some (.lst ((r.1 :: r.2).map V.int)) := upd_same
    generalize (upd (upd (upd H l0 (.lst [V.int r.1])) l1 (.lst (r.2.map V.int))) l2 (.lst ([V.int r.1] ++ r.2.map V.int))) = H2 at s02 h2
    refine ⟨(by show 0 ≤ sizeLine; decide), fun F0 nF => ?_⟩
    have s3 := Same_new (o := HO.lst []) nF
    have hF : (upd H2 F0 (.lst [])) F0 = some (.lst []) := upd_same
    have s03 := s02.trans s3
    have h2' := s3 _ _ h2
    have nFH : H F0 = none := s02.free nF
    have n2F : l2 ≠ F0 := fun z => by rw [z, nF] at h2; cases h2
    generalize (upd H2 F0 (.lst [])) = H3 at s03 h2' hF
    refine ⟨_, _, rfl, ?_⟩
    refine rd_names (b := b) rfl (hb.same s03) l5 fun H4 p s4 hp => ?_
    have h24 := s4 _ _ h2'
    have hF4 := s4 _ _ hF
    have s04 := s03.trans s4
    refine ⟨_, rfl, .tup p, .lst l2, _, _, rfl, SqT.of hp, SqL.of h24, ?_⟩
    have npF : p ≠ F0 := ne_of hp hF4 (by intro z; cases z)
    have ks_len : ((hs ns).map m).length = (hs ns).length := List.length_map ..
    have xs_len : (r.1 :: r.2).length = (hs ns).length := by rw [List.length_cons, List.length_cons, rl]
    have kpS : ∀ {H'}, Keep F0 H4 H' → Same H H' := fun kp b' o q => kp _ _ (ne_of_none q nFH) (s04 _ _ q)
    refine for_it (walk_Z2 (a := .tup p) (b := .lst l2) (xs := (hs ns).map V.str) (ys := (r.1 :: r.2).map V.int) (n := (hs ns).length) (by rw [List.length_map, List.length_map, xs_len, Nat.min_self])) (fun i σ H' => ∃ v5 v6 : Option V, σ = [some (.ref b), some (.ref d), some (.ref e), some (.ref l2), some (.ref F0), v5, v6] ∧ Keep F0 H4 H' ∧ H' F0 = some (.lst ((looksT (r.1 :: r.2) ((hs ns).map m) i).map V.int)))
      ⟨_, _, rfl, Keep.refl _ _, hF4⟩ (fun i σ H' _ ⟨_, _, _, kp, _⟩ => ⟨SqT.of (kp _ _ npF hp), SqL.of (kp _ _ n2F h24)⟩) (fun i v σ H5 H6 hi ⟨v5, v6, es, kp, hF5⟩ y => ?_) (fun σ H5 ⟨v5, v6, es, kp, hF5⟩ => ?_)
    · obtain ⟨T, y1, y2, rfl, nT, rfl, e1, e2⟩ := y
      subst es
      obtain ⟨n, hn, rfl⟩ := at_str e1
      have hni := List.mem_of_getElem? hn
      rw [List.getElem?_map] at e2
      obtain ⟨z1, f2, rfl⟩ := Option.map_eq_some_iff.mp e2
      have sT := Same_new (a := T) (o := HO.tup [V.str n, V.int z1]) nT
      have hd6 := sT _ _ (kpS kp _ _ hd)
      have hF6 := sT _ _ hF5
      have kT : Keep F0 H4 (upd H5 T (.tup [V.str n, V.int z1])) := kp.trans (Same.keep sT)
      have hk : ((hs ns).map m)[i]? = some (m n) := by rw [List.getElem?_map, hn]; rfl
      have lT := looksT_next f2 hk
      refine ⟨_, _, rfl, SqT.of upd_same, rfl, _, _, rfl, _, _, rfl, rfl, ?_⟩
      generalize (upd H5 T (.tup [V.str n, V.int z1])) = H6 at hd6 hF6 kT
      refine ⟨_, rfl, _, rfl, d, _, rfl, gd_kvG hd6 hni, rfl, _, rfl, two (fun c => ?_) (fun c => ?_)⟩
      · have k1n : m n ≠ 1 := fun q => by
          have c : (!decide (iV (m n) = V.int 1)) = true := c
          rw [q] at c
          exact absurd c (by decide)
        rw [if_neg k1n] at lT
        have fin : ∀ z : Int, z = z1 % (m n : Int) → ∃ l xs y, V.ref F0 = .ref l ∧ [V.int z] = [y] ∧ H6 l = some (.lst xs) ∧ xs.length < sizeLine ∧ ∃ v5 v6 : Option V, [some (.ref b), some (.ref d), some (.ref e), some (.ref l2), some (.ref F0), some (.str n), some (.int z1)] = [some (.ref b), some (.ref d), some (.ref e), some (.ref l2), some (.ref F0), v5, v6] ∧ Keep F0 H4 (upd H6 l (.lst (xs ++ [y]))) ∧ (upd H6 l (.lst (xs ++ [y]))) F0 = some (.lst ((looksT (r.1 :: r.2) ((hs ns).map m) (i + 1)).map V.int)) := fun z hz => by
          refine ⟨F0, _, _, rfl, rfl, hF6, ?_, _, _, rfl, fun b' o nb q => by rw [upd_ne nb]; exact kT _ _ nb q, ?_⟩
          · rw [List.length_map]
            have q1 := looksT_len (r.1 :: r.2) ((hs ns).map m) i
            rw [List.length_cons] at hi
            omega
          · rw [upd_same, lT, List.map_append, hz]
            rfl
        refine ⟨_, rfl, .inl ⟨rfl, _, SqL.of hF6⟩, ?_⟩
        refine ⟨_, rfl, _, rfl, d, _, rfl, gd_kvG hd6 hni, rfl, _, rfl, two (fun c0 => ?_) (fun c0 => ?_)⟩
        · have m0 : m n = 0 := by
            have q := V.int.inj (of_decide_eq_true c0)
            omega
          refine ⟨_, rfl, fin z1 ?_⟩
          rw [m0, show ((0 : Nat) : Int) = 0 from rfl, Int.emod_zero]
        · have m0 : m n ≠ 0 := fun q => of_decide_eq_false c0 (by unfold numV; rw [q]; rfl)
          exact ⟨_, rfl, .inl ⟨z1, rfl, _, rfl, _, rfl, d, _, rfl, gd_kvG hd6 hni, z1, (m n : Int), rfl, rfl, by omega, fin _ rfl⟩⟩
      · have k1e : m n = 1 := by
          by_cases q : m n = 1
          · exact q
          · refine absurd c ?_
            show ¬ (!decide (V.int (m n : Nat) = V.int 1)) = false
            rw [decide_eq_false fun z => q (by have := V.int.inj z; omega)]
            decide
        rw [if_pos k1e, List.append_nil] at lT
        exact ⟨_, _, rfl, kT, by rw [lT]; exact hF6⟩
    · subst es
      rw [looksT_all xs_len ks_len] at hF5
      exact ⟨_, rfl, F0, _, rfl, .inl ⟨SqL.of hF5, fun q nq => k _ q ((kpS kp).trans (Same_new nq)) upd_same⟩⟩
end
end Jd
namespace Jd
open PySem PySem.Spec PyProof.Rows L2
/-! ### list.remove of a text -/
def eqx (k : Str) (v : Value) : Bool := match v with
  | .str n _ => n == k
  | _ => false
theorem eqx_gives {k : Str} {t : Tok} : ∀ {us : List Value} {ns : List Str}, StrsAre us ns → ∀ y ∈ us, MeetsSeq.EqGives y (.str k t) (eqx k y)
  | _, _, .nil => fun y hy => by cases hy
  | _, _, .cons n t' h => fun y hy => by
    rcases List.mem_cons.mp hy with e | e
    · rw [e]
      exact fun prog w A E s Q q => SeqAt.EqAt.str_str n t' k t prog w E Q q
    · exact eqx_gives h y e
theorem eqx_at {k : Str} : ∀ {us : List Value} {ns : List Str}, StrsAre us ns → ∀ (i : Nat) (h : i < us.length) (z : Str), ns[i]? = some z → eqx k us[i] = (z == k)
  | _, _, .cons n t h, 0, _, z, e => by
    cases e
    rfl
  | _, _, .cons n t h, i + 1, hi, z, e => eqx_at h i (Nat.lt_of_succ_lt_succ hi) z e
theorem erase_mapS : ∀ (l : List Str) (j : Nat), (l.map V.str).eraseIdx j = (l.eraseIdx j).map V.str
  | [], j => by simp
  | a :: r, 0 => by simp
  | a :: r, j + 1 => by
    have ih := erase_mapS r j
    simp [ih]
def rRemS : V → List V → Hp → VK → Prop := fun x xs H Q => ∃ (l : Addr) (ns : List Str) (k : Str), x = .ref l ∧ xs = [.str k] ∧ H l = some (.lst (ns.map V.str)) ∧ k ∈ ns ∧ Q .non (upd H l (.lst ((ns.erase k).map V.str)))
theorem mt_removeS {X : Cx} : MtM X "list.remove" rRemS := by
  intro pins s σ H x xs v us Q I rx rxs h
  obtain ⟨l, ns, k, rfl, rfl, hH, hk, q⟩ := h
  cases rx
  obtain ⟨u, rfl, ru⟩ := rxs.one
  obtain ⟨t, rfl⟩ := ru
  obtain ⟨z, its, n, r, hl, e⟩ := I.lstM hH
  have hi := r.strs
  rw [List.length_map] at hl z
  have hjn : ns.idxOf k < ns.length := List.idxOf_lt_length_iff.mpr hk
  have hjl : ns.idxOf k < its.toArray.size := by rw [List.size_toArray]; omega
  refine call_meets PySem.F.slot_list_remove ⟨_, e, rfl⟩ PySem.F.entry_list_remove (PySem.F.args_list_remove_2 _ _) (MeetsSeq.list_remove l its.toArray n (.str k t) (eqx k) (fun y hy => eqx_gives hi y (by simpa using hy)) (ns.idxOf k) hjl ?_ ?_ (by rw [List.size_toArray]; omega)) ⟨e, ?_⟩
  · have h2 := eqx_at (k := k) hi (ns.idxOf k) (by omega) k (by rw [List.getElem?_eq_getElem hjn, List.getElem_idxOf hjn])
    rw [beq_self_eq_true] at h2
    simpa using h2
  · intro m hm hmj
    have hmn : m < ns.length := by omega
    have h2 := eqx_at (k := k) hi m (by omega) ns[m] (List.getElem?_eq_getElem hmn)
    have h3 := List.not_of_lt_findIdx (p := fun y => y == k) (xs := ns) (i := m) hmj
    have h4 : (ns[m] == k) = false := by simpa using h3
    rw [h4] at h2
    simpa using h2
  · have rr := r.eraseIdx (ns.idxOf k)
    have ee : ns.eraseIdx (ns.idxOf k) = ns.erase k := (List.erase_eq_eraseIdx_of_idxOf rfl).symm
    rw [erase_mapS, ee] at rr
    refine ⟨.non, _, I.lset (its' := its.eraseIdx (ns.idxOf k)) (t' := s.toks) hH e ?_ rr ?_, rfl, q⟩
    · show its.toArray.eraseIdxIfInBounds (ns.idxOf k) = (its.eraseIdx (ns.idxOf k)).toArray
      rw [List.eraseIdxIfInBounds_toArray]
    · have z2 := len_erase ns (ns.idxOf k)
      rw [ee] at z2
      rw [List.length_map]
      omega
end Jd
namespace Jd
open PySem PySem.Spec PyProof.Rows L2
/-! ### the law's log: the mathematics -/
def PartOk (t : Str → List Str) (M : Str → List Rcd) (S : Str → Int) (f : Str → Int) (own : Str) : Prop := ∃ (i : Nat) (x : Int), (M own)[i]? = some (x, (t own).map f) ∧ f own = (i : Int) * S own
def Grow (M M' : Str → List Rcd) : Prop := ∀ n (i : Nat) m, (M n)[i]? = some m → (M' n)[i]? = some m
theorem PartOk.grow {t : Str → List Str} {M M' : Str → List Rcd} {S f : Str → Int} {own : Str} (h : PartOk t M S f own) (g : Grow M M') : PartOk t M' S f own := let ⟨i, x, a, b⟩ := h; ⟨i, x, g _ _ _ a, b⟩
theorem PartOk.cg {t : Str → List Str} {M : Str → List Rcd} {S f f' : Str → Int} {own : Str} (h : PartOk t M S f own) (e : f' own = f own) (e' : ∀ o ∈ t own, f' o = f o) : PartOk t M S f' own := by
  obtain ⟨i, x, a, b⟩ := h
  refine ⟨i, x, ?_, by rw [e, b]⟩
  rw [a]
  have : (t own).map f' = (t own).map f := List.map_congr_left e'
  rw [this]
structure LogOk (ns : List Str) (t : Str → List Str) (M : Str → List Rcd) (S : Str → Int) (rows : List Rcd) (tally : Int) : Prop where
  t0 : 0 ≤ tally
  nd : (rows.map Prod.fst).Nodup
  up : ∀ r ∈ rows, 0 ≤ r.1 ∧ r.1 ≤ tally
  ln : ∀ r ∈ rows, r.2.length = ns.length
  ok : ∀ r ∈ rows, ∀ own ∈ ns, PartOk t M S (valAt ns r) own
theorem LogOk.nil {ns : List Str} {t : Str → List Str} {M : Str → List Rcd} {S : Str → Int} : LogOk ns t M S [] 0 := ⟨Int.le_refl _, List.nodup_nil, fun r h => (by cases h), fun r h => (by cases h), fun r h => (by cases h)⟩
theorem LogOk.add {ns : List Str} {t : Str → List Str} {M M' : Str → List Rcd} {S : Str → Int} {rows : List Rcd} {y y' : Int} {f : Str → Int} (h : LogOk ns t M S rows y) (g : Grow M M') (hy : y < y') (nd : ns.Nodup) (sub : ∀ n ∈ ns, ∀ o ∈ t n, o ∈ ns) (ok : ∀ own ∈ ns, PartOk t M' S f own) : LogOk ns t M' S (rows ++ [(y', ns.map f)]) y' := by
  have t0 := h.t0
  refine ⟨by omega, ?_, fun r hr => ?_, fun r hr => ?_, fun r hr own ho => ?_⟩
  · rw [List.map_append, List.nodup_append]
    refine ⟨h.nd, by simp, fun a ha b hb e => ?_⟩
    obtain ⟨r, hr, rfl⟩ := List.mem_map.mp ha
    have hb : b = y' := by simpa using hb
    have := (h.up r hr).2
    omega
  · rcases List.mem_append.mp hr with hr | hr
    · have := h.up r hr
      omega
    · rw [List.mem_singleton.mp hr]
      exact ⟨by show 0 ≤ y'; omega, Int.le_refl _⟩
  · rcases List.mem_append.mp hr with hr | hr
    · exact h.ln r hr
    · rw [List.mem_singleton.mp hr]
      exact List.length_map ..
  · rcases List.mem_append.mp hr with hr | hr
    · exact (h.ok r hr own ho).grow g
    · rw [List.mem_singleton.mp hr]
      exact (ok own ho).cg (valAt_map nd ho) fun o h => valAt_map nd (sub own ho o h)
theorem LogOk.law {ns : List Str} {t : Str → List Str} {M : Str → List Rcd} {S : Str → Int} {rows : List Rcd} {y : Int} (h : LogOk ns t M S rows y) (s0 : ∀ n ∈ ns, S n ≠ 0) : LawRow ns t rows := by
  refine ⟨h.nd, fun r hr => ⟨(h.up r hr).1, h.ln r hr⟩, fun r hr s hs a ha b hb e => ?_⟩
  obtain ⟨i, x, p1, p2⟩ := h.ok r hr a ha
  obtain ⟨j, z, q1, q2⟩ := h.ok s hs a ha
  rw [p2, q2] at e
  have ij : (i : Int) = (j : Int) := Int.eq_of_mul_eq_mul_right (s0 a ha) e
  have ij : i = j := by omega
  subst ij
  rw [p1] at q1
  have q3 : (t a).map (valAt ns r) = (t a).map (valAt ns s) := congrArg Prod.snd (Option.some.inj q1)
  obtain ⟨k, hk, rfl⟩ := List.getElem_of_mem hb
  have := congrArg (fun l => l[k]?) q3
  simp only [List.getElem?_map, List.getElem?_eq_getElem hk] at this
  exact Option.some.inj this
/-- told ones stand ahead -/
def OrdOk (t : Str → List Str) (os : List Str) : Prop := ∀ (i : Nat) (o : Str), os[i]? = some o → ∀ f ∈ t o, f ∈ os.take i
theorem OrdOk.snoc {t : Str → List Str} {os : List Str} {o : Str} (h : OrdOk t os) (ho : ∀ f ∈ t o, f ∈ os) : OrdOk t (os ++ [o]) := by
  intro i p hp f hf
  by_cases hi : i < os.length
  · rw [List.getElem?_append_left hi] at hp
    have := h i p hp f hf
    rw [List.take_append_of_le_length (Nat.le_of_lt hi)]
    exact this
  · rw [List.getElem?_append_right (by omega)] at hp
    have hi2 : i - os.length = 0 := by
      rcases Nat.eq_zero_or_pos (i - os.length) with z | z
      · exact z
      · rw [List.getElem?_eq_none (show 1 ≤ i - os.length from z)] at hp
        cases hp
    rw [hi2] at hp
    cases hp
    have e : os.length = i := by omega
    rw [← e, List.take_left]
    exact ho f hf
/-- of some names one tells none of them -/
theorem last_one {ns : List Str} {R : List (Str × Str)} (tb : Tbl ns R) : ∀ {ls : List Str}, ls ≠ [] → ∃ b ∈ ls, ∀ f ∈ toldOf R ns b, f ∉ ls := by
  intro ls hne
  obtain ⟨rk, r1, _⟩ := tb.rk
  have via : ∀ a b, Via R ns a b → rk a < rk b := by
    intro a b v
    induction v with
    | one h => exact r1 _ h
    | two _ _ _ ih1 ih2 => exact Nat.lt_trans ih1 ih2
  obtain ⟨b, hb, mx⟩ : ∃ b ∈ ls, ∀ x ∈ ls, rk x ≤ rk b := by
    induction ls with
    | nil => exact absurd rfl hne
    | cons a l ih =>
      by_cases e : l = []
      · subst e
        exact ⟨a, List.mem_cons_self, fun x hx => by rw [List.mem_singleton.mp hx]; exact Nat.le_refl _⟩
      · obtain ⟨b, hb, mx⟩ := ih e
        by_cases c : rk a ≤ rk b
        · exact ⟨b, List.mem_cons_of_mem _ hb, fun x hx => (List.mem_cons.mp hx).elim (fun z => z ▸ c) (mx x)⟩
        · exact ⟨a, List.mem_cons_self, fun x hx => (List.mem_cons.mp hx).elim (fun z => z ▸ Nat.le_refl _) fun z => by have := mx x z; omega⟩
  refine ⟨b, hb, fun f hf hl => ?_⟩
  have := via b f (told_in.mp hf).2
  have := mx f hl
  omega
end Jd
namespace Jd
open PySem PySem.Spec PyProof.Rows L2
/-! ### the law's log in the heap: Hx, the heap ahead of the lists that are filled -/
structure LgAt (Hx H : Hp) (u kd ra : Addr) (ns : List Str) (KA : Str → Addr) (M : Str → List Rcd) (rows : List Rcd) (N : Nat) : Prop where
  kp : Keep u Hx H
  hu : ∃ xs, Hx u = some (.lst xs)
  ur : Urn H u N
  hkd : H kd = some (.dK (kvT ns KA))
  nkd : Hx kd = none
  nra : Hx ra = none
  nK : ∀ n ∈ ns, Hx (KA n) = none
  inj : ∀ n ∈ ns, ∀ m ∈ ns, KA n = KA m → n = m
  Kra : ∀ n ∈ ns, KA n ≠ ra
  kl : ∀ n ∈ ns, ∃ rs : List Addr, H (KA n) = some (.lst (rs.map V.ref)) ∧ RowAt H rs (M n)
  hra : ∃ rs : List Addr, H ra = some (.lst (rs.map V.ref)) ∧ RowAt H rs rows
section
variable {Hx H H' : Hp} {u kd ra T a : Addr} {ns : List Str} {KA : Str → Addr} {M : Str → List Rcd} {rows : List Rcd} {N N' : Nat}
theorem LgAt.same (l : LgAt Hx H u kd ra ns KA M rows N) (s : Same H H') : LgAt Hx H' u kd ra ns KA M rows N :=
  ⟨l.kp.trans (Same.keep s), l.hu, l.ur.same s, s _ _ l.hkd, l.nkd, l.nra, l.nK, l.inj, l.Kra, fun n hn => let ⟨rs, x, y⟩ := l.kl n hn; ⟨rs, s _ _ x, y.same s⟩, let ⟨rs, x, y⟩ := l.hra; ⟨rs, s _ _ x, y.same s⟩⟩
theorem RowAt.keep {xs : List V} (hu : H u = some (.lst xs)) (k : Keep u H H') : ∀ {rs : List Addr} {row : List Rcd}, RowAt H rs row → RowAt H' rs row
  | [], [], _ => .nil
  | _ :: _, _ :: _, .cons ⟨va, h1, h2⟩ t => .cons ⟨va, k _ _ (ne_of h1 hu (by intro z; cases z)) h1, k _ _ (ne_of h2 hu (by intro z; cases z)) h2⟩ (RowAt.keep hu k t)
theorem LgAt.ne_u (l : LgAt Hx H u kd ra ns KA M rows N) {x : Addr} (h : Hx x = none) : x ≠ u := fun e => by
  obtain ⟨xs, q⟩ := l.hu
  rw [e, q] at h
  cases h
theorem LgAt.urn (l : LgAt Hx H u kd ra ns KA M rows N) (k : Keep u H H') (ur : Urn H' u N') : LgAt Hx H' u kd ra ns KA M rows N' := by
  obtain ⟨p, q, r, hu, _⟩ := id l.ur
  refine ⟨l.kp.trans k, l.hu, ur, k _ _ (l.ne_u l.nkd) l.hkd, l.nkd, l.nra, l.nK, l.inj, l.Kra, fun n hn => ?_, ?_⟩
  · obtain ⟨rs, x, y⟩ := l.kl n hn
    exact ⟨rs, k _ _ (l.ne_u (l.nK n hn)) x, y.keep hu k⟩
  · obtain ⟨rs, x, y⟩ := l.hra
    exact ⟨rs, k _ _ (l.ne_u l.nra) x, y.keep hu k⟩
/-- a list that is none of the entry's written -/
theorem Urn.off (h : Urn H u N) (ne : u ≠ a) {o : HO} : Urn (upd H a o) u N := by
  obtain ⟨p, q, r, hu, x⟩ := h
  exact ⟨p, q, r, by rw [upd_ne ne]; exact hu, x⟩
theorem LgAt.pushK (l : LgAt Hx H u kd ra ns KA M rows N) {n : Str} (hn : n ∈ ns) {rs : List Addr} (hK : H (KA n) = some (.lst (rs.map V.ref))) {r : Rcd} (ha : RecAt H a r) :
    LgAt Hx (upd H (KA n) (.lst ((rs ++ [a]).map V.ref))) u kd ra ns KA (fun m => if m = n then M n ++ [r] else M m) rows N := by
  refine ⟨fun b o nb hb => ?_, l.hu, l.ur.off (l.ne_u (l.nK n hn)).symm, by rw [upd_ne (ne_of l.hkd hK (by intro z; cases z))]; exact l.hkd, l.nkd, l.nra, l.nK, l.inj, l.Kra, fun m hm => ?_, ?_⟩
  · rw [upd_ne (ne_of_none hb (l.nK n hn))]
    exact l.kp _ _ nb hb
  · obtain ⟨rs', x, y⟩ := l.kl m hm
    by_cases e : m = n
    · subst e
      rw [if_pos rfl]
      rw [hK] at x
      have x := Option.some.inj x
      injection x with x
      have e3 : rs = rs' := (List.map_inj_right fun _ _ z => V.ref.inj z).mp x
      subst e3
      exact ⟨rs ++ [a], upd_same, RowAt.off hK (RowAt.snoc y ha)⟩
    · rw [if_neg e]
      exact ⟨rs', by rw [upd_ne fun z => e (l.inj m hm n hn z)]; exact x, RowAt.off hK y⟩
  · obtain ⟨rs', x, y⟩ := l.hra
    exact ⟨rs', by rw [upd_ne (l.Kra n hn).symm]; exact x, RowAt.off hK y⟩
theorem LgAt.pushR (l : LgAt Hx H u kd ra ns KA M rows N) {rs : List Addr} (hR : H ra = some (.lst (rs.map V.ref))) {r : Rcd} (ha : RecAt H a r) :
    LgAt Hx (upd H ra (.lst ((rs ++ [a]).map V.ref))) u kd ra ns KA M (rows ++ [r]) N := by
  refine ⟨fun b o nb hb => ?_, l.hu, l.ur.off (l.ne_u l.nra).symm, by rw [upd_ne (ne_of l.hkd hR (by intro z; cases z))]; exact l.hkd, l.nkd, l.nra, l.nK, l.inj, l.Kra, fun m hm => ?_, ?_⟩
  · rw [upd_ne (ne_of_none hb l.nra)]
    exact l.kp _ _ nb hb
  · obtain ⟨rs', x, y⟩ := l.kl m hm
    exact ⟨rs', by rw [upd_ne (l.Kra m hm)]; exact x, RowAt.off hR y⟩
  · obtain ⟨rs', x, y⟩ := l.hra
    rw [hR] at x
    have x := Option.some.inj x
    injection x with x
    have e3 : rs = rs' := (List.map_inj_right fun _ _ z => V.ref.inj z).mp x
    subst e3
    exact ⟨rs ++ [a], upd_same, RowAt.off hR (RowAt.snoc y ha)⟩
theorem RowAt.offK {kvs : List (Key × V)} {o : HO} (hD : H T = some (.dK kvs)) : ∀ {rs : List Addr} {row : List Rcd}, RowAt H rs row → RowAt (upd H T o) rs row
  | [], [], _ => .nil
  | _ :: _, _ :: _, .cons ⟨va, h1, h2⟩ t => .cons ⟨va, by rw [upd_ne (ne_of h1 hD (by intro z; cases z))]; exact h1, by rw [upd_ne (ne_of h2 hD (by intro z; cases z))]; exact h2⟩ (RowAt.offK hD t)
/-- another dict written -/
theorem LgAt.dput (l : LgAt Hx H u kd ra ns KA M rows N) {kvs : List (Key × V)} {o : HO} (hT : H T = some (.dK kvs)) (nT : Hx T = none) (Tk : T ≠ kd) : LgAt Hx (upd H T o) u kd ra ns KA M rows N := by
  refine ⟨fun b o' nb hb => ?_, l.hu, l.ur.off (l.ne_u nT).symm, by rw [upd_ne Tk.symm]; exact l.hkd, l.nkd, l.nra, l.nK, l.inj, l.Kra, fun m hm => ?_, ?_⟩
  · rw [upd_ne (ne_of_none hb nT)]
    exact l.kp _ _ nb hb
  · obtain ⟨rs', x, y⟩ := l.kl m hm
    exact ⟨rs', by rw [upd_ne (ne_of x hT (by intro z; cases z))]; exact x, RowAt.offK hT y⟩
  · obtain ⟨rs', x, y⟩ := l.hra
    exact ⟨rs', by rw [upd_ne (ne_of x hT (by intro z; cases z))]; exact x, RowAt.offK hT y⟩
theorem LgAt.none (l : LgAt Hx H u kd ra ns KA M rows N) (h : H T = none) : Hx T = none := by
  cases e : Hx T with
  | none => rfl
  | some o =>
    by_cases q : T = u
    · obtain ⟨p, q1, r, hu, _⟩ := l.ur
      rw [q, hu] at h
      cases h
    · rw [l.kp _ _ q e] at h
      cases h
end
end Jd
namespace Jd
open PySem PySem.Spec PyProof.Rows L2
/-! ### the places of a comprehension within another one -/
def noSc : Scope := { kind := .function, names := [], isGenerator := false, isCoroutine := false }
def atSt (n : Nat) (l : List Stmt) : Stmt := l.getD n (.Pass ⟨0, 0, 0, 0⟩)
def whileBody : Stmt → List Stmt
  | .While _ b _ _ => b
  | _ => []
def asgVal : Stmt → Expr
  | .Assign _ e _ => e
  | _ => .Name "" ⟨0, 0, 0, 0⟩
def subVal : Expr → Expr
  | .Subscript e _ _ => e
  | _ => .Name "" ⟨0, 0, 0, 0⟩
def lcIfs : Expr → List Expr
  | .ListComp _ [⟨_, _, ifs, _⟩] _ _ => ifs
  | _ => []
def cmpL : List Expr → Expr
  | [.Compare e _ _ _] => e
  | _ => .Name "" ⟨0, 0, 0, 0⟩
/-- the comprehension that finds the next name -/
abbrev logLc : Expr := subVal (asgVal (atSt 0 (whileBody (atSt 2 (defBody s__law_log)))))
abbrev NLo : List Str := ["_law_urn", "_law_book_here", "_law_many_so", "_law_wide_so", "_law_flats", "_law_told_so", "_law_order_so", "_law_left", "_law_own", "_law_steps", "_law_known", "_law_rows_so", "_law_tally", "_law_turn", "_law_table", "_law_mark", "_law_bit", "_law_far"]
theorem sc_lo : FnScope NLo ["_law_urn", "_law_book_here", "_law_many_so", "_law_wide_so"] (defScope s__law_log) := ⟨rfl, rfl, rfl, by decide +kernel, rfl, by decide +kernel, by decide +kernel⟩
theorem shp_sl {xs : List Str} (h : ∀ x ∈ xs, PyData.strOk x = true) : SeqAt.shaped (.list (xs.map PyData.str)) = true := by
  unfold SeqAt.shaped
  rw [Bool.and_eq_true]
  refine ⟨by simpa [PyData.canLay0] using lay_strs xs h, decide_eq_true ?_⟩
  simp only [PyData.depth]
  have := dep_strs xs
  omega
theorem shpRowL (l : List Rcd) : SeqAt.shaped (.list (dRow l)) = true := by
  unfold SeqAt.shaped
  rw [Bool.and_eq_true]
  refine ⟨by simpa [PyData.canLay0] using layR l, decide_eq_true ?_⟩
  simp only [PyData.depth]
  have := depR l
  omega
theorem eqv_slist (xs ys : List Str) : PyData.eqv (.list (xs.map PyData.str)) (.list (ys.map PyData.str)) = decide (xs = ys) := by
  rw [PyData.eqv]
  exact eqv_strs xs ys
theorem dpSl {K : PySem.W.Frag} {H : Hp} {a : Addr} {xs : List Str} (h : H a = some (.lst (xs.map V.str))) : Dp K H (.ref a) (.list (xs.map PyData.str)) := .lst (SqL.of h) (dp_strs xs)
theorem _root_.Jd.Urn.at_lst {H : Hp} {u : Addr} {n : Nat} (h : Urn H u n) : ∃ xs, H u = some (.lst xs) := let ⟨_, _, _, q, _⟩ := h; ⟨_, q⟩
theorem nodup_len : ∀ {ls ns : List Str}, ls.Nodup → (∀ n ∈ ls, n ∈ ns) → ls.length ≤ ns.length
  | [], _, _, _ => Nat.zero_le _
  | a :: r, ns, nd, sub => by
    have nd := List.nodup_cons.mp nd
    have ha := sub a List.mem_cons_self
    have q := nodup_len (ls := r) (ns := ns.erase a) nd.2 fun n hn => (List.mem_erase_of_ne (fun e : n = a => nd.1 (e ▸ hn))).mpr (sub n (List.mem_cons_of_mem _ hn))
    rw [List.length_erase_of_mem ha] at q
    have : 0 < ns.length := List.length_pos_of_mem ha
    rw [List.length_cons]
    omega
def lgood (t : Str → List Str) (ls : List Str) (n : Str) : Bool := decide ((t n).filter (fun z => decide (z ∈ ls)) = [])
def spLog (K : PySem.W.Frag) : Sp := fun vs H Q _ => ∃ (u b : Addr) (ns : List Str) (R : List (Str × Str)) (N many : Nat) (wide : Int), vs = [.ref u, .ref b, .int many, .int wide] ∧ Urn H u N ∧ N < 80000 ∧ BkAt H b ns R ∧ Tbl ns R ∧ (∀ n ∈ ns, PyData.strOk n = true) ∧ many ≤ 100 ∧ 0 < wide ∧ wide < 1000 ∧
  ∀ H' p rs row, Keep u H H' → Urn H' u (N + 10 + 10 * many) → H' p = some (.tup (rs.map V.ref)) → RowAt H' rs row → LawRow ns (toldOf R ns) row → row.length = many → Q (.ref p) H'
section
variable {P : Program} {w : World} {K : PySem.W.Frag} {mg : Str → Option Value} {base : Heap}
theorem ok_log (B : Bk K mg) : Df P w K mg base CX0 3 "_law_log" ["_law_urn", "_law_book_here", "_law_many_so", "_law_wide_so"] (spLog K) := by
  obtain ⟨fd, F⟩ := B.F_law_log
  obtain ⟨fdT, GT, bT⟩ := (ok_toldL (P := P) (w := w) (base := base) B).ex
  have kT := (ok_toldL (P := P) (w := w) (base := base) B).kp
  obtain ⟨fdO, GO, bO⟩ := (ok_ofL (P := P) (w := w) (base := base) B).ex
  have kO := (ok_ofL (P := P) (w := w) (base := base) B).kp
  obtain ⟨fdK, GK, bK⟩ := (ok_law_take (P := P) (w := w) (base := base) B).ex
  have kK := (ok_law_take (P := P) (w := w) (base := base) B).kp
  refine ⟨⟨fd, ?_, F.binds fun _ _ _ _ _ _ us hl => match us, hl with | [_, _, _, _], _ => rfl⟩, B.g_law_log, F.kp⟩
  refine F.ok sc_lo (fun vs H Q E h => ?_) (fun cdv A outer s H vs Q E hr h => ?_)
  · obtain ⟨_, _, _, _, _, _, _, rfl, _⟩ := h
    rfl
  · obtain ⟨u, b, ns, R, N, many, wide, rfl, ur, lN, hb, tb, sok, lm, lw0, lw1, k⟩ := h
    have hu := hu_of hr
    have hr1 : Room 1 _ := hr.mono (by decide)
    have hr2 : Room 2 _ := hr
    have hu65 : (A.deeper (envOfC "_law_log" (defScope s__law_log) s.heap.objs.size (He.ga K "_law_log") cdv)).units + 65 < cLine := by
      have := hr.un
      omega
    have inner := fun (s' : Shared) (H' : Hp) (C : Addr) (cl : List (Str × Addr)) (fp : List Addr) => (show PTs ((cxOf CX0 P w K mg base NLo "_law_log" (defScope s__law_log) (He.ga K "_law_log") cdv A outer s H E).nox.blk s' H' (lcScope logLc) (compEnvC (lcScope logLc) cl C (cxOf CX0 P w K mg base NLo "_law_log" (defScope s__law_log) (He.ga K "_law_log") cdv A outer s H E).nox.env) fp) (lcIfs logLc)
        (tTest (tOp (rEqD K) (tLc (iList K (tDGet (tVar 5) (tVar 16))) (gName 17) (tTest (tOp (rIn K false) (tVar 17) (tVar 7))) (tVar 17) [17]) (tLst tNil))) from
      pts_one (pt_cmpR (op_eqD hr.units) (pe_lc (own := [("_law_far", 17)]) (g := gName 17) (tt := tTest (tOp (rIn K false) (tVar 17) (tVar 7))) (te := tVar 17) rfl sc_lo.nd (pi_list (pe_dget hu (pv 5) (pv 16) (fun _ _ => rfl))) (blkOk_by (N := NLo) (sc := relS (lcScope logLc) (defScope s__law_log)) (scope := lcScope (cmpL (lcIfs logLc))) (own := [("_law_far", 17)]) (by decide +kernel)) (fun _ _ _ _ _ => pg_name (i := 17) sc_lo.nd rfl (Or.inl rfl)) (fun _ _ _ _ _ => pts_one (pt_cmpR op_in_seq (pv 17) (pv 7) (by rfl))) (fun _ _ _ _ _ => pv 17)) (pe_lst pa_nil) (nomark _)))
    refine ⟨_, pss_cons (ps_cut (ps_asg (pe_tup (pa_cons (pe_ix ix_tup (pv 1) pe_int (fun _ _ => rfl)) (pa_cons (pe_call GT hr1 rfl B.g_law_told kT bT .nil pass0 (pa_cons (pv 1) pa_nil)) pa_nil))) (pg_tup (by rfl) (pgs_cons (pg_name (i := 4) sc_lo.nd rfl (.inl rfl)) (pgs_cons (pg_name (i := 5) sc_lo.nd rfl (.inr rfl)) pgs_nil)))))
      (pss_cons (ps_cut (ps_asg (pe_tup (pa_cons (pe_lst pa_nil) (pa_cons (pe_callTy call_list_of (by rfl) B.b_list (by decide +kernel) (pa_cons (pv 4) pa_nil)) pa_nil))) (pg_tup (by rfl) (pgs_cons (pg_name (i := 6) sc_lo.nd rfl (.inl rfl)) (pgs_cons (pg_name (i := 7) sc_lo.nd rfl (.inr rfl)) pgs_nil)))))
      (pss_cons (ps_cut (ps_while PassesOwn.never (pt_cmpR (op_neD hr.units) (pv 7) (pe_lst pa_nil) (nomark _))
        (pss_cons (ps_set (i := 8) sc_lo.nd rfl (Or.inl rfl) (pe_ix ix_list (pe_lc (own := [("_law_bit", 16)]) (g := gName 16) (te := tVar 16) rfl sc_lo.nd (pi_list (pv 7)) (blkOk_by (N := NLo) (sc := defScope s__law_log) (by decide +kernel)) (fun _ _ _ _ _ => pg_name (i := 16) sc_lo.nd rfl (Or.inl rfl)) inner (fun _ _ _ _ _ => pv 16)) pe_int (fun _ _ => rfl)))
        (pss_cons (ps_expr (pe_bm PySem.F.plainAttrs_list PySem.F.slot_list_append PySem.F.type_list_append mt_append (pv 6) (pa_cons (pv 8) pa_nil)))
        (pss_one (ps_expr (pe_bm PySem.F.plainAttrs_list PySem.F.slot_list_remove PySem.F.type_list_remove mt_removeS (pv 7) (pa_cons (pv 8) pa_nil))))))))
      (pss_cons (ps_cut (ps_set (i := 9) sc_lo.nd rfl (Or.inl rfl) (pe_callTy (call_dictP rfl) (by rfl) B.b_dict (by decide +kernel) (pa_cons (pe_lc (own := [("_law_own", 8)]) (g := gName 8) (tt := tYes) (te := tTup (tCons (tVar 8) (tCons (tCall (spOf K) [] E0 (tCons (tVar 0) (tCons (tLst (tCons (tC (.int 1)) (tCons (tC (.int 1)) (tCons (tC (.int 2)) (tCons (tC (.int 3)) (tCons (tC (.int 7)) (tCons (tC (.int 12)) (tCons (tUn (rU fun i => .int (-i)) (tC (.int 5))) (tCons (tOp (rI0 fun i j => .int (i + j)) (tOp (rI CPow fun i j => .int (i ^ j.toNat)) (tC (.int 10)) (tC (.int 20))) (tC (.int 1))) tNil))))))))) tNil))) tNil))) rfl sc_lo.nd (pi_tup (pv 4)) (blkOk_by (N := NLo) (sc := defScope s__law_log) (by decide +kernel)) (fun _ _ _ _ _ => pg_name (i := 8) sc_lo.nd rfl (Or.inl rfl)) (fun _ _ _ _ _ => pts_nil)
          (fun _ _ _ _ _ => pe_tup (pa_cons (pv 8) (pa_cons (pe_call GO hr2 rfl B.g_law_of kO bO .nil pass0 (pa_cons (pv 0) (pa_cons (pe_lst (pa_cons pe_int (pa_cons pe_int (pa_cons pe_int (pa_cons pe_int (pa_cons pe_int (pa_cons pe_int (pa_cons (pe_un un_neg pe_int) (pa_cons (pe_op op_add (pe_op op_pow pe_int pe_int) pe_int) pa_nil))))))))) pa_nil))) pa_nil)))) pa_nil))))
      (pss_cons (ps_cut (ps_par3 (i := 10) (j := 11) (l := 12) (by rfl) sc_lo.nd rfl rfl rfl (by decide) (by decide) (by decide) rfl rfl rfl
        (pa_cons (pe_callTy (call_dictP rfl) (by rfl) B.b_dict (by decide +kernel) (pa_cons (pe_lc (own := [("_law_own", 8)]) (g := gName 8) (tt := tYes) (te := tTup (tCons (tVar 8) (tCons (tLst tNil) tNil))) rfl sc_lo.nd (pi_tup (pv 4)) (blkOk_by (N := NLo) (sc := defScope s__law_log) (by decide +kernel)) (fun _ _ _ _ _ => pg_name (i := 8) sc_lo.nd rfl (Or.inl rfl)) (fun _ _ _ _ _ => pts_nil) (fun _ _ _ _ _ => pe_tup (pa_cons (pv 8) (pa_cons (pe_lst pa_nil) pa_nil)))) pa_nil))
          (pa_cons (pe_lst pa_nil) (pa_cons pe_int pa_nil))) (by rfl)))
      (pss_cons (ps_cut (ps_for PassesOwn.never rfl (pi_range1 rfl B.b_range (pa_cons (pv 2) pa_nil)) (pg_name (i := 13) sc_lo.nd rfl (Or.inl rfl))
        (pss_cons (ps_set (i := 14) sc_lo.nd rfl (Or.inr rfl) pe_dnewK)
        (pss_cons (ps_for PassesOwn.never rfl (pi_list (pv 6)) (pg_name (i := 8) sc_lo.nd rfl (Or.inl rfl))
          (pss_cons (ps_set (i := 15) sc_lo.nd rfl (Or.inl rfl) (pe_tup (pa_cons (pe_call GK hr1 rfl B.g_law_take kK bK .nil pass0 (pa_cons (pv 0) (pa_cons (pv 3) pa_nil))) (pa_cons (pe_callTy call_tuple_of (by rfl) B.b_tuple (by decide +kernel) (pa_cons (pe_lc (own := [("_law_far", 17)]) (g := gName 17) (tt := tYes) (te := tDGet (tVar 14) (tVar 17)) rfl sc_lo.nd (pi_list (pe_dget hu (pv 5) (pv 8) (fun _ _ => rfl))) (blkOk_by (N := NLo) (sc := defScope s__law_log) (by decide +kernel)) (fun _ _ _ _ _ => pg_name (i := 17) sc_lo.nd rfl (Or.inl rfl)) (fun _ _ _ _ _ => pts_nil) (fun _ _ _ _ _ => (pe_dget hu (pv 14) (pv 17) (fun _ _ => rfl)))) pa_nil)) pa_nil))))
          (pss_cons (ps_cut (ps_if (pt_cmpR (op_notInD hu65) (pv 15) (pe_dget hu (pv 10) (pv 8) (fun _ _ => rfl)) (by rfl)) (pss_one (ps_expr (pe_bm PySem.F.plainAttrs_list PySem.F.slot_list_append PySem.F.type_list_append mt_append (pe_dget hu (pv 10) (pv 8) (fun _ _ => rfl)) (pa_cons (pv 15) pa_nil)))) pss_nil))
          (pss_one (ps_dput hu (pv 14) (pv 8) (pe_op op_mul (pe_bm PySem.F.plainAttrs_list PySem.F.slot_list_index PySem.F.type_list_index (mt_indexD hu65) (pe_dget hu (pv 10) (pv 8) (fun _ _ => rfl)) (pa_cons (pv 15) pa_nil)) (pe_dget hu (pv 9) (pv 8) (fun _ _ => rfl))) rfl)))))
        (pss_cons (ps_set (i := 12) sc_lo.nd rfl (Or.inl rfl) (pe_op op_add (pe_op op_add (pv 12) pe_int) (pe_call GK hr1 rfl B.g_law_take kK bK .nil pass0 (pa_cons (pv 0) (pa_cons pe_int pa_nil)))))
        (pss_one (ps_expr (pe_bm PySem.F.plainAttrs_list PySem.F.slot_list_append PySem.F.type_list_append mt_append (pv 11) (pa_cons (pe_tup (pa_cons (pv 12) (pa_cons (pe_callTy call_tuple_of (by rfl) B.b_tuple (by decide +kernel) (pa_cons (pe_lc (own := [("_law_own", 8)]) (g := gName 8) (tt := tYes) (te := tDGet (tVar 14) (tVar 8)) rfl sc_lo.nd (pi_tup (pv 4)) (blkOk_by (N := NLo) (sc := defScope s__law_log) (by decide +kernel)) (fun _ _ _ _ _ => pg_name (i := 8) sc_lo.nd rfl (Or.inl rfl)) (fun _ _ _ _ _ => pts_nil) (fun _ _ _ _ _ => (pe_dget hu (pv 14) (pv 8) (fun _ _ => rfl)))) pa_nil)) pa_nil))) pa_nil)))))))))
      (pss_one (ps_ret (pe_callTy call_tuple_of (by rfl) B.b_tuple (by decide +kernel) (pa_cons (pv 11) pa_nil))))))))), ?_⟩
    have nd := tb.nd
    have n0 := tb.noh
    have l5 := tb.l5
    have big : (1000 : Nat) < sizeLine := by decide
    generalize ht : toldOf R ns = t at k
    have tA : ∀ z ∈ ns, toldAt ns t z = t z := fun z hz => if_neg fun e : z = "#" => n0 (e ▸ hz)
    have tsub : ∀ a ∈ ns, ∀ z ∈ t a, z ∈ ns := fun a _ z hz => by
      rw [← ht] at hz
      exact (told_in.mp hz).1
    have tlen : ∀ a, (t a).length ≤ 5 := fun a => by
      rw [← ht]
      unfold toldOf
      exact Nat.le_trans (List.length_filter_le _ _) l5
    obtain ⟨f, g, qs, hb1, hb2, hb3, hb4⟩ := id hb
    refine ⟨fun σ' H' => ∃ (td : Addr) (A : Str → Addr), σ' = [some (.ref u), some (.ref b), some (.int many), some (.int wide), some (.ref f), some (.ref td), none, none, none, none, none, none, none, none, none, none, none, none] ∧ Same H H' ∧ TabA H' td (ns ++ [("#" : Str)]) A (toldAt ns t), ?_, ?_⟩
    · refine ⟨_, rfl, b, _, 0, .ref f, rfl, rfl, SqT.of hb1, rfl, ?_⟩
      refine ⟨_, rfl, b, f, g, ns, qs, R, rfl, hb1, hb2, hb3, hb4, tb, fun H1 td A s1 ta => ?_⟩
      rw [ht] at ta
      refine ⟨(by show 2 ≤ sizeLine; decide), fun T nT => ?_⟩
      have sT := Same_new (o := HO.tup [.ref f, .ref td]) nT
      exact ⟨_, _, rfl, SqT.of upd_same, rfl, _, _, rfl, _, _, rfl, rfl, td, A, rfl, s1.trans sT, ta.same sT⟩
    rintro σ1 H1 ⟨td, A, rfl, s1, ta⟩
    have hf1 := s1 _ _ hb2
    have tget : ∀ {H' : Hp}, (∀ n ∈ ns, H' td = some (.dK (kvT (ns ++ [("#" : Str)]) A)) → DGet H' td (.str n) (some (.ref (A n)))) := fun n hn e => by
      have q := DGet.k (k := Sum.inr n) e
      rw [valV_kvT (List.mem_append_left _ hn)] at q
      exact q
    have tlst : ∀ n ∈ ns, H1 (A n) = some (.lst ((t n).map V.str)) := fun n hn => by
      have q := ta.lst n (List.mem_append_left _ hn)
      rw [tA n hn] at q
      exact q
    refine ⟨fun σ' H' => ∃ (o l : Addr), σ' = [some (.ref u), some (.ref b), some (.int many), some (.int wide), some (.ref f), some (.ref td), some (.ref o), some (.ref l), none, none, none, none, none, none, none, none, none, none] ∧ Same H1 H' ∧ H' o = some (.lst []) ∧ H' l = some (.lst (ns.map V.str)) ∧ o ≠ l ∧ H1 o = none ∧ H1 l = none, ?_, ?_⟩
    · refine ⟨(by show 0 ≤ sizeLine; decide), fun o no => ?_⟩
      have so := Same_new (o := HO.lst []) no
      refine ⟨_, rfl, f, _, rfl, .inr (SqT.of (so _ _ hf1)), fun l nl => ?_⟩
      have sl := Same_new (o := HO.lst (ns.map V.str)) nl
      have nol : o ≠ l := fun e => by rw [← e, upd_same] at nl; cases nl
      refine ⟨(by show 2 ≤ sizeLine; decide), fun T nT => ?_⟩
      have sT := Same_new (o := HO.tup [.ref o, .ref l]) nT
      exact ⟨_, _, rfl, SqT.of upd_same, rfl, _, _, rfl, _, _, rfl, rfl, o, l, rfl, (so.trans sl).trans sT, sT _ _ (sl _ _ upd_same), sT _ _ upd_same, nol, no, so.free nl⟩
    rintro σ2 H2 ⟨o, l, rfl, s2, ho2, hl2, nol, no, nl⟩
    refine ⟨fun σ' H' => ∃ (os : List Str) (v8 : Option V), σ' = [some (.ref u), some (.ref b), some (.int many), some (.int wide), some (.ref f), some (.ref td), some (.ref o), some (.ref l), v8, none, none, none, none, none, none, none, none, none] ∧ Same H1 H' ∧ H' o = some (.lst (os.map V.str)) ∧ OrdOk t os ∧ os.Nodup ∧ ∀ n, n ∈ os ↔ n ∈ ns, ?_, ?_⟩
    · refine ⟨fun m σ' H' => ∃ (os ls : List Str) (v8 : Option V), m = ls.length ∧ σ' = [some (.ref u), some (.ref b), some (.int many), some (.int wide), some (.ref f), some (.ref td), some (.ref o), some (.ref l), v8, none, none, none, none, none, none, none, none, none] ∧ Same H1 H' ∧ H' o = some (.lst (os.map V.str)) ∧ H' l = some (.lst (ls.map V.str)) ∧ OrdOk t os ∧ os.Nodup ∧ ls.Nodup ∧ (∀ n, n ∈ ns ↔ n ∈ os ∨ n ∈ ls) ∧ ∀ n ∈ os, n ∉ ls, ⟨_, [], ns, none, rfl, rfl, s2, ho2, hl2, fun i o h => (by cases h), List.nodup_nil, nd, fun n => ⟨.inr, fun h => h.resolve_left (by intro z; cases z)⟩, fun n h => (by cases h)⟩, ?_⟩
      rintro m σ H' ⟨os, ls, v8, rfl, rfl, s3, ho, hl, oo, ndo, ndl, mem, dis⟩
      have subl : ∀ n ∈ ls, n ∈ ns := fun n h => (mem n).mpr (.inr h)
      have lsl : ls.length ≤ 5 := Nat.le_trans (nodup_len ndl subl) l5
      have osl : os.length ≤ 5 := Nat.le_trans (nodup_len ndo fun n h => (mem n).mpr (.inl h)) l5
      refine ⟨_, rfl, (by show 0 ≤ sizeLine; decide), fun e ne => ?_⟩
      have se := Same_new (o := HO.lst []) ne
      have s3e := s3.trans se
      refine ⟨.list (ls.map PyData.str), .list (([] : List Str).map PyData.str), dpSl (se _ _ hl), dpSl (xs := []) upd_same, shp_sl fun x hx => sok x (subl x hx), shp_sl (by intro x hx; cases hx), _, rfl, ?_⟩
      rw [eqv_slist]
      by_cases hls : ls = []
      · subst hls
        refine iteF ⟨os, v8, rfl, s3e, se _ _ ho, oo, ndo, fun n => ⟨fun h => (mem n).mpr (.inl h), fun h => ((mem n).mp h).resolve_right (by intro z; cases z)⟩⟩
      · rw [decide_eq_false hls]
        refine iteT ⟨fun σ' H'' => ∃ (os' ls' : List Str) (v8 : Option V), ls'.length < ls.length ∧ σ' = [some (.ref u), some (.ref b), some (.int many), some (.int wide), some (.ref f), some (.ref td), some (.ref o), some (.ref l), v8, none, none, none, none, none, none, none, none, none] ∧ Same H1 H'' ∧ H'' o = some (.lst (os'.map V.str)) ∧ H'' l = some (.lst (ls'.map V.str)) ∧ OrdOk t os' ∧ os'.Nodup ∧ ls'.Nodup ∧ (∀ n, n ∈ ns ↔ n ∈ os' ∨ n ∈ ls') ∧ ∀ n ∈ os', n ∉ ls', fun σ' H'' ⟨os', ls', v, lt, r⟩ => ⟨_, lt, os', ls', v, rfl, r⟩, ?_⟩
        have hle := se _ _ hl
        have hoe := se _ _ ho
        generalize (upd H' e (.lst [])) = H3 at s3e hle hoe
        refine ⟨_, rfl, l, rfl, ⟨_, SqL.of hle⟩, fun D hD => ?_⟩
        refine lc_fm (walk_list (xs := ls.map V.str)) (fun i => (ls[i]?).bind fun n => if lgood t ls n = true then some (V.str n) else none) hD (by rw [List.length_map]; omega) (fun H' s' => SqL.of (s' _ _ hle)) (fun i v H4 H5 Kt Kf hi s4 y kt kf => ?_) (fun H4 s4 hD4 => ?_)
        · obtain ⟨rfl, hv⟩ := y
          obtain ⟨n, hn, rfl⟩ := at_str hv
          have hni := subl n (List.mem_of_getElem? hn)
          have yes : lgood t ls n = true → ∀ G, Same H5 G → Kt (V.str n) G := fun h G sG => kt _ _ (by rw [hn]; exact if_pos h) sG
          have no' : lgood t ls n = false → ∀ G, Same H5 G → Kf G := fun h G sG => kf _ (by rw [hn]; exact if_neg (by rw [h]; exact Bool.false_ne_true)) sG
          have hl5 := s4 _ _ hle
          have s15 := s3e.trans s4
          refine ⟨rfl, _, rfl, _, rfl, td, _, rfl, tget n hni (s15 _ _ ta.at_), A n, rfl, ⟨_, SqL.of (s15 _ _ (tlst n hni))⟩, fun D2 hD2 => ?_⟩
          refine lc_fm (walk_list (xs := (t n).map V.str)) (fun i => ((t n)[i]?).bind fun z => if (decide (z ∈ ls)) = true then some (V.str z) else none) hD2 (by rw [List.length_map]; have := tlen n; omega) (fun H' s' => SqL.of (s' _ _ (s15 _ _ (tlst n hni)))) (fun i v H6 H7 Kt2 Kf2 hi s6 y kt2 kf2 => ?_) (fun H6 s6 hD6 => ?_)
          · obtain ⟨rfl, hv⟩ := y
            obtain ⟨z, hz, rfl⟩ := at_str hv
            refine ⟨rfl, _, rfl, _, rfl, l, _, rfl, .inl (SqL.of (s6 _ _ hl5)), rfl, fl_str, _, rfl, ?_⟩
            rw [inV_str]
            refine two (fun c => ?_) (fun c => ?_)
            · exact ⟨_, rfl, kt2 _ _ (by rw [hz]; exact if_pos c) (Same.refl _)⟩
            · have c' : decide (z ∈ ls) = false := c
              exact kf2 _ (by rw [hz]; exact if_neg (by rw [c']; exact Bool.false_ne_true)) (Same.refl _)
          · rw [List.length_map, fm_bind, fm_filter] at hD6
            refine ⟨(by show 0 ≤ sizeLine; decide), fun e2 ne2 => ?_⟩
            have se2 := Same_new (o := HO.lst []) ne2
            have oks : ∀ x ∈ (t n).filter (fun z => decide (z ∈ ls)), PyData.strOk x = true := fun x hx => sok x (tsub n hni x (List.mem_filter.mp hx).1)
            refine ⟨.list (((t n).filter (fun z => decide (z ∈ ls))).map PyData.str), .list (([] : List Str).map PyData.str), dpSl (se2 _ _ hD6), dpSl (xs := []) upd_same, shp_sl oks, shp_sl (by intro x hx; cases hx), _, rfl, ?_⟩
            rw [eqv_slist]
            exact two (fun c => ⟨_, rfl, yes c _ (s6.trans se2)⟩) (fun c => no' c _ (s6.trans se2))
        · rw [List.length_map, fm_bind, fm_filter] at hD4
          obtain ⟨bb, hbb, hno⟩ := last_one tb hls
          rw [ht] at hno
          have hgb : bb ∈ ls.filter (lgood t ls) := List.mem_filter.mpr ⟨hbb, decide_eq_true (by
            rw [List.filter_eq_nil_iff]
            exact fun z hz c => hno z hz (of_decide_eq_true c))⟩
          obtain ⟨own, rest, hfl⟩ : ∃ own rest, ls.filter (lgood t ls) = own :: rest := by
            cases h : ls.filter (lgood t ls) with
            | nil => rw [h] at hgb; cases hgb
            | cons a r => exact ⟨a, r, rfl⟩
          have how : own ∈ ls.filter (lgood t ls) := by rw [hfl]; exact List.mem_cons_self
          obtain ⟨hol, hog⟩ := List.mem_filter.mp how
          have hog := of_decide_eq_true hog
          rw [hfl] at hD4
          refine ⟨D, _, 0, .str own, rfl, rfl, SqL.of hD4, atI_nat (j := 0) rfl, ?_⟩
          have ho4 := s4 _ _ hoe
          have hl4 := s4 _ _ hle
          refine ⟨_, rfl, .inl ⟨rfl, _, SqL.of ho4⟩, _, rfl, o, _, _, rfl, rfl, ho4, (by rw [List.length_map]; omega), ?_⟩
          have hl5 : (upd H4 o (.lst (os.map V.str ++ [V.str own]))) l = some (.lst (ls.map V.str)) := by rw [upd_ne nol.symm]; exact hl4
          refine ⟨_, rfl, .inl ⟨rfl, _, SqL.of hl5⟩, _, rfl, l, ls, own, rfl, rfl, hl5, hol, ?_⟩
          have s5 : Same H1 (upd (upd H4 o (.lst (os.map V.str ++ [V.str own]))) l (.lst ((ls.erase own).map V.str))) := Same_upd (Same_upd (s3e.trans s4) no) nl
          refine ⟨os ++ [own], ls.erase own, _, ?_, rfl, s5, ?_, upd_same, oo.snoc ?_, ?_, ndl.erase own, fun n => ?_, fun n hn => ?_⟩
          · rw [List.length_erase_of_mem hol]
            have : 0 < ls.length := List.length_pos_of_mem hol
            omega
          · rw [upd_ne nol, upd_same, List.map_append]
            rfl
          · intro z hz
            have zn := tsub own (subl own hol) z hz
            rcases (mem z).mp zn with h | h
            · exact h
            · exact absurd (decide_eq_true h) (List.filter_eq_nil_iff.mp hog z hz)
          · rw [List.nodup_append]
            exact ⟨ndo, by simp, fun a ha b hb e => dis a ha (by rw [e, List.mem_singleton.mp hb]; exact hol)⟩
          · rw [mem n, List.mem_append, List.mem_singleton, ndl.mem_erase_iff]
            by_cases e : n = own
            · subst e
              exact ⟨fun _ => .inl (.inr rfl), fun _ => .inr hol⟩
            · exact ⟨fun h => h.elim (fun h => .inl (.inl h)) fun h => .inr ⟨e, h⟩, fun h => h.elim (fun h => h.elim .inl fun h => absurd h e) fun h => .inr h.2⟩
          · rw [ndl.mem_erase_iff]
            rcases List.mem_append.mp hn with h | h
            · exact fun q => dis n h q.2
            · exact fun q => q.1 (List.mem_singleton.mp h)
    rintro σ3 H3 ⟨os, v8, rfl, s3, ho3, oo, ndo, mem⟩
    have s13 := s1.trans s3
    have ur3 := ur.same s13
    have hf3 := s3 _ _ hf1
    have lst8 : ∀ (r : Nat) (x : V), [V.int 1, V.int 1, V.int 2, V.int 3, V.int 7, V.int 12, V.int (-5), V.int (10 ^ (20 : Int).toNat + 1)][r]? = some x → ∃ z : Int, x = .int z ∧ z ≠ 0 := fun r x hx => by
      match r with
      | 0 => cases hx; exact ⟨_, rfl, by decide⟩
      | 1 => cases hx; exact ⟨_, rfl, by decide⟩
      | 2 => cases hx; exact ⟨_, rfl, by decide⟩
      | 3 => cases hx; exact ⟨_, rfl, by decide⟩
      | 4 => cases hx; exact ⟨_, rfl, by decide⟩
      | 5 => cases hx; exact ⟨_, rfl, by decide⟩
      | 6 => cases hx; exact ⟨_, rfl, by decide⟩
      | 7 => cases hx; exact ⟨_, rfl, by decide⟩
      | r + 8 => cases hx
    refine ⟨fun σ' H' => ∃ (sd : Addr) (S : Str → Int) (v8 : Option V), σ' = [some (.ref u), some (.ref b), some (.int many), some (.int wide), some (.ref f), some (.ref td), some (.ref o), some (.ref l), v8, some (.ref sd), none, none, none, none, none, none, none, none] ∧ Keep u H3 H' ∧ Urn H' u (N + ns.length) ∧ H' sd = some (.dK (kvG ns fun n => V.int (S n))) ∧ ∀ n ∈ ns, S n ≠ 0, ?_, ?_⟩
    · refine ⟨_, rfl, f, rfl, ⟨_, SqT.of hf3⟩, fun D hD => ?_⟩
      have nDu : D ≠ u := fun e => by
        obtain ⟨p1, p2, p3, q, _⟩ := ur3
        rw [e, q] at hD
        cases hD
      refine lc_it (walk_tup (xs := ns.map V.str)) (fun i H' => Keep u H3 H' ∧ Urn H' u (N + i) ∧ ∃ (ps : List Addr) (S : Str → Int), H' D = some (.lst (ps.map V.ref)) ∧ ps.length = i ∧ Paired (fun p (kv : Key × V) => H' p = some (.tup [kV kv.1, kv.2])) ps (kvG (ns.take i) fun n => V.int (S n)) ∧ ∀ n ∈ ns.take i, S n ≠ 0)
        ⟨Same.keep (Same_new hD), ur3.off nDu.symm, [], fun _ => 1, upd_same, rfl, .nil, fun n h => by cases h⟩ (fun i H' _ ⟨kp, _⟩ => SqT.of (kp _ _ (ne_of hf3 ur3.at_lst.choose_spec (by intro z; cases z)) hf3)) (fun i x H4 H5 hi ⟨kp, ur4, ps, S, hD4, pl, pp, sn⟩ y => ?_) (fun H4 ⟨kp, ur4, ps, S, hD4, pl, pp, sn⟩ => ?_)
      · obtain ⟨rfl, hx⟩ := y
        obtain ⟨n, hn, rfl⟩ := at_str hx
        have hi' : i < ns.length := (List.getElem?_eq_some_iff.mp hn).1
        refine ⟨rfl, iteT (B := ∃ z : Nat, z = 0) ?_⟩
        refine ⟨_, rfl, _, rfl, _, rfl, 10, 20, rfl, rfl, ⟨by decide, by decide, by decide⟩, _, _, rfl, rfl, (by show 8 ≤ sizeLine; decide), fun ll nll => ?_⟩
        have sll := Same_new (o := HO.lst [V.int 1, V.int 1, V.int 2, V.int 3, V.int 7, V.int 12, V.int (-5), V.int (10 ^ (20 : Int).toNat + 1)]) nll
        have nlu : ll ≠ u := fun e => by
          obtain ⟨p1, p2, p3, q, _⟩ := ur4
          rw [e, q] at nll
          cases nll
        refine ⟨u, ll, _, N + i, rfl, ur4.same sll, by omega, SqL.of upd_same, nlu, (by show 0 < 8; decide), (by show 8 < 1000; decide), fun r x H6 hx ur6 kp6 => ?_⟩
        obtain ⟨z, rfl, z0⟩ := lst8 r x hx
        refine ⟨(by show 2 ≤ sizeLine; decide), fun q hq => ?_⟩
        have sq := Same_new (o := HO.tup [V.str n, V.int z]) hq
        have kp7 : Keep u H5 (upd H6 q (.tup [V.str n, V.int z])) := ((Same.keep sll).trans kp6).trans (Same.keep sq)
        have hD7 := kp7 _ _ nDu hD4
        have nqD : q ≠ D := fun e => by
          rw [e] at hq
          rw [kp6 _ _ nDu (sll _ _ hD4)] at hq
          cases hq
        refine ⟨_, hD7, by rw [List.length_map, pl]; omega, ?_, (ur6.same sq).off nDu.symm, ps ++ [q], fun m => if m = n then z else S m, by rw [upd_same, List.map_append]; rfl, by rw [List.length_append, pl]; rfl, ?_, fun m hm => ?_⟩
        · intro b' o' nb hb'
          rw [upd_ne (ne_of_none hb' hD)]
          exact kp7 _ _ nb (kp _ _ nb hb')
        · rw [take_next hn]
          unfold kvG at pp ⊢
          rw [List.map_append]
          have e1 : (ns.take i).map (fun m => ((Sum.inr m : Key), V.int (if m = n then z else S m))) = (ns.take i).map fun m => ((Sum.inr m : Key), V.int (S m)) := List.map_congr_left fun m hm => by
            rw [if_neg (fun e : m = n => nd_take nd hn (e ▸ hm))]
          rw [e1]
          refine Paired.snoc (pr_imp (fun a kv h => ?_) pp) ?_
          · obtain ⟨p1, p2, p3, q4, _⟩ := ur4
            have h7 := kp7 _ _ (ne_of h q4 (by intro z; cases z)) h
            rw [upd_ne (ne_of h7 hD7 (by intro z; cases z))]
            exact h7
          · rw [upd_ne nqD, upd_same]
            show some (HO.tup [V.str n, V.int z]) = some (HO.tup [V.str n, V.int (if n = n then z else S n)])
            rw [if_pos rfl]
        · rw [take_next hn] at hm
          dsimp only
          by_cases e : m = n
          · rw [if_pos e]
            exact z0
          · rw [if_neg e]
            exact sn m ((List.mem_append.mp hm).resolve_right fun h => e (List.mem_singleton.mp h))
      · rw [List.length_map] at ur4
        rw [List.length_map, List.take_length] at pp sn
        refine ⟨D, ps, kvG ns (fun n => V.int (S n)), rfl, SqL.of hD4, pr_imp (fun a kv h => SqT.of h) pp, fun d hd => ?_⟩
        have em : mergeK [] (kvG ns (fun n => V.int (S n))) = kvG ns (fun n => V.int (S n)) := merge_kvG (acc := []) nd
        rw [em]
        have sd := Same_new (o := HO.dK (kvG ns fun n => V.int (S n))) hd
        exact ⟨d, S, _, rfl, kp.trans (Same.keep sd), ur4.same sd, upd_same, sn⟩
    rintro σ4 Hx ⟨sd, S, v8', rfl, kx, urx, hsd, sn⟩
    have hux := urx.at_lst
    have nfu : f ≠ u := ne_of hf3 ur3.at_lst.choose_spec (by intro z; cases z)
    have hfx := kx _ _ nfu hf3
    refine ⟨fun σ' H' => ∃ (kd ra : Addr) (KA : Str → Addr), σ' = [some (.ref u), some (.ref b), some (.int many), some (.int wide), some (.ref f), some (.ref td), some (.ref o), some (.ref l), v8', some (.ref sd), some (.ref kd), some (.ref ra), some (.int 0), none, none, none, none, none] ∧ LgAt Hx H' u kd ra ns KA (fun _ => []) [] (N + ns.length), ?_, ?_⟩
    · refine ⟨_, rfl, f, rfl, ⟨_, SqT.of hfx⟩, fun D hD => ?_⟩
      refine lc_it (walk_tup (xs := ns.map V.str)) (fun i H' => Same Hx H' ∧ ∃ (ps : List Addr) (KA : Str → Addr), H' D = some (.lst (ps.map V.ref)) ∧ ps.length = i ∧ Paired (fun p (kv : Key × V) => H' p = some (.tup [kV kv.1, kv.2])) ps (kvT (ns.take i) KA) ∧ (∀ n ∈ ns.take i, H' (KA n) = some (.lst []) ∧ Hx (KA n) = none ∧ KA n ≠ D) ∧ ∀ n ∈ ns.take i, ∀ m ∈ ns.take i, KA n = KA m → n = m)
        ⟨Same_new hD, [], fun _ => 0, upd_same, rfl, .nil, (fun n h => by cases h), fun n h => by cases h⟩ (fun i H' _ ⟨s', _⟩ => SqT.of (s' _ _ hfx)) (fun i x H4 H5 hi ⟨s4, ps, KA, hD4, pl, pp, hK, inj⟩ y => ?_) (fun H4 ⟨s4, ps, KA, hD4, pl, pp, hK, inj⟩ => ?_)
      · obtain ⟨rfl, hx⟩ := y
        obtain ⟨n, hn, rfl⟩ := at_str hx
        have hi' : i < ns.length := (List.getElem?_eq_some_iff.mp hn).1
        refine ⟨rfl, iteT (B := ∃ z : Nat, z = 0) ?_⟩
        refine ⟨_, rfl, (by show 0 ≤ sizeLine; decide), fun z hz => ?_⟩
        have sz := Same_new (o := HO.lst []) hz
        refine ⟨(by show 2 ≤ sizeLine; decide), fun q hq => ?_⟩
        have sq := Same_new (o := HO.tup [V.str n, .ref z]) hq
        have szq := sz.trans sq
        have hDq := szq _ _ hD4
        have nzD : z ≠ D := fun e => by rw [e, hD4] at hz; cases hz
        have nqD : q ≠ D := fun e => by
          rw [e, sz _ _ hD4] at hq
          cases hq
        have old : ∀ m ∈ ns.take i, (if m = n then z else KA m) = KA m := fun m hm => if_neg (fun e : m = n => nd_take nd hn (e ▸ hm))
        have oldz : ∀ m ∈ ns.take i, KA m ≠ z := fun m hm e => by
          have h := (hK m hm).1
          rw [e, hz] at h
          cases h
        refine ⟨_, hDq, by rw [List.length_map, pl]; omega, Same_upd (s4.trans szq) hD, ps ++ [q], fun m => if m = n then z else KA m, by rw [upd_same, List.map_append]; rfl, by rw [List.length_append, pl]; rfl, ?_, fun m hm => ?_, fun m hm m' hm' e => ?_⟩
        · rw [take_next hn]
          unfold kvT at pp ⊢
          rw [List.map_append]
          have e1 : (ns.take i).map (fun m => ((Sum.inr m : Key), V.ref (if m = n then z else KA m))) = (ns.take i).map fun m => ((Sum.inr m : Key), V.ref (KA m)) := List.map_congr_left fun m hm => by rw [old m hm]
          rw [e1]
          refine Paired.snoc (pr_imp (fun a kv h => ?_) pp) ?_
          · have h7 := szq _ _ h
            rw [upd_ne (ne_of h7 hDq (by intro z; cases z))]
            exact h7
          · rw [upd_ne nqD, upd_same]
            show some (HO.tup [V.str n, V.ref z]) = some (HO.tup [V.str n, V.ref (if n = n then z else KA n)])
            rw [if_pos rfl]
        · rw [take_next hn] at hm
          show (upd (upd (upd H5 z (.lst [])) q (.tup [V.str n, .ref z])) D _) (if m = n then z else KA m) = _ ∧ Hx (if m = n then z else KA m) = _ ∧ (if m = n then z else KA m) ≠ D
          rcases List.mem_append.mp hm with h | h
          · rw [old m h]
            obtain ⟨a1, a2, a3⟩ := hK m h
            exact ⟨by rw [upd_ne a3]; exact szq _ _ a1, a2, a3⟩
          · rw [List.mem_singleton.mp h, if_pos rfl]
            exact ⟨by rw [upd_ne nzD]; exact sq _ _ upd_same, s4.free hz, nzD⟩
        · rw [take_next hn] at hm hm'
          have e : (if m = n then z else KA m) = (if m' = n then z else KA m') := e
          rcases List.mem_append.mp hm with h | h <;> rcases List.mem_append.mp hm' with h' | h'
          · rw [old m h, old m' h'] at e
            exact inj m h m' h' e
          · rw [List.mem_singleton.mp h', if_pos rfl, old m h] at e
            exact absurd e (oldz m h)
          · rw [List.mem_singleton.mp h, if_pos rfl, old m' h'] at e
            exact absurd e.symm (oldz m' h')
          · rw [List.mem_singleton.mp h, List.mem_singleton.mp h']
      · rw [List.length_map, List.take_length] at pp hK inj
        refine ⟨D, ps, kvT ns KA, rfl, SqL.of hD4, pr_imp (fun a kv h => SqT.of h) pp, fun d hd => ?_⟩
        have em : mergeK [] (kvT ns KA) = kvT ns KA := merge_kvG (f := fun n => V.ref (KA n)) (acc := []) nd
        rw [em]
        have sd' := Same_new (o := HO.dK (kvT ns KA)) hd
        refine ⟨(by show 0 ≤ sizeLine; decide), fun ra nra => ?_⟩
        have sr := Same_new (o := HO.lst []) nra
        have s5 := s4.trans (sd'.trans sr)
        refine ⟨_, _, _, rfl, ?_⟩
        refine ⟨d, ra, KA, rfl, Same.keep s5, hux, urx.same s5, sr _ _ upd_same, s4.free hd, (s4.trans sd').free nra, fun n hn => (hK n hn).2.1, inj, fun n hn e => ?_, fun n hn => ⟨[], sr _ _ (sd' _ _ (hK n hn).1), .nil⟩, ⟨[], upd_same, .nil⟩⟩
        have h := sd' _ _ (hK n hn).1
        rw [e, nra] at h
        cases h
    rintro σ5 H5 ⟨kd, ra, KA, rfl, lg5⟩
    have u1 := (ur.same s1).at_lst
    have nou : o ≠ u := fun e => by
      obtain ⟨xs, q⟩ := u1
      rw [← e, no] at q
      cases q
    have nAu : ∀ n ∈ ns, A n ≠ u := fun n hn e => by
      obtain ⟨a, b', c, q, _⟩ := ur.same s1
      have h := tlst n hn
      rw [e, q] at h
      have h := Option.some.inj h
      injection h with h
      cases ht2 : t n with
      | nil => rw [ht2] at h; cases h
      | cons z r =>
        rw [ht2, List.map_cons] at h
        have h := (List.cons.inj h).1
        cases h
    have ntdu : td ≠ u := ne_of ta.at_ u1.choose_spec (by intro z; cases z)
    have nsdu : sd ≠ u := ne_of hsd hux.choose_spec (by intro z; cases z)
    have hox := kx _ _ nou ho3
    have htdx := kx _ _ ntdu (s3 _ _ ta.at_)
    have hAx : ∀ n ∈ ns, Hx (A n) = some (.lst ((t n).map V.str)) := fun n hn => kx _ _ (nAu n hn) (s3 _ _ (tlst n hn))
    refine ⟨fun σ' H' => ∃ (v8 v13 v14 v15 : Option V) (M : Str → List Rcd) (rows : List Rcd) (y : Int), σ' = [some (.ref u), some (.ref b), some (.int many), some (.int wide), some (.ref f), some (.ref td), some (.ref o), some (.ref l), v8, some (.ref sd), some (.ref kd), some (.ref ra), some (.int y), v13, v14, v15, none, none] ∧ LgAt Hx H' u kd ra ns KA M rows (N + ns.length + many * (ns.length + 1)) ∧ LogOk ns t M S rows y ∧ rows.length = many, ?_, ?_⟩
    · refine ⟨_, rfl, many, rfl, by omega, by omega, ?_⟩
      rw [Int.toNat_natCast]
      refine for_it walk_range (fun i σ H' => ∃ (v8 v13 v14 v15 : Option V) (M : Str → List Rcd) (rows : List Rcd) (y : Int), σ = [some (.ref u), some (.ref b), some (.int many), some (.int wide), some (.ref f), some (.ref td), some (.ref o), some (.ref l), v8, some (.ref sd), some (.ref kd), some (.ref ra), some (.int y), v13, v14, v15, none, none] ∧ LgAt Hx H' u kd ra ns KA M rows (N + ns.length + i * (ns.length + 1)) ∧ LogOk ns t M S rows y ∧ rows.length = i ∧ ∀ n ∈ ns, (M n).length ≤ i)
        ⟨_, none, none, none, fun _ => [], [], 0, rfl, by rw [Nat.zero_mul]; exact lg5, LogOk.nil, rfl, fun n hn => Nat.zero_le _⟩ (fun _ _ _ _ _ => trivial) (fun i x σ H6 H7 hi ⟨w8, w13, w14, w15, M, rows, y, e, lg, lok, rl, ml⟩ yy => ?_) (fun σ H6 ⟨w8, w13, w14, w15, M, rows, y, e, lg, lok, rl, ml⟩ => ⟨w8, w13, w14, w15, M, rows, y, e, lg, lok, rl⟩)
      obtain ⟨rfl, rfl⟩ := yy
      subst e
      have nmul : i * (ns.length + 1) ≤ 600 := by
        have : i * (ns.length + 1) ≤ 100 * 6 := Nat.mul_le_mul (by omega) (by omega)
        omega
      intro T nT
      have sT := Same_new (o := HO.dK []) nT
      have nTx := lg.none nT
      have Tu := lg.ne_u nTx
      have Tkd : T ≠ kd := fun e => by
        have := lg.hkd
        rw [← e, nT] at this
        cases this
      replace lg := lg.same sT
      have hT0 : (upd H7 T (.dK [])) T = some (.dK []) := upd_same
      generalize (upd H7 T (.dK [])) = H8 at lg hT0
      refine ⟨_, rfl, o, rfl, ⟨_, SqL.of (lg.kp _ _ nou hox)⟩, ?_⟩
      refine for_it (walk_list (xs := os.map V.str)) (fun j σ H' => ∃ (v8 v15 : Option V) (M' : Str → List Rcd) (fv : Str → Int), σ = [some (.ref u), some (.ref b), some (.int many), some (.int wide), some (.ref f), some (.ref td), some (.ref o), some (.ref l), v8, some (.ref sd), some (.ref kd), some (.ref ra), some (.int y), some (.int (0 + (i : Int))), some (.ref T), v15, none, none] ∧ LgAt Hx H' u kd ra ns KA M' rows (N + ns.length + i * (ns.length + 1) + j) ∧ Grow M M' ∧ (∀ n ∈ ns, (M' n).length ≤ i + 1) ∧ (∀ n, n ∉ os.take j → M' n = M n) ∧ H' T = some (.dK (kvG (os.take j) fun n => V.int (fv n))) ∧ ∀ w ∈ os.take j, PartOk t M' S fv w)
        ⟨w8, w15, M, fun _ => 0, rfl, lg, fun _ _ _ h => h, fun n hn => Nat.le_succ_of_le (ml n hn), fun _ _ => rfl, hT0, fun w h => by cases h⟩ (fun j σ H' _ ⟨_, _, _, _, _, lg', _⟩ => SqL.of (lg'.kp _ _ nou hox)) (fun j x σ H9 H10 hj ⟨v8, v15, M', fv, e, lg', gr, ml', mo, hT, pk⟩ yy => ?_) (fun σ H9 ⟨v8, v15, M', fv, e, lg', gr, ml', mo, hT, pk⟩ => ?_)
      · obtain ⟨rfl, hx⟩ := yy
        subst e
        obtain ⟨own, hn, rfl⟩ := at_str hx
        have hown : own ∈ ns := (mem own).mp (List.mem_of_getElem? hn)
        have hj' : j < os.length := (List.getElem?_eq_some_iff.mp hn).1
        have osl : os.length ≤ 5 := Nat.le_trans (nodup_len ndo fun n h => (mem n).mp h) l5
        have nown := nd_take ndo hn
        have told : ∀ z ∈ t own, z ∈ os.take j := oo j own hn
        refine ⟨_, rfl, _, rfl, u, wide, _, rfl, lg'.ur, by omega, lw0, by omega, fun xx H11 x0 x1 ur11 k11 => ?_⟩
        have lg11 := lg'.urn k11 ur11
        have hT11 := k11 _ _ Tu hT
        have hA11 := lg11.kp _ _ (nAu own hown) (hAx own hown)
        refine ⟨_, rfl, _, rfl, td, _, rfl, tget own hown (lg11.kp _ _ ntdu htdx), A own, rfl, ⟨_, SqL.of hA11⟩, fun D hD => ?_⟩
        refine lc_fm (walk_list (xs := (t own).map V.str)) (fun q => ((t own)[q]?).map fun z => V.int (fv z)) hD (by rw [List.length_map]; have := tlen own; omega) (fun H' s' => SqL.of (s' _ _ hA11)) (fun q v H12 H13 Kt Kf hq s12 yy kt kf => ?_) (fun H12 s12 hD12 => ?_)
        · obtain ⟨rfl, hv⟩ := yy
          obtain ⟨z, hz, rfl⟩ := at_str hv
          refine ⟨rfl, iteT (B := ∃ z : Nat, z = 0) ?_⟩
          exact ⟨_, rfl, _, rfl, T, _, rfl, gd_kvG (s12 _ _ hT11) (told z (List.mem_of_getElem? hz)), kt _ _ (by rw [hz]; rfl) (Same.refl _)⟩
        rw [List.length_map, fm_some (l := t own) (g := fun z => V.int (fv z)) fun q z hz => by rw [hz]; rfl] at hD12
        refine ⟨D, _, rfl, .inl ⟨SqL.of hD12, fun tt ntt => ?_⟩⟩
        have stt := Same_new (o := HO.tup ((t own).map fun z => V.int (fv z))) ntt
        refine ⟨(by show 2 ≤ sizeLine; decide), fun mk nmk => ?_⟩
        have smk := Same_new (o := HO.tup [V.int xx, .ref tt]) nmk
        have s14 := (s12.trans stt).trans smk
        have rm : RecAt (upd (upd H12 tt (.tup ((t own).map fun z => V.int (fv z)))) mk (.tup [V.int xx, .ref tt])) mk (xx, (t own).map fv) := ⟨tt, upd_same, by
          refine smk _ _ ?_
          rw [upd_same, List.map_map]
          rfl⟩
        have lg14 := lg11.same s14
        have hT14 := s14 _ _ hT11
        generalize (upd (upd H12 tt (.tup ((t own).map fun z => V.int (fv z)))) mk (.tup [V.int xx, .ref tt])) = H14 at rm lg14 hT14
        generalize hm : ((xx, (t own).map fv) : Rcd) = m at rm
        have gK : ∀ {H'}, H' kd = some (.dK (kvT ns KA)) → DGet H' kd (.str own) (some (.ref (KA own))) := fun e => by
          have q := DGet.k (k := Sum.inr own) e
          rw [valV_kvT hown] at q
          exact q
        refine ⟨fun σ' H' => ∃ M2 : Str → List Rcd, σ' = [some (.ref u), some (.ref b), some (.int many), some (.int wide), some (.ref f), some (.ref td), some (.ref o), some (.ref l), some (.str own), some (.ref sd), some (.ref kd), some (.ref ra), some (.int y), some (.int (0 + (i : Int))), some (.ref T), some (.ref mk), none, none] ∧ LgAt Hx H' u kd ra ns KA M2 rows (N + ns.length + i * (ns.length + 1) + j + 1) ∧ Grow M' M2 ∧ (∀ n ∈ ns, (M2 n).length ≤ i + 1) ∧ (∀ n, n ≠ own → M2 n = M' n) ∧ m ∈ M2 own ∧ H' T = some (.dK (kvG (os.take j) fun n => V.int (fv n))) ∧ RecAt H' mk m, ?_, ?_⟩
        · obtain ⟨krs, hK, krow⟩ := lg14.kl own hown
          refine ⟨_, rfl, _, rfl, _, rfl, kd, _, rfl, gK lg14.hkd, dRec m, dRow (M' own), dpRec rm, .lst (SqL.of hK) (dpRow krow), shpR _, shpRowL _, _, rfl, ?_⟩
          rw [anyR]
          by_cases c : m ∈ M' own
          · rw [decide_eq_true c]
            exact iteF ⟨M', rfl, lg14, fun _ _ _ h => h, ml', fun _ _ => rfl, c, hT14, rm⟩
          · rw [decide_eq_false c]
            refine iteT ⟨_, rfl, _, rfl, kd, _, rfl, gK lg14.hkd, .inl ⟨rfl, _, SqL.of hK⟩, _, rfl, KA own, _, _, rfl, rfl, hK, ?_, ?_⟩
            · rw [List.length_map, (row_at krow).1]
              have := ml' own hown
              omega
            · have lgp := lg14.pushK hown hK rm
              rw [List.map_append] at lgp
              have ml0 : (M' own).length ≤ i := by rw [mo own nown]; exact ml own hown
              refine ⟨fun n => if n = own then M' own ++ [m] else M' n, rfl, lgp, fun n q z h => ?_, fun n hn' => ?_, fun n ne => if_neg ne, ?_, ?_, ?_⟩
              · show (if n = own then M' own ++ [m] else M' n)[q]? = some z
                by_cases e : n = own
                · subst e
                  rw [if_pos rfl, List.getElem?_append_left (List.getElem?_eq_some_iff.mp h).1]
                  exact h
                · rw [if_neg e]
                  exact h
              · show (if n = own then M' own ++ [m] else M' n).length ≤ i + 1
                by_cases e : n = own
                · rw [if_pos e, List.length_append]
                  exact Nat.succ_le_succ ml0
                · rw [if_neg e]
                  exact ml' n hn'
              · show m ∈ (if own = own then M' own ++ [m] else M' own)
                rw [if_pos rfl]
                exact List.mem_append_right _ (List.mem_singleton.mpr rfl)
              · rw [upd_ne (ne_of hT14 hK (by intro z; cases z))]
                exact hT14
              · obtain ⟨va, h1, h2⟩ := rm
                exact ⟨va, by rw [upd_ne (ne_of h1 hK (by intro z; cases z))]; exact h1, by rw [upd_ne (ne_of h2 hK (by intro z; cases z))]; exact h2⟩
        rintro σ7 H15 ⟨M2, rfl, lg2, gr2, ml2, mo2, hm2, hT2, rm2⟩
        obtain ⟨krs, hK, krow⟩ := lg2.kl own hown
        have hidx : (M2 own).idxOf m < (M2 own).length := List.idxOf_lt_length_iff.mpr hm2
        have hat : (M2 own)[(M2 own).idxOf m]? = some m := by rw [List.getElem?_eq_getElem hidx, List.getElem_idxOf hidx]
        have mlo := ml2 own hown
        refine ⟨_, rfl, _, rfl, kd, _, rfl, gK lg2.hkd, .inl ⟨rfl, _, SqL.of hK⟩, _, rfl, KA own, .ref mk, dRec m, dRow (M2 own), (M2 own).idxOf m, dRec m, rfl, rfl, .lst (SqL.of hK) (dpRow krow), dpRec rm2, shpRowL _, shpR _, ?_, ?_, fun q z hq hz => ?_, ?_⟩
        · show ((M2 own).map dRec)[_]? = _
          rw [List.getElem?_map, hat]
          rfl
        · rw [eqvR]
          exact decide_eq_true rfl
        · have hz : ((M2 own).map dRec)[q]? = some z := hz
          rw [List.getElem?_map] at hz
          obtain ⟨r, hr', rfl⟩ := Option.map_eq_some_iff.mp hz
          rw [eqvR]
          refine decide_eq_false fun e => ?_
          have h3 := List.not_of_lt_findIdx (p := fun w => w == m) (xs := M2 own) (i := q) hq
          obtain ⟨hql, he⟩ := List.getElem?_eq_some_iff.mp hr'
          rw [he, e] at h3
          rw [beq_self_eq_true] at h3
          cases h3
        refine ⟨_, rfl, _, rfl, sd, _, rfl, gd_kvG (lg2.kp _ _ nsdu hsd) hown, ((M2 own).idxOf m : Int), S own, rfl, rfl, .inl ⟨by omega, by omega⟩, ?_⟩
        refine ⟨_, rfl, _, rfl, T, _, rfl, DPut.k (k := Sum.inr own) hT2 (by rw [kvG_len, List.length_take]; omega), ?_⟩
        have ltk : os.take (j + 1) = os.take j ++ [own] := take_next hn
        refine ⟨_, _, M2, fun z => if z = own then ((M2 own).idxOf m : Int) * S own else fv z, rfl, lg2.dput hT2 nTx Tkd, fun n q z h => gr2 n q z (gr n q z h), ml2, fun n hn' => ?_, ?_, fun w hw => ?_⟩
        · rw [ltk] at hn'
          rw [mo2 n fun e => hn' (e ▸ List.mem_append_right _ (List.mem_singleton.mpr rfl))]
          exact mo n fun h => hn' (List.mem_append_left _ h)
        · rw [upd_same, ltk]
          have e1 : kvG (os.take j) (fun n => V.int (fv n)) = kvG (os.take j) (fun n => V.int (if n = own then ((M2 own).idxOf m : Int) * S own else fv n)) := kvG_congr fun n hn' => by
            rw [if_neg (fun e : n = own => nown (e ▸ hn'))]
          have e2 : V.int (((M2 own).idxOf m : Int) * S own) = (fun n => V.int (if n = own then ((M2 own).idxOf m : Int) * S own else fv n)) own := by
            show _ = V.int (if own = own then _ else _)
            rw [if_pos rfl]
          rw [e1]
          show some (HO.dK (putK (kvG (os.take j) fun n => V.int (if n = own then ((M2 own).idxOf m : Int) * S own else fv n)) (Sum.inr own) (V.int (((M2 own).idxOf m : Int) * S own)))) = _
          rw [e2, putG_new nown]
        · rw [ltk] at hw
          have told' : ∀ z ∈ t own, z ≠ own := fun z hz e => nown (e ▸ told z hz)
          rcases List.mem_append.mp hw with h | h
          · have hwn : w ≠ own := fun e => nown (e ▸ h)
            refine ((pk w h).grow gr2).cg (if_neg hwn) fun z hz => if_neg fun e => ?_
            obtain ⟨q, hq⟩ := List.getElem?_of_mem h
            rw [List.getElem?_take] at hq
            split at hq
            · rename_i hqj
              have z1 := oo q w hq z hz
              rw [e] at z1
              exact nown (List.take_subset_take_left os (Nat.le_of_lt hqj) z1)
            · cases hq
          · rw [List.mem_singleton.mp h]
            refine ⟨(M2 own).idxOf m, xx, ?_, if_pos rfl⟩
            rw [hat, ← hm]
            refine congrArg some (congrArg (Prod.mk xx) (List.map_congr_left fun z hz => ?_))
            rw [if_neg (told' z hz)]
      · subst e
        rw [List.length_map] at lg'
        rw [List.length_map, List.take_length] at hT pk mo
        have osl : os.length ≤ ns.length := nodup_len ndo fun n h => (mem n).mp h
        refine ⟨_, rfl, _, _, rfl, rfl, _, rfl, u, 3, _, rfl, lg'.ur, by omega, by decide, by decide, fun rr H11 r0 r1 ur11 k11 => ?_⟩
        have lg11 := (lg'.urn k11 ur11)
        have hT11 := k11 _ _ Tu hT
        refine ⟨_, _, rfl, rfl, ?_⟩
        obtain ⟨rrs, hra, rrow⟩ := lg11.hra
        refine ⟨_, rfl, .inl ⟨rfl, _, SqL.of hra⟩, _, rfl, ?_⟩
        have hf11 := lg11.kp _ _ nfu hfx
        refine ⟨_, rfl, f, rfl, ⟨_, SqT.of hf11⟩, fun D hD => ?_⟩
        refine lc_fm (walk_tup (xs := ns.map V.str)) (fun q => (ns[q]?).map fun z => V.int (fv z)) hD (by rw [List.length_map]; omega) (fun H' s' => SqT.of (s' _ _ hf11)) (fun q v H12 H13 Kt Kf hq s12 yy kt kf => ?_) (fun H12 s12 hD12 => ?_)
        · obtain ⟨rfl, hv⟩ := yy
          obtain ⟨z, hz, rfl⟩ := at_str hv
          refine ⟨rfl, iteT (B := ∃ z : Nat, z = 0) ?_⟩
          exact ⟨_, rfl, _, rfl, T, _, rfl, gd_kvG (s12 _ _ hT11) ((mem z).mpr (List.mem_of_getElem? hz)), kt _ _ (by rw [hz]; rfl) (Same.refl _)⟩
        rw [List.length_map, fm_some (l := ns) (g := fun z => V.int (fv z)) fun q z hz => by rw [hz]; rfl] at hD12
        refine ⟨D, _, rfl, .inl ⟨SqL.of hD12, fun tt ntt => ?_⟩⟩
        have stt := Same_new (o := HO.tup (ns.map fun z => V.int (fv z))) ntt
        refine ⟨(by show 2 ≤ sizeLine; decide), fun mk nmk => ?_⟩
        have smk := Same_new (o := HO.tup [V.int (y + 1 + rr), .ref tt]) nmk
        have s14 := (s12.trans stt).trans smk
        have rm : RecAt (upd (upd H12 tt (.tup (ns.map fun z => V.int (fv z)))) mk (.tup [V.int (y + 1 + rr), .ref tt])) mk (y + 1 + rr, ns.map fv) := ⟨tt, upd_same, by
          refine smk _ _ ?_
          rw [upd_same, List.map_map]
          rfl⟩
        have lg14 := lg11.same s14
        have hra14 := s14 _ _ hra
        refine ⟨ra, _, _, rfl, rfl, hra14, ?_, ?_⟩
        · rw [List.length_map, (row_at rrow).1, rl]
          omega
        · have lgp := lg14.pushR hra14 rm
          rw [List.map_append] at lgp
          have lN' : N + ns.length + i * (ns.length + 1) + os.length + 1 ≤ N + ns.length + (i + 1) * (ns.length + 1) := by
            rw [Nat.add_mul]
            omega
          refine ⟨_, _, _, _, M', rows ++ [(y + 1 + rr, ns.map fv)], y + 1 + rr, rfl, ?_, lok.add gr (by omega) nd tsub (fun w hw => pk w ((mem w).mpr hw)), by rw [List.length_append, rl]; rfl, ml'⟩
          exact ⟨lgp.kp, lgp.hu, lgp.ur.le lN', lgp.hkd, lgp.nkd, lgp.nra, lgp.nK, lgp.inj, lgp.Kra, lgp.kl, lgp.hra⟩
    rintro σ6 H6 ⟨w8, w13, w14, w15, M, rows, y, rfl, lg, lok, rl⟩
    obtain ⟨rrs, hra, rrow⟩ := lg.hra
    refine ⟨_, rfl, ra, _, rfl, .inl ⟨SqL.of hra, fun p np => ?_⟩⟩
    have sp := Same_new (o := HO.tup (rrs.map V.ref)) np
    have kk : Keep u H (upd H6 p (.tup (rrs.map V.ref))) := (((Same.keep s13).trans kx).trans lg.kp).trans (Same.keep sp)
    have nN : N + ns.length + many * (ns.length + 1) ≤ N + 10 + 10 * many := by
      have : many * (ns.length + 1) ≤ many * 10 := Nat.mul_le_mul_left _ (by omega)
      omega
    exact k _ p rrs rows kk ((lg.ur.same sp).le nN) upd_same (rrow.same sp) (lok.law sn) rl
end
end Jd
namespace Jd
open PySem PySem.Spec PyProof.Rows L2
/-! ### _law_due -/
def DueAns (ns : List Str) (t : Str → List Str) (m u : Str → Nat) (H' : Hp) (v : V) : Prop := match apOf ns m u with
  | a :: _ => ∃ p, v = .ref p ∧ PrrAt H' p (r0Of ns) (r1Of ns t m a)
  | [] => v = .non
def spDue (K : PySem.W.Frag) : Sp := fun vs H Q _ => ∃ (b dm di : Addr) (ns : List Str) (R : List (Str × Str)) (m u : Str → Nat), vs = [.ref b, .ref dm, .ref di] ∧ BkAt H b ns R ∧ Tbl ns R ∧ (∀ n ∈ ns, PyData.strOk n = true) ∧ StM ns (toldOf R ns) m ∧ StM ns (toldOf R ns) u ∧
  H dm = some (.dK (kvG (hs ns) (numV m))) ∧ H di = some (.dK (kvG (hs ns) (numV u))) ∧ ∀ H' v, Same H H' → DueAns ns (toldOf R ns) m u H' v → Q v H'
section
variable {P : Program} {w : World} {K : PySem.W.Frag} {mg : Str → Option Value} {base : Heap}
abbrev NDu : List Str := ["_law_book_here", "_law_mine_so", "_law_its_so", "_law_flats", "_law_told_so", "_law_spot", "_law_bits", "_law_own"]
theorem sc_du : FnScope NDu ["_law_book_here", "_law_mine_so", "_law_its_so"] (defScope s__law_due) := ⟨rfl, rfl, rfl, by decide +kernel, rfl, by decide +kernel, by decide +kernel⟩
theorem ok_due (B : Bk K mg) : Df P w K mg base CX0 3 "_law_due" ["_law_book_here", "_law_mine_so", "_law_its_so"] (spDue K) := by
  obtain ⟨fd, F⟩ := B.F_law_due
  obtain ⟨fdT, GT, bT⟩ := (ok_toldL (P := P) (w := w) (base := base) B).ex
  have kT := (ok_toldL (P := P) (w := w) (base := base) B).kp
  obtain ⟨fdM, GM, bM⟩ := (ok_lcmL (P := P) (w := w) (base := base) B).ex
  have kM := (ok_lcmL (P := P) (w := w) (base := base) B).kp
  refine ⟨⟨fd, ?_, F.binds fun _ _ _ _ _ _ us hl => match us, hl with | [_, _, _], _ => rfl⟩, B.g_law_due, F.kp⟩
  refine F.ok sc_du (fun vs H Q E h => ?_) (fun cdv A outer s H vs Q E hr h => ?_)
  · obtain ⟨_, _, _, _, _, _, _, rfl, _⟩ := h
    rfl
  · obtain ⟨b, dm, di, ns, R, m, u, rfl, hb, tb, sok, sm, su, hdm, hdi, k⟩ := h
    have hu := hu_of hr
    have hr1 : Room 1 _ := hr.mono (by decide)
    have hr2 : Room 2 _ := hr
    refine ⟨_, pss_cons (ps_asg (pe_tup (pa_cons (pe_op op_cat (pe_lst (pa_cons pe_str pa_nil)) (pe_callTy call_list_of (by rfl) B.b_list (by decide +kernel) (pa_cons (pe_ix ix_tup (pv 0) pe_int (fun _ _ => rfl)) pa_nil))) (pa_cons (pe_call GT hr1 rfl B.g_law_told kT bT .nil pass0 (pa_cons (pv 0) pa_nil)) pa_nil))) (pg_tup (by rfl) (pgs_cons (pg_name (i := 3) sc_du.nd rfl (.inl rfl)) (pgs_cons (pg_name (i := 4) sc_du.nd rfl (.inr rfl)) pgs_nil))))
      (pss_cons (ps_set (i := 5) sc_du.nd rfl (Or.inr rfl) (pe_lc (own := [("_law_own", 7)]) (g := gName 7) (tt := tTest (tOp rNe (tCall spLcm [] E0 (tCons (tDGet (tVar 2) (tVar 7)) (tCons (tDGet (tVar 1) (tVar 7)) tNil))) (tDGet (tVar 1) (tVar 7)))) (te := tVar 7) rfl sc_du.nd (pi_list (pv 3)) (blkOk_by (N := NDu) (sc := defScope s__law_due) (by decide +kernel)) (fun _ _ _ _ _ => pg_name (i := 7) sc_du.nd rfl (Or.inl rfl))
          (fun _ _ _ _ _ => pts_one (pt_cmpR op_ne (pe_call GM hr2 rfl B.g_law_lcm kM bM .nil pass0 (pa_cons (pe_dget hu (pv 2) (pv 7) (fun _ _ => rfl)) (pa_cons (pe_dget hu (pv 1) (pv 7) (fun _ _ => rfl)) pa_nil))) (pe_dget hu (pv 1) (pv 7) (fun _ _ => rfl)) (nomark _))) (fun _ _ _ _ _ => pv 7)))
      (pss_cons (ps_if (pt_cmpR (op_eqD hr.units) (pv 5) (pe_lst pa_nil) (nomark _)) (pss_one (ps_ret pe_non)) pss_nil)
      (pss_cons (ps_setLc (i := 6) (own := [("_law_own", 7)]) (g := gName 7) (tt := tYes) (te := tIf (tOr (tTest (tOp rEq (tVar 7) (tOp (rIxL K) (tVar 5) (tC (.int 0))))) (tTest (tOp (rIn K false) (tOp (rIxL K) (tVar 5) (tC (.int 0))) (tDGet (tVar 4) (tVar 7))))) (tDGet (tVar 1) (tVar 7)) (tC (.int 0))) rfl sc_du.nd rfl rfl (sw_true rfl rfl rfl (by decide +kernel)) (pi_tup (pe_ix ix_tup (pv 0) pe_int (fun _ _ => rfl))) (blkOk_by (N := NDu) (sc := defScope s__law_due) (by decide +kernel)) (fun _ _ _ _ _ => pg_name (i := 7) sc_du.nd rfl (Or.inl rfl)) (fun _ _ _ _ _ => pts_nil)
          (fun _ _ _ _ _ => pe_ifExp (PW.pt (pw_or (pt_cmpR op_eq (pv 7) (pe_ix ix_list (pv 5) pe_int (fun _ _ => rfl)) (nomark _)) (pw_or1 (pt_cmpR op_in_seq (pe_ix ix_list (pv 5) pe_int (fun _ _ => rfl)) (pe_dget hu (pv 4) (pv 7) (fun _ _ => rfl)) (by rfl))))) (pe_dget hu (pv 1) (pv 7) (fun _ _ => rfl)) pe_int))
      (pss_one (ps_ret (pe_tup (pa_cons (pe_tup (pa_cons pe_int (pa_cons (pe_callTy call_tuple_of (by rfl) B.b_tuple (by decide +kernel) (pa_cons (pe_lc (own := [("_law_own", 7)]) (g := gName 7) (tt := tYes) (te := tC (.int 0)) rfl sc_du.nd (pi_tup (pe_ix ix_tup (pv 0) pe_int (fun _ _ => rfl))) (blkOk_by (N := NDu) (sc := defScope s__law_due) (by decide +kernel)) (fun _ _ _ _ _ => pg_name (i := 7) sc_du.nd rfl (Or.inl rfl)) (fun _ _ _ _ _ => pts_nil) (fun _ _ _ _ _ => pe_int)) pa_nil)) pa_nil)))
        (pa_cons (pe_tup (pa_cons (pe_dget hu (pv 1) pe_str (fun _ _ => rfl)) (pa_cons (pe_callTy call_tuple_of (by rfl) B.b_tuple (by decide +kernel) (pa_cons (pv 6) pa_nil)) pa_nil))) pa_nil)))))))), ?_⟩
    have nd := tb.nd
    have n0 := tb.noh
    have l5 := tb.l5
    have big : (1000 : Nat) < sizeLine := by decide
    generalize ht : toldOf R ns = t at k sm su
    obtain ⟨f, g, qs, hb1, hb2, hb3, hb4⟩ := id hb
    refine ⟨(by show 1 ≤ sizeLine; decide), fun l0 nl0 => ?_⟩
    have s0 := Same_new (o := HO.lst [V.str "#"]) nl0
    refine ⟨_, rfl, b, _, 0, .ref f, rfl, rfl, SqT.of (s0 _ _ hb1), rfl, ?_⟩
    refine ⟨f, _, rfl, .inr (SqT.of (s0 _ _ hb2)), fun l1 nl1 => ?_⟩
    have s1 := Same_new (o := HO.lst (ns.map V.str)) nl1
    refine ⟨l0, l1, _, _, rfl, rfl, s1 _ _ upd_same, upd_same, ?_, fun l2 nl2 => ?_⟩
    · rw [List.length_map]
      show 1 + ns.length ≤ _
      omega
    have s2 := Same_new (o := HO.lst ([V.str "#"] ++ ns.map V.str)) nl2
    have s02 := (s0.trans s1).trans s2
    have h2 : (upd (upd (upd H l0 (.lst [V.str "#"])) l1 (.lst (ns.map V.str))) l2 (.lst ([V.str "#"] ++ ns.map V.str))) l2 = some (.lst ((hs ns).map V.str)) := upd_same
    generalize (upd (upd (upd H l0 (.lst [V.str "#"])) l1 (.lst (ns.map V.str))) l2 (.lst ([V.str "#"] ++ ns.map V.str))) = H2 at s02 h2
    refine ⟨_, rfl, b, f, g, ns, qs, R, rfl, s02 _ _ hb1, s02 _ _ hb2, s02 _ _ hb3, hb4.same s02, tb, fun H3 td A s3 ta => ?_⟩
    rw [ht] at ta
    refine ⟨(by show 2 ≤ sizeLine; decide), fun T nT => ?_⟩
    have sT := Same_new (o := HO.tup [.ref l2, .ref td]) nT
    have s04 := (s02.trans s3).trans sT
    have h24 := sT _ _ (s3 _ _ h2)
    replace ta := ta.same sT
    refine ⟨_, _, rfl, SqT.of upd_same, rfl, _, _, rfl, _, _, rfl, rfl, ?_⟩
    generalize (upd H3 T (.tup [.ref l2, .ref td])) = H4 at s04 h24 ta
    refine ⟨_, rfl, l2, rfl, ⟨_, SqL.of h24⟩, fun D hD => ?_⟩
    have le : ∀ n : Nat, n = 0 ∨ n ∣ MB → n ≤ MB := fun n h => h.elim (fun e => e ▸ Nat.zero_le _) fun h => Nat.le_of_dvd (by decide) h
    refine lc_fm (walk_list (xs := (hs ns).map V.str)) (fun i => ((hs ns)[i]?).bind fun n => if (!decide (u n ∣ m n)) = true then some (V.str n) else none) hD (by rw [List.length_map, List.length_cons]; omega) (fun H' s' => SqL.of (s' _ _ h24)) (fun i v H5 H6 Kt Kf hi s5 yy kt kf => ?_) (fun H5 s5 hD5 => ?_)
    · obtain ⟨rfl, hv⟩ := yy
      obtain ⟨n, hn, rfl⟩ := at_str hv
      have hni := List.mem_of_getElem? hn
      have s05 := s04.trans s5
      have gm := gd_kvG (s05 _ _ hdm) hni
      have gi := gd_kvG (s05 _ _ hdi) hni
      refine ⟨rfl, _, rfl, _, rfl, di, _, rfl, gi, _, rfl, _, rfl, dm, _, rfl, gm, u n, m n, rfl, le _ (su.dv n hni), le _ (sm.dv n hni), ?_⟩
      refine ⟨_, rfl, _, rfl, dm, _, rfl, gm, rfl, _, rfl, ?_⟩
      have e : (!decide (iV (Nat.lcm (u n) (m n)) = numV m n)) = !decide (u n ∣ m n) := by
        refine congrArg (fun z => !z) (decide_eq_decide.mpr ?_)
        unfold numV
        constructor
        · intro h
          have h : (Nat.lcm (u n) (m n) : Int) = (m n : Int) := V.int.inj h
          have h : Nat.lcm (u n) (m n) = m n := by omega
          exact h ▸ Nat.dvd_lcm_left _ _
        · intro h
          rw [Nat.lcm_eq_right h]
      show if (!decide (iV (Nat.lcm (u n) (m n)) = numV m n)) = true then _ else _
      rw [e]
      refine two (fun c => ?_) (fun c => ?_)
      · exact ⟨_, rfl, kt _ _ (by rw [hn]; exact if_pos c) (Same.refl _)⟩
      · exact kf _ (by rw [hn]; exact if_neg (by rw [c]; exact Bool.false_ne_true)) (Same.refl _)
    · rw [List.length_map, fm_bind, fm_filter] at hD5
      have hD5 : H5 D = some (.lst ((apOf ns m u).map V.str)) := hD5
      have s05 := s04.trans s5
      refine ⟨_, rfl, (by show 0 ≤ sizeLine; decide), fun e ne => ?_⟩
      have se := Same_new (o := HO.lst []) ne
      have oks : ∀ x ∈ apOf ns m u, PyData.strOk x = true := fun x hx => by
        rcases List.mem_cons.mp (List.mem_filter.mp hx).1 with h | h
        · rw [h]
          decide +kernel
        · exact sok x h
      refine ⟨.list ((apOf ns m u).map PyData.str), .list (([] : List Str).map PyData.str), dpSl (se _ _ hD5), dpSl (xs := []) upd_same, shp_sl oks, shp_sl (by intro x hx; cases hx), _, rfl, ?_⟩
      rw [eqv_slist]
      have s06 := s05.trans se
      have hD6 := se _ _ hD5
      cases hap : apOf ns m u with
      | nil =>
        refine iteT (k _ _ s06 ?_)
        unfold DueAns
        rw [hap]
      | cons a rest =>
        rw [hap] at hD6
        refine iteF ?_
        have hne : (a :: rest) = a :: rest := rfl
        obtain ⟨ha, _⟩ := ap_mem hap
        have hb16 := s06 _ _ hb1
        have hb26 := s06 _ _ hb2
        have ta6 := (ta.same s5).same se
        have tA : ∀ z ∈ ns, toldAt ns t z = t z := fun z hz => if_neg fun e : z = "#" => n0 (e ▸ hz)
        have hdm6 := s06 _ _ hdm
        generalize (upd H5 e (.lst [])) = H6 at s06 hD6 hb16 hb26 ta6 hdm6
        refine ⟨_, rfl, b, _, 0, .ref f, rfl, rfl, SqT.of hb16, rfl, f, rfl, ⟨_, SqT.of hb26⟩, fun D2 hD2 => ?_⟩
        refine lc_fm (walk_tup (xs := ns.map V.str)) (fun i => (ns[i]?).map fun n => V.int (fmv ns t m a n)) hD2 (by rw [List.length_map]; omega) (fun H' s' => SqT.of (s' _ _ hb26)) (fun i v H7 H8 Kt Kf hi s7 yy kt kf => ?_) (fun H7 s7 hD7 => ?_)
        · obtain ⟨rfl, hv⟩ := yy
          obtain ⟨n, hn, rfl⟩ := at_str hv
          have hni := List.mem_of_getElem? hn
          have hD8 := s7 _ _ hD6
          have ta8 := ta6.same s7
          have gm := gd_kvG (s7 _ _ hdm6) (show n ∈ hs ns from List.mem_cons_of_mem _ hni)
          have yes : mvAt ns t a n = true → Kt (numV m n) H8 := fun h => kt _ _ (by
            rw [hn]
            show some (V.int (fmv ns t m a n)) = some (numV m n)
            unfold fmv
            rw [if_pos h]
            rfl) (Same.refl _)
          have no' : mvAt ns t a n = false → Kt (V.int 0) H8 := fun h => kt _ _ (by
            rw [hn]
            show some (V.int (fmv ns t m a n)) = some (V.int 0)
            unfold fmv
            rw [h]
            rfl) (Same.refl _)
          have gt : DGet H8 td (.str n) (some (.ref (A n))) := ta8.get (List.mem_append_left _ hni)
          have lt : H8 (A n) = some (.lst ((toldAt ns t n).map V.str)) := ta8.lst n (List.mem_append_left _ hni)
          refine ⟨rfl, iteT (B := ∃ z : Nat, z = 0) ?_⟩
          refine ⟨_, rfl, _, rfl, D, _, 0, .str a, rfl, rfl, SqL.of hD8, atI_nat (j := 0) rfl, rfl, _, rfl, two (fun h1 => ?_) (fun h1 => ?_)⟩
          · exact iteT ⟨_, rfl, _, rfl, dm, _, rfl, gm, yes (decide_eq_true (.inl (V.str.inj (of_decide_eq_true h1))))⟩
          · have ne : n ≠ a := fun e => of_decide_eq_false h1 (by rw [e])
            refine ⟨_, rfl, D, _, 0, .str a, rfl, rfl, SqL.of hD8, atI_nat (j := 0) rfl, _, rfl, _, rfl, td, _, rfl, gt, A n, _, rfl, .inl (SqL.of lt), rfl, fl_str, _, rfl, ?_⟩
            rw [inV_str]
            refine two (fun h2 => ?_) (fun h2 => ?_)
            · exact ⟨_, rfl, _, rfl, dm, _, rfl, gm, yes (decide_eq_true (.inr (of_decide_eq_true h2)))⟩
            · exact no' (decide_eq_false fun h => h.elim ne (of_decide_eq_false h2))
        · rw [List.length_map, fm_some (l := ns) (g := fun n => V.int (fmv ns t m a n)) fun i n hn => by rw [hn]; rfl] at hD7
          have s07 := s06.trans s7
          have hb17 := s07 _ _ hb1
          have hb27 := s07 _ _ hb2
          refine ⟨_, rfl, b, _, 0, .ref f, rfl, rfl, SqT.of hb17, rfl, f, rfl, ⟨_, SqT.of hb27⟩, fun D3 hD3 => ?_⟩
          refine lc_fm (walk_tup (xs := ns.map V.str)) (fun i => (ns[i]?).map fun n => V.int 0) hD3 (by rw [List.length_map]; omega) (fun H' s' => SqT.of (s' _ _ hb27)) (fun i v H8 H9 Kt Kf hi s8 yy kt kf => ?_) (fun H8 s8 hD8 => ?_)
          · obtain ⟨rfl, hv⟩ := yy
            obtain ⟨n, hn, rfl⟩ := at_str hv
            exact ⟨rfl, iteT (B := ∃ z : Nat, z = 0) (kt _ _ (by rw [hn]; rfl) (Same.refl _))⟩
          rw [List.length_map, fm_some (l := ns) (g := fun n => V.int 0) fun i n hn => by rw [hn]; rfl] at hD8
          refine ⟨D3, _, rfl, .inl ⟨SqL.of hD8, fun zt nzt => ?_⟩⟩
          have sz := Same_new (o := HO.tup (ns.map fun n => V.int 0)) nzt
          refine ⟨(by show 2 ≤ sizeLine; decide), fun q0 nq0 => ?_⟩
          have sq0 := Same_new (o := HO.tup [V.int 0, .ref zt]) nq0
          have s09 := s07.trans (s8.trans (sz.trans sq0))
          have hD9 := sq0 _ _ (sz _ _ (s8 _ _ hD7))
          have r0 : RecAt (upd (upd H8 zt (.tup (ns.map fun n => V.int 0))) q0 (.tup [V.int 0, .ref zt])) q0 (r0Of ns) := ⟨zt, upd_same, by
            refine sq0 _ _ ?_
            rw [upd_same]
            unfold r0Of
            rw [List.map_map]
            rfl⟩
          generalize (upd (upd H8 zt (.tup (ns.map fun n => V.int 0))) q0 (.tup [V.int 0, .ref zt])) = H9 at s09 hD9 r0
          refine ⟨_, rfl, dm, _, rfl, gd_kvG (s09 _ _ hdm) List.mem_cons_self, ?_⟩
          refine ⟨_, rfl, D2, _, rfl, .inl ⟨SqL.of hD9, fun vt nvt => ?_⟩⟩
          have sv := Same_new (o := HO.tup (ns.map fun n => V.int (fmv ns t m a n))) nvt
          refine ⟨(by show 2 ≤ sizeLine; decide), fun q1 nq1 => ?_⟩
          have sq1 := Same_new (o := HO.tup [numV m "#", .ref vt]) nq1
          have r1 : RecAt (upd (upd H9 vt (.tup (ns.map fun n => V.int (fmv ns t m a n)))) q1 (.tup [numV m "#", .ref vt])) q1 (r1Of ns t m a) := ⟨vt, upd_same, by
            refine sq1 _ _ ?_
            rw [upd_same]
            unfold r1Of
            rw [List.map_map]
            rfl⟩
          refine ⟨(by show 2 ≤ sizeLine; decide), fun pp npp => ?_⟩
          have sp := Same_new (o := HO.tup [.ref q0, .ref q1]) npp
          refine k _ _ (((s09.trans sv).trans sq1).trans sp) ?_
          unfold DueAns
          rw [hap]
          exact ⟨pp, rfl, q0, q1, upd_same, ((r0.same sv).same sq1).same sp, r1.same sp⟩
end
end Jd
namespace Jd
open PySem PySem.Spec PyProof.Rows L2
/-! ### _law_pair_right -/
/-- the marks of a pair by two stages: just one holds it together -/
def PairOk (ns : List Str) (t : Str → List Str) (m0 m1 : Str → Nat) (r s : Rcd) : Prop := LawRow ns t [r, s] ∧ ((laneOf ns m0 r = laneOf ns m0 s ∧ laneOf ns m1 r ≠ laneOf ns m1 s) ∨ (laneOf ns m0 r ≠ laneOf ns m0 s ∧ laneOf ns m1 r = laneOf ns m1 s))
section
variable {ns : List Str} {t : Str → List Str} {m u : Str → Nat}
theorem PairOk.swap {r s : Rcd} (h : PairOk ns t m u r s) : PairOk ns t u m r s := ⟨h.1, h.2.elim (fun q => .inr ⟨q.2, q.1⟩) fun q => .inl ⟨q.2, q.1⟩⟩
theorem pair_of (nd : ns.Nodup) (sm : StM ns t m) (tr : ∀ v w x, v ∈ hs ns → w ∈ toldAt ns t v → x ∈ toldAt ns t w → x ∈ toldAt ns t v) (sub : ∀ n ∈ ns, ∀ o ∈ t n, o ∈ ns) {a : Str} {rest : List Str} (h : apOf ns m u = a :: rest) : PairOk ns t m u (r0Of ns) (r1Of ns t m a) :=
  ⟨xr_law nd sm tr sub h, .inl ⟨xr_same, xr_diff h⟩⟩
/-- what ^ and the law answer, where it is no None -/
theorem xr_pair (nd : ns.Nodup) (sm : StM ns t m) (su : StM ns t u) (tr : ∀ v w x, v ∈ hs ns → w ∈ toldAt ns t v → x ∈ toldAt ns t w → x ∈ toldAt ns t v) (sub : ∀ n ∈ ns, ∀ o ∈ t n, o ∈ ns) {H : Hp} {v : V} (h : XrAns ns t m u H v) (ne : v ≠ .non) : ∃ p r s, v = .ref p ∧ PrrAt H p r s ∧ PairOk ns t m u r s := by
  unfold XrAns at h
  cases e1 : apOf ns m u with
  | cons a rest =>
    rw [e1] at h
    obtain ⟨p, rfl, hp⟩ := h
    exact ⟨p, _, _, rfl, hp, pair_of nd sm tr sub e1⟩
  | nil =>
    rw [e1] at h
    dsimp only at h
    cases e2 : apOf ns u m with
    | cons a rest =>
      rw [e2] at h
      obtain ⟨p, rfl, hp⟩ := h
      exact ⟨p, _, _, rfl, hp, (pair_of nd su tr sub e2).swap⟩
    | nil =>
      rw [e2] at h
      exact absurd h ne
theorem XrAns.same {H H' : Hp} {v : V} (h : XrAns ns t m u H v) (s : Same H H') : XrAns ns t m u H' v := by
  unfold XrAns at h ⊢
  cases e1 : apOf ns m u with
  | cons a rest =>
    rw [e1] at h
    obtain ⟨p, rfl, hp⟩ := h
    exact ⟨p, rfl, hp.same s⟩
  | nil =>
    rw [e1] at h
    dsimp only at h ⊢
    cases e2 : apOf ns u m with
    | cons a rest =>
      rw [e2] at h
      obtain ⟨p, rfl, hp⟩ := h
      exact ⟨p, rfl, hp.same s⟩
    | nil =>
      rw [e2] at h
      exact h
theorem xr_non {H : Hp} {v : V} (h : XrAns ns t m u H v) : v = .non ↔ eqB ns m u = true := by
  unfold XrAns at h
  have eqn : apOf ns m u = [] → apOf ns u m = [] → eqB ns m u = true := fun a b => by
    have l1 := of_decide_eq_true (ap_nil.mp a)
    have l2 := of_decide_eq_true (ap_nil.mp b)
    exact decide_eq_true fun n hn => Nat.dvd_antisymm (l2 n hn) (l1 n hn)
  have neq : ∀ {a : Str} {r : List Str}, eqB ns m u = true → apOf ns m u ≠ a :: r := fun e q => by
    obtain ⟨h1, h2⟩ := ap_mem q
    rw [of_decide_eq_true e _ h1] at h2
    exact h2 (Nat.dvd_refl _)
  have neq' : ∀ {a : Str} {r : List Str}, eqB ns m u = true → apOf ns u m ≠ a :: r := fun e q => by
    obtain ⟨h1, h2⟩ := ap_mem q
    rw [of_decide_eq_true e _ h1] at h2
    exact h2 (Nat.dvd_refl _)
  cases e1 : apOf ns m u with
  | cons a rest =>
    rw [e1] at h
    obtain ⟨p, rfl, hp⟩ := h
    exact ⟨fun e => (by cases e), fun e => absurd e1 (neq e)⟩
  | nil =>
    rw [e1] at h
    dsimp only at h
    cases e2 : apOf ns u m with
    | cons a rest =>
      rw [e2] at h
      obtain ⟨p, rfl, hp⟩ := h
      exact ⟨fun e => (by cases e), fun e => absurd e2 (neq' e)⟩
    | nil =>
      rw [e2] at h
      exact ⟨fun _ => eqn e1 e2, fun _ => h⟩
/-- the same answer, as the law's same reads it -/
theorem sm_rec {H : Hp} {a b : Addr} {r : Rcd} (n : Nat) (h1 : RecAt H a r) (h2 : RecAt H b r) (l : r.2.length < 1000) : Sm H (n + 2) (.ref a) (.ref b) := by
  obtain ⟨va, x1, x2⟩ := h1
  obtain ⟨vb, y1, y2⟩ := h2
  refine Or.inr ⟨a, b, [.int r.1, .ref va], [.int r.1, .ref vb], rfl, rfl, rfl, (by show 2 < 1000; decide), fun i w z e1 e2 => ?_, .inr ⟨x1, y1⟩⟩
  match i with
  | 0 => cases e1; cases e2; exact Sm_flat trivial
  | 1 =>
    cases e1; cases e2
    refine Or.inr ⟨va, vb, r.2.map V.int, r.2.map V.int, rfl, rfl, rfl, by rw [List.length_map]; exact l, fun i w z e1 e2 => ?_, .inr ⟨x2, y2⟩⟩
    rw [e1] at e2
    cases e2
    rw [List.getElem?_map] at e1
    obtain ⟨q, _, rfl⟩ := Option.map_eq_some_iff.mp e1
    exact Sm_flat trivial
  | i + 2 => cases e1
theorem sm_prr {H : Hp} {a b : Addr} {r s : Rcd} (n : Nat) (h1 : PrrAt H a r s) (h2 : PrrAt H b r s) (l1 : r.2.length < 1000) (l2 : s.2.length < 1000) : Sm H (n + 3) (.ref a) (.ref b) := by
  obtain ⟨a1, a2, x0, x1, x2⟩ := h1
  obtain ⟨b1, b2, y0, y1, y2⟩ := h2
  refine Or.inr ⟨a, b, [.ref a1, .ref a2], [.ref b1, .ref b2], rfl, rfl, rfl, (by show 2 < 1000; decide), fun i w z e1 e2 => ?_, .inr ⟨x0, y0⟩⟩
  match i with
  | 0 => cases e1; cases e2; exact sm_rec n x1 y1 l1
  | 1 => cases e1; cases e2; exact sm_rec n x2 y2 l2
  | i + 2 => cases e1
theorem sm_xr {H : Hp} {v w : V} (l : ns.length < 1000) (h1 : XrAns ns t m u H v) (h2 : XrAns ns t m u H w) : Sm H 3 v w := by
  unfold XrAns at h1 h2
  cases e1 : apOf ns m u with
  | cons a rest =>
    rw [e1] at h1 h2
    obtain ⟨p, rfl, hp⟩ := h1
    obtain ⟨q, rfl, hq⟩ := h2
    exact sm_prr 0 hp hq (by rw [len0]; exact l) (by rw [len1]; exact l)
  | nil =>
    rw [e1] at h1 h2
    dsimp only at h1 h2
    cases e2 : apOf ns u m with
    | cons a rest =>
      rw [e2] at h1 h2
      obtain ⟨p, rfl, hp⟩ := h1
      obtain ⟨q, rfl, hq⟩ := h2
      exact sm_prr 0 hp hq (by rw [len0]; exact l) (by rw [len1]; exact l)
    | nil =>
      rw [e2] at h1 h2
      rw [h1, h2]
      exact Sm_flat trivial
/-- due or due -/
theorem due_or {K : PySem.W.Frag} {H : Hp} {v : V} (h1 : DueAns ns t m u H v) : ∃ k, TruV K v H k ∧ (k = true → XrAns ns t m u H v) ∧ (k = false → ∀ H' w, DueAns ns t u m H' w → XrAns ns t m u H' w) := by
  unfold DueAns at h1
  unfold XrAns DueAns
  cases e1 : apOf ns m u with
  | cons a rest =>
    rw [e1] at h1
    obtain ⟨p, rfl, q0, q1, hp, r⟩ := h1
    exact ⟨true, .inr (.inl ⟨_, SqT.of hp, rfl⟩), fun _ => ⟨p, rfl, q0, q1, hp, r⟩, fun z => by cases z⟩
  | nil =>
    rw [e1] at h1
    dsimp only at h1
    subst h1
    refine ⟨false, rfl, fun z => (by cases z), fun _ H' w h => ?_⟩
    dsimp only
    cases e2 : apOf ns u m with
    | cons a rest => rw [e2] at h; exact h
    | nil => rw [e2] at h; exact h
theorem at_two {v w x : V} {i : Nat} {G : Nat → V → Prop} (h0 : G 0 v) (h1 : G 1 w) (h : [v, w][i]? = some x) : G i x := by
  match i with
  | 0 => cases h; exact h0
  | 1 => cases h; exact h1
  | i + 2 => cases h
theorem shpIL (l : List Int) : SeqAt.shaped (.list (dInts l)) = true := by
  unfold SeqAt.shaped
  rw [Bool.and_eq_true]
  refine ⟨by simpa [PyData.canLay0] using layI l, decide_eq_true ?_⟩
  simp only [PyData.depth]
  have := depI l
  omega
theorem eqvIL (l m : List Int) : PyData.eqv (.list (dInts l)) (.list (dInts m)) = decide (l = m) := by
  rw [PyData.eqv]
  exact eqvI l m
theorem shpB2 (a b : Bool) : SeqAt.shaped (.list [.bool a, .bool b]) = true := by
  unfold SeqAt.shaped
  rw [Bool.and_eq_true]
  refine ⟨by simp [PyData.canLay0, PyData.canLayAll0], decide_eq_true ?_⟩
  simp only [PyData.depth, PyData.depthAll]
  omega
theorem eqvB2 (a b : Bool) : PyData.eqv (.list [.bool a, .bool b]) (.list [.bool a, .bool b]) = true := by
  cases a <;> cases b <;> simp [PyData.eqv, PyData.eqvAll]
theorem sort01 {l : List Int} (h : l.Perm [0, 1] ∨ l.Perm [1, 0]) (pw : l.Pairwise (· ≤ ·)) : l = [0, 1] := by
  have len : l.length = 2 := h.elim (fun q => q.length_eq) fun q => q.length_eq
  match l, len with
  | [a, b], _ =>
    have m0 : (0 : Int) ∈ [a, b] := h.elim (fun q => q.mem_iff.mpr (by simp)) fun q => q.mem_iff.mpr (by simp)
    have m1 : (1 : Int) ∈ [a, b] := h.elim (fun q => q.mem_iff.mpr (by simp)) fun q => q.mem_iff.mpr (by simp)
    have le : a ≤ b := (List.pairwise_cons.mp pw).1 b (by simp)
    simp only [List.mem_cons, List.not_mem_nil, or_false] at m0 m1
    have : a = 0 ∧ b = 1 := by omega
    rw [this.1, this.2]
end
section
variable {K : PySem.W.Frag} {mg : Str → Option Value} {H : Hp} {x y : Addr} {ns : List Str} {t : Str → List Str} {m u : Str → Nat} {Q : VK} {E : XK}
theorem rd_xor (B : Bk K mg) (a : Sg K H x ns t m) (b : Sg K H y ns t u) (ne : ns ≠ []) (k : ∀ H' v, Same H H' → XrAns ns t m u H' v → Q v H') : rBinOwn K (He.ga K "Stage") (spXo K) E (.ref x) (.ref y) H Q := by
  obtain ⟨kx, dx, a1⟩ := a.o
  obtain ⟨ky, dy, b1⟩ := b.o
  obtain ⟨ax, hx⟩ := a1.x
  exact ⟨x, ax, _, rfl, hx, b1.ty B, x, y, ns, t, m, u, rfl, a, b, ne, k⟩
end
def spPq (K : PySem.W.Frag) : Sp := fun vs H Q _ => ∃ (b kk bg : Addr) (ns : List Str) (R : List (Str × Str)) (za : Nat → Addr) (zz : Nat → List Str), vs = [.ref b, .ref kk, .ref bg] ∧ BkAt H b ns R ∧ Tbl ns R ∧ (∀ n ∈ ns, PyData.strOk n = true) ∧ (∀ o ∈ ns, isName (cd o) = true) ∧ ns ≠ [] ∧ KeysO K H kk ns (toldOf R ns) ∧
  H bg = some (.lst [.ref (za 0), .ref (za 1)]) ∧ (∀ i, i < 2 → H (za i) = some (.lst ((zz i).map V.str)) ∧ (zz i).length ≤ 100 ∧ ∀ z ∈ zz i, FldL ns z) ∧ ∀ H', Same H H' → Q (.bl true) H'
section
variable {P : Program} {w : World} {K : PySem.W.Frag} {mg : Str → Option Value} {base : Heap}
abbrev NPq : List Str := ["_law_book_here", "_law_keyring", "_law_bags", "_law_tables", "_law_one_so", "_law_far_so", "_law_goal", "_law_back", "_law_pair", "_law_marks", "_law_bag", "_law_table", "_law_mark"]
theorem sc_pq : FnScope NPq ["_law_book_here", "_law_keyring", "_law_bags"] (defScope s__law_pair_right) := ⟨rfl, rfl, rfl, by decide +kernel, rfl, by decide +kernel, by decide +kernel⟩
theorem ok_pair6 (B : Bk K mg) : Df P w K mg base CX0 10 "_law_pair_right" ["_law_book_here", "_law_keyring", "_law_bags"] (spPq K) := by
  obtain ⟨fd, F⟩ := B.F_law_pair_right
  obtain ⟨fdM, GM, bM⟩ := (ok_mods (P := P) (w := w) (base := base) B).ex
  have kM := (ok_mods (P := P) (w := w) (base := base) B).kp
  obtain ⟨fdS, GS, bS⟩ := ok_Stage_init (P := P) (w := w) (base := base) B
  obtain ⟨fdX, GX, bX⟩ := ok_xor (P := P) (w := w) (base := base) B
  obtain ⟨fdE, GE, bE⟩ := ok_eqS (P := P) (w := w) (base := base) B
  obtain ⟨fdD, GD, bD⟩ := (ok_due (P := P) (w := w) (base := base) B).ex
  have kD := (ok_due (P := P) (w := w) (base := base) B).kp
  obtain ⟨fdL, GL, bL⟩ := (ok_law_lane (P := P) (w := w) (base := base) B).ex
  have kL := (ok_law_lane (P := P) (w := w) (base := base) B).kp
  obtain ⟨fdI, GI, bI⟩ := (ok_is_row (P := P) (w := w) (base := base) B).ex
  have kI := (ok_is_row (P := P) (w := w) (base := base) B).kp
  obtain ⟨fdQ, GQ, bQ⟩ := (ok_law_same (P := P) (w := w) (base := base) B 4).ex
  have kQ := (ok_law_same (P := P) (w := w) (base := base) B 4).kp
  obtain ⟨fdA, GA, FA⟩ := ok_same (P := P) (w := w) (base := base) B
  have bA : Binds K fdA ["self", "one", "other"] [] := FA.binds fun _ _ _ _ _ _ us hl => match us, hl with | [_, _, _], _ => rfl
  refine ⟨⟨fd, ?_, F.binds fun _ _ _ _ _ _ us hl => match us, hl with | [_, _, _], _ => rfl⟩, B.g_law_pair_right, F.kp⟩
  refine F.ok sc_pq (fun vs H Q E h => ?_) (fun cdv A outer s H vs Q E hr h => ?_)
  · obtain ⟨_, _, _, _, _, _, _, rfl, _⟩ := h
    rfl
  · obtain ⟨b, kk, bg, ns, R, za, zz, rfl, hb, tb, sok, nm, hne, ko, hbg, hz, k⟩ := h
    have hr9 : Room 9 _ := hr
    have hr1 : Room 1 _ := hr.mono (by decide)
    have hr2 : Room 2 _ := hr.mono (by decide)
    have hr3 : Room 3 _ := hr.mono (by decide)
    have hr5 : Room 5 _ := hr.mono (by decide)
    have hr6 : Room 6 _ := hr.mono (by decide)
    have hr7 : Room 7 _ := hr.mono (by decide)
    have hu : _ + 1 < cLine := hu_of hr
    refine ⟨_, pss_cons (ps_cut (ps_setLc (i := 3) (own := [("_law_bag", 10)]) (g := gName 10) (tt := tYes) (te := tCall (spMods K) [] E0 (tCons (tVar 0) (tCons (tVar 10) tNil))) rfl sc_pq.nd rfl rfl (sw_true rfl rfl rfl (by decide +kernel)) (pi_list (pv 2)) (blkOk_by (N := NPq) (sc := defScope s__law_pair_right) (by decide +kernel)) (fun _ _ _ _ _ => pg_name (i := 10) sc_pq.nd rfl (Or.inl rfl)) (fun _ _ _ _ _ => pts_nil)
          (fun _ _ _ _ _ => pe_call GM hr3 rfl B.g_law_mods kM bM .nil pass0 (pa_cons (pv 0) (pa_cons (pv 10) pa_nil)))))
      (pss_cons (ps_cut (ps_asg (pe_lc (own := [("_law_bag", 10)]) (g := gName 10) (tt := tYes) (te := tMake (He.ga K "Stage") (spSI K) [] E0 (tCons (tVar 1) (tCons (tVar 10) tNil))) rfl sc_pq.nd (pi_list (pv 2)) (blkOk_by (N := NPq) (sc := defScope s__law_pair_right) (by decide +kernel)) (fun _ _ _ _ _ => pg_name (i := 10) sc_pq.nd rfl (Or.inl rfl)) (fun _ _ _ _ _ => pts_nil)
          (fun _ _ _ _ _ => pe_make B.mk_Stage GS hr7 rfl B.g_Stage bS .nil pass0 (pa_cons (pv 1) (pa_cons (pv 10) pa_nil)))) (pg_lst rfl (pgs_cons (pg_name (i := 4) sc_pq.nd rfl (.inl rfl)) (pgs_cons (pg_name (i := 5) sc_pq.nd rfl (.inl rfl)) pgs_nil)))))
      (pss_cons (ps_cut (ps_set (i := 6) sc_pq.nd rfl (Or.inl rfl) (pe_orT (pe_call GD hr3 rfl B.g_law_due kD bD .nil pass0 (pa_cons (pv 0) (pa_cons (pe_ix ix_list (pv 3) pe_int (fun _ _ => rfl)) (pa_cons (pe_ix ix_list (pv 3) pe_int (fun _ _ => rfl)) pa_nil)))) (pe_one (pe_call GD hr3 rfl B.g_law_due kD bD .nil pass0 (pa_cons (pv 0) (pa_cons (pe_ix ix_list (pv 3) pe_int (fun _ _ => rfl)) (pa_cons (pe_ix ix_list (pv 3) pe_int (fun _ _ => rfl)) pa_nil))))))))
      (pss_cons (ps_cut (ps_set (i := 7) sc_pq.nd rfl (Or.inl rfl) (pe_orT (pe_call GD hr3 rfl B.g_law_due kD bD .nil pass0 (pa_cons (pv 0) (pa_cons (pe_ix ix_list (pv 3) pe_int (fun _ _ => rfl)) (pa_cons (pe_ix ix_list (pv 3) pe_int (fun _ _ => rfl)) pa_nil)))) (pe_one (pe_call GD hr3 rfl B.g_law_due kD bD .nil pass0 (pa_cons (pv 0) (pa_cons (pe_ix ix_list (pv 3) pe_int (fun _ _ => rfl)) (pa_cons (pe_ix ix_list (pv 3) pe_int (fun _ _ => rfl)) pa_nil))))))))
      (pss_cons (ps_cut (ps_if (pt_not (pt_val (pe_call GQ hr6 rfl B.g_law_same kQ bQ .nil pass0 (pa_cons (pe_lst (pa_cons (pe_op (op_binOwn (E := E0) GX hr7 B.sfst_Stage B.sp_Stage_xor bX pass0) (pv 4) (pv 5)) (pa_cons (pe_op (op_binOwn (E := E0) GX hr7 B.sfst_Stage B.sp_Stage_xor bX pass0) (pv 5) (pv 4)) pa_nil))) (pa_cons (pe_lst (pa_cons (pv 6) (pa_cons (pv 7) pa_nil))) pa_nil))))) (pss_one (ps_ret pe_bl)) pss_nil))
      (pss_cons (ps_if (pt_cmpR op_isN (pv 6) pe_non (by rfl)) (pss_one (ps_ret (pe_and (pe_cmpR (op_eqOwn (E := E0) GE hr2 B.sp_Stage_eq.1 B.sp_Stage_eq.2 bE pass0) (pv 4) (pv 5) (nomark _)) (pe_one (pe_cmpR op_isN (pe_op (op_binOwn (E := E0) GX hr7 B.sfst_Stage B.sp_Stage_xor bX pass0) (pv 4) (pv 4)) pe_non (by rfl)))))) pss_nil)
      (pss_cons (ps_for PassesOwn.never rfl (pi_tup (pe_tup (pa_cons (pv 6) (pa_cons (pv 7) pa_nil)))) (pg_name (i := 8) sc_pq.nd rfl (Or.inr rfl))
        (pss_cons (ps_setLc (i := 9) (own := [("_law_table", 11)]) (g := gName 11) (tt := tYes) (te := tOp (rEqD K) (tCall (spLl K) [] E0 (tCons (tVar 0) (tCons (tVar 11) (tCons (tOp (rIxT K) (tVar 8) (tC (.int 0))) tNil)))) (tCall (spLl K) [] E0 (tCons (tVar 0) (tCons (tVar 11) (tCons (tOp (rIxT K) (tVar 8) (tC (.int 1))) tNil))))) rfl sc_pq.nd rfl rfl (sw_true rfl rfl rfl (by decide +kernel)) (pi_list (pv 3)) (blkOk_by (N := NPq) (sc := defScope s__law_pair_right) (by decide +kernel)) (fun _ _ _ _ _ => pg_name (i := 11) sc_pq.nd rfl (Or.inl rfl)) (fun _ _ _ _ _ => pts_nil)
            (fun _ _ _ _ _ => pe_cmpR (op_eqD hr.units) (pe_call GL hr1 rfl B.g_law_lane kL bL .nil pass0 (pa_cons (pv 0) (pa_cons (pv 11) (pa_cons (pe_ix ix_tup (pv 8) pe_int (fun _ _ => rfl)) pa_nil)))) (pe_call GL hr1 rfl B.g_law_lane kL bL .nil pass0 (pa_cons (pv 0) (pa_cons (pv 11) (pa_cons (pe_ix ix_tup (pv 8) pe_int (fun _ _ => rfl)) pa_nil)))) (nomark _)))
        (pss_cons (ps_if (PW.pt (pw_or (pt_not (pt_val (pe_call GI hr5 rfl B.g_is_row kI bI .nil pass0 (pa_cons (pv 1) (pa_cons (pv 8) pa_nil))))) (pw_or1 (pt_cmpR (op_neD hr.units) (pe_callB cr_sorted (by rfl) B.b_sorted (by decide +kernel) (pa_cons (pe_lc (own := [("_law_mark", 12)]) (g := gName 12) (tt := tYes) (te := tCB (fun xs H Q => (∃ i, xs = [V.int i] ∧ Q (.int i) H) ∨ ∃ k, xs = [V.bl k] ∧ Q (.int (if k then 1 else 0)) H) (tCons (tVar 12) tNil)) rfl sc_pq.nd (pi_list (pv 9)) (blkOk_by (N := NPq) (sc := defScope s__law_pair_right) (by decide +kernel)) (fun _ _ _ _ _ => pg_name (i := 12) sc_pq.nd rfl (Or.inl rfl)) (fun _ _ _ _ _ => pts_nil) (fun _ _ _ _ _ => pe_callTy call_int1 (by rfl) B.b_int (by decide +kernel) (pa_cons (pv 12) pa_nil))) pa_nil)) (pe_lst (pa_cons pe_int (pa_cons pe_int pa_nil))) (nomark _))))) (pss_one (ps_ret pe_bl)) pss_nil)
        (pss_one (ps_if (pt_cmpR (op_neD hr.units) (pe_lst (pa_cons (pe_meth (E := E0) (pv 4) B.cl_Stage B.me_Stage_same GA hr2 bA .nil pass0 (pa_cons (pe_ix ix_tup (pv 8) pe_int (fun _ _ => rfl)) (pa_cons (pe_ix ix_tup (pv 8) pe_int (fun _ _ => rfl)) pa_nil))) (pa_cons (pe_meth (E := E0) (pv 5) B.cl_Stage B.me_Stage_same GA hr2 bA .nil pass0 (pa_cons (pe_ix ix_tup (pv 8) pe_int (fun _ _ => rfl)) (pa_cons (pe_ix ix_tup (pv 8) pe_int (fun _ _ => rfl)) pa_nil))) pa_nil))) (pv 9) (nomark _)) (pss_one (ps_ret pe_bl)) pss_nil)))))
      (pss_one (ps_ret (pe_cmpR (op_neOwn (E := E0) GE hr3 hu B.sp_Stage_eq.1 B.sp_Stage_eq.2 B.ne_Stage B.ty_Stage.2.2.2 bE pass0) (pv 4) (pv 5) (nomark _)))))))))), ?_⟩
    have nd := tb.nd
    have n0 := tb.noh
    have l5 := tb.l5
    have big : (1000 : Nat) < sizeLine := by decide
    have sm : ∀ i, i < 2 → StM ns (toldOf R ns) (closeM ns (toldOf R ns) (joinS (zz i))) := fun i hi => close_ok n0 nm fun z h => ((hz i hi).2.2 z h).ok nm
    have tr := told_tr (R := R) n0
    have tsub : ∀ a ∈ ns, ∀ z ∈ toldOf R ns a, z ∈ ns := fun a _ z h => (told_in.mp h).1
    generalize hmm : (fun i => closeM ns (toldOf R ns) (joinS (zz i))) = mm
    have emm : ∀ i, closeM ns (toldOf R ns) (joinS (zz i)) = mm i := fun i => by rw [← hmm]
    replace sm : ∀ i, i < 2 → StM ns (toldOf R ns) (mm i) := fun i hi => emm i ▸ sm i hi
    refine ⟨fun σ' H' => ∃ (D : Addr) (ds : Nat → Addr), σ' = [some (.ref b), some (.ref kk), some (.ref bg), some (.ref D), none, none, none, none, none, none, none, none, none] ∧ Same H H' ∧ H' D = some (.lst [.ref (ds 0), .ref (ds 1)]) ∧ ∀ j, j < 2 → H' (ds j) = some (.dK (kvG (hs ns) (numV (mm j)))), ?_, ?_⟩
    · refine ⟨_, rfl, bg, rfl, ⟨_, SqL.of hbg⟩, fun D hD => ?_⟩
      refine lc_it (walk_list (xs := [.ref (za 0), .ref (za 1)])) (fun i H' => Same H H' ∧ ∃ ds : Nat → Addr, H' D = some (.lst ((List.range i).map fun j => V.ref (ds j))) ∧ ∀ j, j < i → H' (ds j) = some (.dK (kvG (hs ns) (numV (mm j)))))
        ⟨Same_new hD, fun _ => 0, upd_same, fun j h => absurd h (Nat.not_lt_zero j)⟩ (fun i H' _ p => SqL.of (p.1 _ _ hbg)) (fun i v H1 H2 hi ⟨s1, ds, hD1, hds⟩ yy => ?_) (fun H1 ⟨s1, ds, hD1, hds⟩ => ⟨D, ds, rfl, s1, hD1, hds⟩)
      obtain ⟨rfl, hv⟩ := yy
      have hi : i < 2 := hi
      have ev : v = .ref (za i) := at_two (G := fun i v => v = .ref (za i)) rfl rfl hv
      subst ev
      obtain ⟨z1, z2, z3⟩ := hz i hi
      refine ⟨rfl, iteT (B := ∃ z : Nat, z = 0) ?_⟩
      refine ⟨_, rfl, _, rfl, b, za i, ns, zz i, R, rfl, hb.same s1, tb, nm, SqL.of (s1 _ _ z1), z2, z3, fun H3 d s3 hd => ?_⟩
      rw [emm] at hd
      have hD3 := s3 _ _ hD1
      refine ⟨_, hD3, by rw [List.length_map, List.length_range]; omega, Same_upd (s1.trans s3) hD, fun j => if j = i then d else ds j, ?_, fun j hj => ?_⟩
      · rw [upd_same, List.range_succ, List.map_append]
        refine congrArg some (congrArg HO.lst (congr (congrArg _ (List.map_congr_left fun j hj => ?_)) ?_))
        · show V.ref (ds j) = V.ref (if j = i then d else ds j)
          rw [if_neg (Nat.ne_of_lt (List.mem_range.mp hj))]
        · show [V.ref d] = [V.ref (if i = i then d else ds i)]
          rw [if_pos rfl]
      · show (upd H3 D _) (if j = i then d else ds j) = _
        by_cases e : j = i
        · rw [if_pos e, upd_ne (ne_of hd hD3 (by intro z; cases z)), e]
          exact hd
        · rw [if_neg e]
          have h := s3 _ _ (hds j (by omega))
          rw [upd_ne (ne_of h hD3 (by intro z; cases z))]
          exact h
    rintro σ1 H1 ⟨D1, ds, rfl, s1, hD1, hds⟩
    refine ⟨fun σ' H' => ∃ (x y : Addr), σ' = [some (.ref b), some (.ref kk), some (.ref bg), some (.ref D1), some (.ref x), some (.ref y), none, none, none, none, none, none, none] ∧ Same H1 H' ∧ Sg K H' x ns (toldOf R ns) (mm 0) ∧ Sg K H' y ns (toldOf R ns) (mm 1), ?_, ?_⟩
    · refine ⟨_, rfl, bg, rfl, ⟨_, SqL.of (s1 _ _ hbg)⟩, fun D hD => ?_⟩
      refine lc_it (walk_list (xs := [.ref (za 0), .ref (za 1)])) (fun i H' => Same H1 H' ∧ ∃ xs : Nat → Addr, H' D = some (.lst ((List.range i).map fun j => V.ref (xs j))) ∧ ∀ j, j < i → Sg K H' (xs j) ns (toldOf R ns) (mm j))
        ⟨Same_new hD, fun _ => 0, upd_same, fun j h => absurd h (Nat.not_lt_zero j)⟩ (fun i H' _ p => SqL.of (p.1 _ _ (s1 _ _ hbg))) (fun i v H2 H3 hi ⟨s2, xs, hD2, hxs⟩ yy => ?_) (fun H2 ⟨s2, xs, hD2, hxs⟩ => ⟨D, _, rfl, SqL.of hD2, rfl, _, _, rfl, _, _, rfl, rfl, xs 0, xs 1, rfl, s2, hxs 0 (show 0 < 2 by decide), hxs 1 (show 1 < 2 by decide)⟩)
      obtain ⟨rfl, hv⟩ := yy
      have hi : i < 2 := hi
      have ev : v = .ref (za i) := at_two (G := fun i v => v = .ref (za i)) rfl rfl hv
      subst ev
      obtain ⟨z1, z2, z3⟩ := hz i hi
      have s12 := s1.trans s2
      refine ⟨rfl, iteT (B := ∃ z : Nat, z = 0) ?_⟩
      refine ⟨_, rfl, _, rfl, fun x dx nx ndx nex => mk_st (ko.same s12) n0 (.inl (SqL.of (s12 _ _ z1))) z2 (fun z h => (z3 z h).ok nm) nx ndx fun H4 d s4 so => ⟨rfl, ?_⟩⟩
      rw [emm] at so
      have hD4 := s4 _ _ hD2
      have kD : ∀ {o : HO} b' o', b' ≠ D → H4 b' = some o' → (upd H4 D o) b' = some o' := fun b' o' nb q => by rw [upd_ne nb]; exact q
      refine ⟨_, hD4, by rw [List.length_map, List.length_range]; omega, Same_upd (s2.trans s4) hD, fun j => if j = i then x else xs j, ?_, fun j hj => ?_⟩
      · rw [upd_same, List.range_succ, List.map_append]
        refine congrArg some (congrArg HO.lst (congr (congrArg _ (List.map_congr_left fun j hj => ?_)) ?_))
        · show V.ref (xs j) = V.ref (if j = i then x else xs j)
          rw [if_neg (Nat.ne_of_lt (List.mem_range.mp hj))]
        · show [V.ref x] = [V.ref (if i = i then x else xs i)]
          rw [if_pos rfl]
      · show Sg K (upd H4 D _) (if j = i then x else xs j) ns _ _
        by_cases e : j = i
        · rw [if_pos e, e]
          exact Sg.keepL ⟨⟨_, d, so⟩, sm i hi⟩ hD4 kD
        · rw [if_neg e]
          exact Sg.keepL ((hxs j (by omega)).same s4) hD4 kD
    rintro σ2 H2 ⟨x, y, rfl, s2, gx, gy⟩
    have s02 := s1.trans s2
    have hD2 := s2 _ _ hD1
    have hds2 : ∀ j, j < 2 → H2 (ds j) = some (.dK (kvG (hs ns) (numV (mm j)))) := fun j hj => s2 _ _ (hds j hj)
    have d0 := hds2 0 (by decide)
    have d1 := hds2 1 (by decide)
    have sm0 := sm 0 (by decide)
    have sm1 := sm 1 (by decide)
    refine ⟨fun σ' H' => ∃ g, σ' = [some (.ref b), some (.ref kk), some (.ref bg), some (.ref D1), some (.ref x), some (.ref y), some g, none, none, none, none, none, none] ∧ Same H2 H' ∧ XrAns ns (toldOf R ns) (mm 0) (mm 1) H' g, ?_, ?_⟩
    · refine ⟨_, rfl, _, rfl, D1, _, 0, .ref (ds 0), rfl, rfl, SqL.of hD2, atI_nat (j := 0) rfl, _, rfl, D1, _, 1, .ref (ds 1), rfl, rfl, SqL.of hD2, atI_nat (j := 1) rfl, b, ds 0, ds 1, ns, R, mm 0, mm 1, rfl, hb.same s02, tb, sok, sm0, sm1, d0, d1, fun H3 v s3 dv => ?_⟩
      obtain ⟨kb, tv, yes, no⟩ := due_or (K := K) dv
      refine ⟨kb, tv, two (fun c => ⟨v, rfl, s3, yes c⟩) (fun c => ?_)⟩
      have hD3 := s3 _ _ hD2
      exact ⟨_, rfl, _, rfl, D1, _, 1, .ref (ds 1), rfl, rfl, SqL.of hD3, atI_nat (j := 1) rfl, _, rfl, D1, _, 0, .ref (ds 0), rfl, rfl, SqL.of hD3, atI_nat (j := 0) rfl, b, ds 1, ds 0, ns, R, mm 1, mm 0, rfl, hb.same (s02.trans s3), tb, sok, sm1, sm0, s3 _ _ d1, s3 _ _ d0, fun H4 w s4 dw => ⟨w, rfl, s3.trans s4, no c _ _ dw⟩⟩
    rintro σ3 H3 ⟨g, rfl, s3, xg⟩
    have s03 := s02.trans s3
    have hD3 := s3 _ _ hD2
    refine ⟨fun σ' H' => ∃ bk, σ' = [some (.ref b), some (.ref kk), some (.ref bg), some (.ref D1), some (.ref x), some (.ref y), some g, some bk, none, none, none, none, none] ∧ Same H3 H' ∧ XrAns ns (toldOf R ns) (mm 1) (mm 0) H' bk, ?_, ?_⟩
    · refine ⟨_, rfl, _, rfl, D1, _, 1, .ref (ds 1), rfl, rfl, SqL.of hD3, atI_nat (j := 1) rfl, _, rfl, D1, _, 0, .ref (ds 0), rfl, rfl, SqL.of hD3, atI_nat (j := 0) rfl, b, ds 1, ds 0, ns, R, mm 1, mm 0, rfl, hb.same s03, tb, sok, sm1, sm0, s3 _ _ d1, s3 _ _ d0, fun H4 v s4 dv => ?_⟩
      obtain ⟨kb, tv, yes, no⟩ := due_or (K := K) dv
      refine ⟨kb, tv, two (fun c => ⟨v, rfl, s4, yes c⟩) (fun c => ?_)⟩
      have hD4 := s4 _ _ hD3
      exact ⟨_, rfl, _, rfl, D1, _, 0, .ref (ds 0), rfl, rfl, SqL.of hD4, atI_nat (j := 0) rfl, _, rfl, D1, _, 1, .ref (ds 1), rfl, rfl, SqL.of hD4, atI_nat (j := 1) rfl, b, ds 0, ds 1, ns, R, mm 0, mm 1, rfl, hb.same (s03.trans s4), tb, sok, sm0, sm1, s4 _ _ (s3 _ _ d0), s4 _ _ (s3 _ _ d1), fun H5 w s5 dw => ⟨w, rfl, s4.trans s5, no c _ _ dw⟩⟩
    rintro σ4 H4 ⟨bk, rfl, s4, xb⟩
    have s24 := s3.trans s4
    refine ⟨fun σ' H' => σ' = [some (.ref b), some (.ref kk), some (.ref bg), some (.ref D1), some (.ref x), some (.ref y), some g, some bk, none, none, none, none, none] ∧ Same H4 H', ?_, ?_⟩
    · refine ⟨_, rfl, _, rfl, rd_xor B (gx.same s24) (gy.same s24) hne fun H5 v1 q5 x1 => ⟨_, rfl, _, rfl, rd_xor B (gy.same (s24.trans q5)) (gx.same (s24.trans q5)) hne fun H6 v2 q6 x2 => ?_⟩⟩
      refine ⟨(by show 2 ≤ sizeLine; decide), fun L1 nL1 => ⟨_, rfl, _, rfl, (by show 2 ≤ sizeLine; decide), fun L2 nL2 => ?_⟩⟩
      have q7 := Same_new (o := HO.lst [v1, v2]) nL1
      have q8 := Same_new (o := HO.lst [g, bk]) nL2
      have l1000 : ns.length < 1000 := by omega
      refine ⟨.ref L1, .ref L2, rfl, Or.inr ⟨L1, L2, [v1, v2], [g, bk], rfl, rfl, rfl, (by show 2 < 1000; decide), fun i w z e1 e2 => ?_, .inl ⟨q8 _ _ upd_same, upd_same⟩⟩, fun H7 q9 => ⟨_, rfl, iteF ⟨rfl, (((q5.trans q6).trans q7).trans q8).trans q9⟩⟩⟩
      have qq := q7.trans q8
      match i with
      | 0 => cases e1; cases e2; exact sm_xr l1000 ((x1.same q6).same qq) (((xg.same s4).same (q5.trans q6)).same qq)
      | 1 => cases e1; cases e2; exact sm_xr l1000 (x2.same qq) ((xb.same (q5.trans q6)).same qq)
      | i + 2 => cases e1
    rintro σ5 H5 ⟨rfl, s5⟩
    have s25 := s24.trans s5
    have s05 := s02.trans s25
    replace gx := gx.same s25
    replace gy := gy.same s25
    replace xg := xg.same (s4.trans s5)
    replace xb := xb.same s5
    replace hD3 := s4.trans s5 _ _ hD3
    replace hds2 : ∀ j, j < 2 → H5 (ds j) = some (.dK (kvG (hs ns) (numV (mm j)))) := fun j hj => s25 _ _ (hds2 j hj)
    replace hb := hb.same s05
    replace ko := ko.same s05
    replace k : ∀ H', Same H5 H' → Q (.bl true) H' := fun H' s => k H' (s05.trans s)
    refine ⟨_, rfl, rfl, _, rfl, two (fun c => ?_) (fun c => ?_)⟩
    · have e := (xr_non xg).mp (of_decide_eq_true c)
      refine ⟨_, rfl, _, rfl, rd_eq B gx gy ⟨_, rfl, ?_⟩⟩
      rw [e]
      refine iteT ⟨_, rfl, _, rfl, rd_xor B gx gx hne fun H6 v q6 x6 => ⟨rfl, ?_⟩⟩
      have ev : v = .non := (xr_non x6).mpr (decide_eq_true fun _ _ => rfl)
      rw [decide_eq_true ev]
      exact k _ q6
    · have gne : g ≠ .non := of_decide_eq_false c
      have eqf : eqB ns (mm 0) (mm 1) = false := by
        cases e : eqB ns (mm 0) (mm 1) with
        | false => rfl
        | true => exact absurd ((xr_non xg).mpr e) gne
      have bne : bk ≠ .non := fun e => by
        have e2 := of_decide_eq_true ((xr_non xb).mp e)
        have e3 : eqB ns (mm 0) (mm 1) = true := decide_eq_true fun n hn => (e2 n hn).symm
        rw [eqf] at e3
        cases e3
      have prs : ∀ (i : Nat) (v : V), [g, bk][i]? = some v → ∃ p r s, v = .ref p ∧ PrrAt H5 p r s ∧ PairOk ns (toldOf R ns) (mm 0) (mm 1) r s := fun i v h => by
        refine at_two (G := fun _ v => ∃ p r s, v = .ref p ∧ PrrAt H5 p r s ∧ PairOk ns (toldOf R ns) (mm 0) (mm 1) r s) ?_ ?_ h
        · exact xr_pair nd sm0 sm1 tr tsub xg gne
        · obtain ⟨p, r, s, e, h1, h2⟩ := xr_pair nd sm1 sm0 tr tsub xb bne
          exact ⟨p, r, s, e, h1, h2.swap⟩
      refine ⟨_, rfl, _, rfl, (by show 2 ≤ sizeLine; decide), fun T nT => ?_⟩
      have sT := Same_new (o := HO.tup [g, bk]) nT
      refine ⟨T, rfl, ⟨_, SqT.of upd_same⟩, ?_⟩
      refine for_it (walk_tup (xs := [g, bk])) (fun i σ H' => ∃ v8 v9 : Option V, σ = [some (.ref b), some (.ref kk), some (.ref bg), some (.ref D1), some (.ref x), some (.ref y), some g, some bk, v8, v9, none, none, none] ∧ Same (upd H5 T (.tup [g, bk])) H')
        ⟨_, _, rfl, Same.refl _⟩ (fun i σ H' _ ⟨_, _, _, s'⟩ => SqT.of (s' _ _ upd_same)) (fun i v σ H6 H7 hi ⟨v8, v9, e, s6⟩ yy => ?_) (fun σ H6 ⟨v8, v9, e, s6⟩ => ?_)
      · obtain ⟨rfl, hv⟩ := yy
        subst e
        obtain ⟨p, r, s', rfl, pr, lawr, alt⟩ := prs i v hv
        have s56 := sT.trans s6
        obtain ⟨q0, q1, hp, rq0, rq1⟩ := pr.same s56
        have lr := (lawr.ok r (by simp)).2
        have ls := (lawr.ok s' (by simp)).2
        have hD6 := s56 _ _ hD3
        refine ⟨_, rfl, D1, rfl, ⟨_, SqL.of hD6⟩, fun D9 hD9 => ?_⟩
        refine lc_fm (walk_list (xs := [.ref (ds 0), .ref (ds 1)])) (fun i => some (.bl (decide (laneOf ns (mm i) r = laneOf ns (mm i) s')))) hD9 (by show 2 ≤ sizeLine; decide) (fun H' s' => SqL.of (s' _ _ hD6)) (fun i v H8 H9 Kt Kf hi s8 yy kt kf => ?_) (fun H8 s8 hD8 => ?_)
        · obtain ⟨rfl, hv⟩ := yy
          have hi : i < 2 := hi
          have ev : v = .ref (ds i) := at_two (G := fun i v => v = .ref (ds i)) rfl rfl hv
          subst ev
          have s58 := s56.trans s8
          refine ⟨rfl, iteT (B := Kf H9) ?_⟩
          refine ⟨_, rfl, _, rfl, _, rfl, p, _, 0, .ref q0, rfl, rfl, SqT.of (s8 _ _ hp), rfl, b, ds i, q0, ns, R, mm i, r, rfl, hb.same s58, l5, s58 _ _ (hds2 i hi), rq0.same s8, lr, fun H10 p1 s10 hp1 => ?_⟩
          have s510 := s58.trans s10
          refine ⟨_, rfl, _, rfl, _, rfl, p, _, 1, .ref q1, rfl, rfl, SqT.of (s10 _ _ (s8 _ _ hp)), rfl, b, ds i, q1, ns, R, mm i, s', rfl, hb.same s510, l5, s510 _ _ (hds2 i hi), (rq1.same s8).same s10, ls, fun H11 p2 s11 hp2 => ?_⟩
          refine ⟨_, _, dpT (s11 _ _ hp1), dpT hp2, shpT _, shpT _, ?_⟩
          rw [eqvT]
          exact kt _ _ rfl (s10.trans s11)
        have hD8 : H8 D9 = some (.lst [.bl (decide (laneOf ns (mm 0) r = laneOf ns (mm 0) s')), .bl (decide (laneOf ns (mm 1) r = laneOf ns (mm 1) s'))]) := hD8
        have s58 := s56.trans s8
        have hp8 := s8 _ _ hp
        refine ⟨_, rfl, _, rfl, kk, p, ns, toldOf R ns, [q0, q1], [r, s'], rfl, ko.same s58, hp8, .cons (rq0.same s8) (.cons (rq1.same s8) .nil), (by show 2 ≤ 1000; decide), lawr, fun H9 s9 => ⟨_, rfl, iteF ?_⟩⟩
        have hD99 := s9 _ _ hD8
        refine ⟨_, rfl, D9, rfl, ⟨_, SqL.of hD99⟩, fun D10 hD10 => ?_⟩
        refine lc_fm (walk_list (xs := [.bl (decide (laneOf ns (mm 0) r = laneOf ns (mm 0) s')), .bl (decide (laneOf ns (mm 1) r = laneOf ns (mm 1) s'))])) (fun i => some (.int (if decide (laneOf ns (mm i) r = laneOf ns (mm i) s') = true then 1 else 0))) hD10 (by show 2 ≤ sizeLine; decide) (fun H' s' => SqL.of (s' _ _ hD99)) (fun i v H10 H11 Kt Kf hi s10 yy kt kf => ?_) (fun H10 s10 hD11 => ?_)
        · obtain ⟨rfl, hv⟩ := yy
          have ev : v = .bl (decide (laneOf ns (mm i) r = laneOf ns (mm i) s')) := at_two (G := fun i v => v = .bl (decide (laneOf ns (mm i) r = laneOf ns (mm i) s'))) rfl rfl hv
          subst ev
          exact ⟨rfl, iteT (B := Kf H11) ⟨_, rfl, .inr ⟨_, rfl, kt _ _ rfl (Same.refl _)⟩⟩⟩
        have hD11 : H10 D10 = some (.lst ([(if decide (laneOf ns (mm 0) r = laneOf ns (mm 0) s') = true then (1 : Int) else 0), if decide (laneOf ns (mm 1) r = laneOf ns (mm 1) s') = true then 1 else 0].map V.int)) := hD11
        refine ⟨D10, _, rfl, SqL.of hD11, (by show 2 < 64; decide), fun so sp perm pw nsp => ?_⟩
        have so01 : so = [0, 1] := by
          refine sort01 ?_ pw
          rcases alt with ⟨h1, h2⟩ | ⟨h1, h2⟩
          · rw [if_pos (decide_eq_true h1), if_neg (by rw [decide_eq_false h2]; exact Bool.false_ne_true)] at perm
            exact .inr perm
          · rw [if_neg (by rw [decide_eq_false h1]; exact Bool.false_ne_true), if_pos (decide_eq_true h2)] at perm
            exact .inl perm
        subst so01
        have s11 := Same_new (o := HO.lst (([0, 1] : List Int).map V.int)) nsp
        refine ⟨(by show 2 ≤ sizeLine; decide), fun L nL => ?_⟩
        have s12 := Same_new (o := HO.lst [V.int 0, V.int 1]) nL
        refine ⟨.list (dInts [0, 1]), .list (dInts [0, 1]), .lst (SqL.of (s12 _ _ upd_same)) (dpI [0, 1]), .lst (SqL.of upd_same) (dpI [0, 1]), shpIL _, shpIL _, _, rfl, ?_⟩
        rw [eqvIL, decide_eq_true rfl]
        refine iteF ?_
        have s812 := ((s9.trans s10).trans s11).trans s12
        have s512 := s58.trans s812
        obtain ⟨kx, dx, ox⟩ := (gx.same s512).o
        obtain ⟨ax, hx⟩ := ox.x
        refine ⟨_, rfl, x, ax, _, rfl, hx, rfl, _, rfl, p, _, 0, .ref q0, rfl, rfl, SqT.of (s812 _ _ hp8), rfl, _, rfl, p, _, 1, .ref q1, rfl, rfl, SqT.of (s812 _ _ hp8), rfl, x, q0, q1, kx, dx, ns, toldOf R ns, mm 0, r, s', rfl, ox, (rq0.same s8).same s812, (rq1.same s8).same s812, lr, ls, fun H13 s13 => ?_⟩
        have s513 := s512.trans s13
        have s813 := s812.trans s13
        obtain ⟨ky, dy, oy⟩ := (gy.same s513).o
        obtain ⟨ay, hy⟩ := oy.x
        refine ⟨_, rfl, y, ay, _, rfl, hy, rfl, _, rfl, p, _, 0, .ref q0, rfl, rfl, SqT.of (s813 _ _ hp8), rfl, _, rfl, p, _, 1, .ref q1, rfl, rfl, SqT.of (s813 _ _ hp8), rfl, y, q0, q1, ky, dy, ns, toldOf R ns, mm 1, r, s', rfl, oy, (rq0.same s8).same s813, (rq1.same s8).same s813, lr, ls, fun H14 s14 => ?_⟩
        refine ⟨(by show 2 ≤ sizeLine; decide), fun L2 nL2 => ?_⟩
        have s15 := Same_new (o := HO.lst [V.bl (decide (laneOf ns (mm 0) r = laneOf ns (mm 0) s')), V.bl (decide (laneOf ns (mm 1) r = laneOf ns (mm 1) s'))]) nL2
        have s915 := (((s10.trans s11).trans s12).trans s13).trans (s14.trans s15)
        refine ⟨_, rfl, .list [.bool _, .bool _], .list [.bool _, .bool _], .lst (SqL.of upd_same) (.cons (.bl _) (.cons (.bl _) .nil)), .lst (SqL.of (s915 _ _ hD99)) (.cons (.bl _) (.cons (.bl _) .nil)), shpB2 _ _, shpB2 _ _, _, rfl, ?_⟩
        rw [eqvB2]
        exact iteF ⟨_, _, rfl, ((s6.trans s8).trans s9).trans s915⟩
      · subst e
        have s56 := sT.trans s6
        refine ⟨_, rfl, _, rfl, rd_ne B (gx.same s56) (gy.same s56) ?_⟩
        rw [eqf]
        exact k _ s56
end
end Jd
namespace Jd
open PySem PySem.Spec PyProof.Rows L2
/-! ### _law_within_right -/
def forBody : Stmt → List Stmt
  | .For _ _ b _ _ => b
  | _ => []
def ifTest : Stmt → Expr
  | .If c _ _ _ => c
  | _ => .Name "" ⟨0, 0, 0, 0⟩
def cmpLeft : Expr → Expr
  | .Compare e _ _ _ => e
  | _ => .Name "" ⟨0, 0, 0, 0⟩
def callArg : Expr → Expr
  | .Call _ [e] _ _ => e
  | _ => .Name "" ⟨0, 0, 0, 0⟩
def andSnd : List Expr → Expr
  | [.BoolOp _ [_, e] _] => e
  | _ => .Name "" ⟨0, 0, 0, 0⟩
abbrev wiLc : Expr := callArg (cmpLeft (ifTest (atSt 0 (forBody (atSt 2 (defBody s__law_within_right))))))
theorem BkAt.keep {H H' : Hp} {u b : Addr} {ns : List Str} {R : List (Str × Str)} {xs : List V} (h : BkAt H b ns R) (hu : H u = some (.lst xs)) (k : Keep u H H') : BkAt H' b ns R := by
  obtain ⟨f, g, qs, h1, h2, h3, h4⟩ := h
  exact ⟨f, g, qs, k _ _ (ne_of h1 hu (by intro z; cases z)) h1, k _ _ (ne_of h2 hu (by intro z; cases z)) h2, k _ _ (ne_of h3 hu (by intro z; cases z)) h3, k.pr hu h4⟩
theorem fm_count {l : List (List Int × List Rcd)} {p : List Int × List Rcd → Bool} {w : Nat → V} : ((List.range l.length).filterMap fun j => (l[j]?).bind fun q => if p q = true then some (w j) else none).length = (l.filter p).length := by
  have key : ∀ k, k ≤ l.length → ((List.range k).filterMap fun j => (l[j]?).bind fun q => if p q = true then some (w j) else none).length = ((l.take k).filter p).length := by
    intro k
    induction k with
    | zero => intro _; rfl
    | succ k ih =>
      intro hk
      have e : l[k]? = some l[k] := List.getElem?_eq_getElem hk
      rw [fm_step, List.length_append, ih (Nat.le_of_lt hk), List.take_add_one, e, List.filter_append, List.length_append]
      congr 1
      cases c : p l[k] <;> simp [c]
  have := key l.length (Nat.le_refl _)
  rw [List.take_length] at this
  exact this
def spWi (K : PySem.W.Frag) : Sp := fun vs H Q _ => ∃ (u b kk lo hi : Addr) (ns : List Str) (R : List (Str × Str)) (m v : Str → Nat) (N : Nat), vs = [.ref u, .ref b, .ref kk, .ref lo, .ref hi] ∧ Urn H u N ∧ N < 70000 ∧ BkAt H b ns R ∧ Tbl ns R ∧ (∀ n ∈ ns, PyData.strOk n = true) ∧ KeysO K H kk ns (toldOf R ns) ∧
  Sg K H lo ns (toldOf R ns) m ∧ Sg K H hi ns (toldOf R ns) v ∧ leB ns m v = true ∧ ∀ H', Keep u H H' → Urn H' u (N + 100) → Q (.bl true) H'
section
variable {P : Program} {w : World} {K : PySem.W.Frag} {mg : Str → Option Value} {base : Heap}
abbrev NWi : List Str := ["_law_urn", "_law_book_here", "_law_keyring", "_law_low", "_law_high", "_law_log_here", "_law_wide", "_law_pile", "_law_one_so", "_law_entry"]
theorem sc_wi : FnScope NWi ["_law_urn", "_law_book_here", "_law_keyring", "_law_low", "_law_high"] (defScope s__law_within_right) := ⟨rfl, rfl, rfl, by decide +kernel, rfl, by decide +kernel, by decide +kernel⟩
theorem ok_within (B : Bk K mg) : Df P w K mg base CX0 6 "_law_within_right" ["_law_urn", "_law_book_here", "_law_keyring", "_law_low", "_law_high"] (spWi K) := by
  obtain ⟨fd, F⟩ := B.F_law_within_right
  obtain ⟨fdG, GG, bG⟩ := (ok_log (P := P) (w := w) (base := base) B).ex
  have kG := (ok_log (P := P) (w := w) (base := base) B).kp
  obtain ⟨fdK, GK, bK⟩ := (ok_law_take (P := P) (w := w) (base := base) B).ex
  have kK := (ok_law_take (P := P) (w := w) (base := base) B).kp
  obtain ⟨fdL, GL, bL⟩ := (ok_lanes (P := P) (w := w) (base := base) B).ex
  have kL := (ok_lanes (P := P) (w := w) (base := base) B).kp
  obtain ⟨fdI, GI, bI⟩ := (ok_is_row (P := P) (w := w) (base := base) B).ex
  have kI := (ok_is_row (P := P) (w := w) (base := base) B).kp
  refine ⟨⟨fd, ?_, F.binds fun _ _ _ _ _ _ us hl => match us, hl with | [_, _, _, _, _], _ => rfl⟩, B.g_law_within_right, F.kp⟩
  refine F.ok sc_wi (fun vs H Q E h => ?_) (fun cdv A outer s H vs Q E hr h => ?_)
  · obtain ⟨_, _, _, _, _, _, _, _, _, _, rfl, _⟩ := h
    rfl
  · obtain ⟨u, b, kk, lo, hi, ns, R, m, v, N, rfl, ur, lN, hb, tb, sok, ko, gl, gh, le, k⟩ := h
    have hr1 : Room 1 _ := hr.mono (by decide)
    have hr3 : Room 3 _ := hr.mono (by decide)
    have hr5 : Room 5 _ := hr
    have hu65 : (A.deeper (envOfC "_law_within_right" (defScope s__law_within_right) s.heap.objs.size (He.ga K "_law_within_right") cdv)).units + 65 < cLine := by
      have := hr.un
      omega
    have inner := fun (s' : Shared) (H' : Hp) (C : Addr) (cl : List (Str × Addr)) (fp : List Addr) => (show PTs ((cxOf CX0 P w K mg base NWi "_law_within_right" (defScope s__law_within_right) (He.ga K "_law_within_right") cdv A outer s H E).nox.blk s' H' (lcScope wiLc) (compEnvC (lcScope wiLc) cl C (cxOf CX0 P w K mg base NWi "_law_within_right" (defScope s__law_within_right) (He.ga K "_law_within_right") cdv A outer s H E).nox.env) fp) (lcIfs wiLc)
        (tAnd (tTest (tOp (rInT K) (tOp (rIxT K) (tVar 7) (tC (.int 0))) (tVar 8))) (tB (tCB (rAll K) (tCons (tLc (iTup K (tVar 7)) (gName 9) tYes (tOp (rInT K) (tVar 9) (tVar 8)) [9]) tNil)))) from
      pts_one (PW.pt (pw_and (pt_cmpR (op_inT hu65) (pe_ix ix_tup (pv 7) pe_int (fun _ _ => rfl)) (pv 8) (by rfl)) (pw_and1 (pt_val (pe_callB (cr_all rfl) (by rfl) B.b_all (by decide +kernel) (pa_cons
        (pe_lc (own := [("_law_entry", 9)]) (g := gName 9) (tt := tYes) (te := tOp (rInT K) (tVar 9) (tVar 8)) rfl sc_wi.nd (pi_tup (pv 7)) (blkOk_by (N := NWi) (sc := relS (lcScope wiLc) (defScope s__law_within_right)) (scope := lcScope (callArg (andSnd (lcIfs wiLc)))) (own := [("_law_entry", 9)]) (by decide +kernel)) (fun _ _ _ _ _ => pg_name (i := 9) sc_wi.nd rfl (Or.inl rfl)) (fun _ _ _ _ _ => pts_nil) (fun _ _ _ _ _ => pe_cmpR (op_inT hu65) (pv 9) (pv 8) (by rfl))) pa_nil)))))))
    refine ⟨_, pss_cons (ps_set (i := 5) sc_wi.nd rfl (Or.inl rfl) (pe_call GG hr3 rfl B.g_law_log kG bG .nil pass0 (pa_cons (pv 0) (pa_cons (pv 1) (pa_cons (pe_op op_add pe_int (pe_call GK hr1 rfl B.g_law_take kK bK .nil pass0 (pa_cons (pv 0) (pa_cons pe_int pa_nil)))) (pa_cons (pe_op op_add pe_int (pe_call GK hr1 rfl B.g_law_take kK bK .nil pass0 (pa_cons (pv 0) (pa_cons pe_int pa_nil)))) pa_nil))))))
      (pss_cons (ps_set (i := 6) sc_wi.nd rfl (Or.inl rfl) (pe_call GL hr3 rfl B.g_lanes kL bL .nil pass0 (pa_cons (pv 3) (pa_cons (pv 5) pa_nil))))
      (pss_cons (ps_for PassesOwn.never rfl (pi_list (pe_call GL hr3 rfl B.g_lanes kL bL .nil pass0 (pa_cons (pv 4) (pa_cons (pv 5) pa_nil)))) (pg_name (i := 7) sc_wi.nd rfl (Or.inr rfl))
        (pss_one (ps_if (pt_cmpR op_ne (pe_callB call_len (by rfl) B.b_len (by decide +kernel) (pa_cons (pe_lc (own := [("_law_one_so", 8)]) (g := gName 8) (te := tVar 8) rfl sc_wi.nd (pi_list (pv 6)) (blkOk_by (N := NWi) (sc := defScope s__law_within_right) (by decide +kernel)) (fun _ _ _ _ _ => pg_name (i := 8) sc_wi.nd rfl (Or.inr rfl)) inner (fun _ _ _ _ _ => pv 8)) pa_nil)) pe_int (nomark _)) (pss_one (ps_ret pe_bl)) pss_nil)))
      (pss_one (ps_ret (pe_call GI hr5 rfl B.g_is_row kI bI .nil pass0 (pa_cons (pv 2) (pa_cons (pv 5) pa_nil))))))), ?_⟩
    have l5 := tb.l5
    have big : (1000 : Nat) < sizeLine := by decide
    have lst : ∀ {H' n}, Urn H' u n → ∃ xs, H' u = some (.lst xs) := fun h => h.at_lst
    refine ⟨_, rfl, _, rfl, _, rfl, u, 8, N, rfl, ur, by omega, by decide, by decide, fun r1 H1 r10 r11 ur1 k1 => ?_⟩
    refine ⟨_, _, rfl, rfl, ?_⟩
    refine ⟨_, rfl, u, 4, N + 1, rfl, ur1, by omega, by decide, by decide, fun r2 H2 r20 r21 ur2 k2 => ?_⟩
    refine ⟨_, _, rfl, rfl, ?_⟩
    obtain ⟨a1, rfl⟩ := Int.eq_ofNat_of_zero_le r10
    obtain ⟨x0, hx0⟩ := ur.at_lst
    have k02 := k1.trans k2
    refine ⟨u, b, ns, R, N + 2, 1 + a1, 1 + r2, ?_, ur2, by omega, hb.keep hx0 k02, tb, sok, by omega, by omega, by omega, fun H3 lg rs row k3 ur3 hlg hrow law lrow => ?_⟩
    · show [V.ref u, V.ref b, V.int (1 + (a1 : Int)), V.int (1 + r2)] = [V.ref u, V.ref b, V.int ((1 + a1 : Nat) : Int), V.int (1 + r2)]
      rw [show (1 + (a1 : Int)) = ((1 + a1 : Nat) : Int) by omega]
    have k03 := k02.trans k3
    have ko3 := ko.keep hx0 k03
    have gl3 := gl.keepL hx0 k03
    have gh3 := gh.keepL hx0 k03
    have lens : ∀ r ∈ row, r.2.length = ns.length := fun r hr' => (law.ok r hr').2
    have l1000 : row.length ≤ 1000 := by omega
    obtain ⟨kl, dl, ol⟩ := gl3.o
    refine ⟨_, rfl, _, rfl, lo, lg, kl, dl, ns, toldOf R ns, m, rs, row, rfl, ol, hlg, hrow, l1000, lens, fun H4 L1 ts1 G1 s4 gr1 hL1 pl1 => ?_⟩
    obtain ⟨kh, dh, oh⟩ := (gh3.same s4).o
    refine ⟨_, rfl, _, rfl, hi, lg, kh, dh, ns, toldOf R ns, v, rs, row, rfl, oh, s4 _ _ hlg, hrow.same s4, l1000, lens, fun H5 L2 ts2 G2 s5 gr2 hL2 pl2 => ?_⟩
    have s45 := s4.trans s5
    have hL1' := s5 _ _ hL1
    have pl1' := pl1.same s5
    have coarse : ∀ r ∈ row, ∀ s ∈ row, laneOf ns v r = laneOf ns v s → laneOf ns m r = laneOf ns m s := fun r hr' s hs' e => lane_le (lens r hr') (lens s hs') (of_decide_eq_true le) e
    refine ⟨L2, rfl, ⟨_, SqL.of hL2⟩, ?_⟩
    refine for_it (walk_list (xs := ts2.map V.ref)) (fun i σ H' => ∃ v7 : Option V, σ = [some (.ref u), some (.ref b), some (.ref kk), some (.ref lo), some (.ref hi), some (.ref lg), some (.ref L1), v7, none, none] ∧ Same H5 H')
      ⟨_, rfl, Same.refl _⟩ (fun i σ H' _ ⟨_, _, s'⟩ => SqL.of (s' _ _ hL2)) (fun i x σ H6 H7 hi' ⟨v7, e, s6⟩ yy => ?_) (fun σ H6 ⟨v7, e, s6⟩ => ?_)
    · obtain ⟨rfl, hx⟩ := yy
      subst e
      obtain ⟨T, hT, rfl⟩ := at_ref hx
      obtain ⟨g, hg, rsT, hTt, hTr⟩ := pl2.get i T hT
      have hgm := List.mem_of_getElem? hg
      obtain ⟨eg, neg⟩ := gr2.of g hgm
      obtain ⟨r0, rest, hr0⟩ : ∃ r0 rest, g.2 = r0 :: rest := by
        cases h : g.2 with
        | nil => exact absurd h neg
        | cons a c => exact ⟨a, c, rfl⟩
      have lg2 : g.2.length ≤ 1000 := by
        rw [eg]
        exact Nat.le_trans (List.length_filter_le _ _) l1000
      obtain ⟨lrT, atT⟩ := row_at hTr
      obtain ⟨a0, ha0⟩ : ∃ a0, rsT[0]? = some a0 := ⟨_, List.getElem?_eq_getElem (by rw [lrT, hr0]; exact Nat.succ_pos _)⟩
      obtain ⟨r0', hr0', ra0⟩ := atT 0 a0 ha0
      have e0 : r0' = r0 := by
        rw [hr0] at hr0'
        cases hr0'
        rfl
      subst e0
      have lw := pl1'.len
      have lG1 : G1.length ≤ 1000 := Nat.le_trans gr1.len l1000
      refine ⟨_, rfl, L1, rfl, ⟨_, SqL.of (s6 _ _ hL1')⟩, fun D hD => ?_⟩
      have hL16 := s6 _ _ hL1'
      have pl16 := pl1'.same s6
      have hTt6 := s6 _ _ hTt
      have hTr6 := hTr.same s6
      have ra06 := ra0.same s6
      refine lc_fm (walk_list (xs := ts1.map V.ref)) (fun j => (G1[j]?).bind fun q => if (decide (r0' ∈ q.2) && (g.2.map fun r => decide (r ∈ q.2)).all id) = true then some ((ts1.map V.ref).getD j .non) else none) hD (by rw [List.length_map, lw]; omega) (fun H' s' => SqL.of (s' _ _ hL16)) (fun j w H8 H9 Kt Kf hj s8 yy kt kf => ?_) (fun H8 s8 hD8 => ?_)
      · obtain ⟨rfl, hw⟩ := yy
        obtain ⟨W, hW, rfl⟩ := at_ref hw
        obtain ⟨q, hq, rsW, hWt, hWr⟩ := (pl16.same s8).get j W hW
        have gd : (ts1.map V.ref).getD j .non = .ref W := by rw [List.getD_eq_getElem?_getD, hw]; rfl
        have yes : (decide (r0' ∈ q.2) && (g.2.map fun r => decide (r ∈ q.2)).all id) = true → ∀ G, Same H9 G → Kt (.ref W) G := fun h G sG => kt _ _ (by rw [hq]; show (if _ then _ else _) = _; rw [if_pos h, gd]) sG
        have no : (decide (r0' ∈ q.2) && (g.2.map fun r => decide (r ∈ q.2)).all id) = false → ∀ G, Same H9 G → Kf G := fun h G sG => kf _ (by rw [hq]; show (if _ then _ else _) = _; rw [if_neg (by rw [h]; exact Bool.false_ne_true)]) sG
        refine ⟨rfl, _, rfl, T, _, 0, .ref a0, rfl, rfl, SqT.of (s8 _ _ hTt6), ?_, _, rfl, dRec r0', dRow q.2, dpRec (ra06.same s8), .tup (SqT.of hWt) (dpRow hWr), shpR _, shpRow _, _, rfl, ?_⟩
        · exact atI_nat (j := 0) (by rw [List.getElem?_map, ha0]; rfl)
        rw [anyR]
        refine two (fun c => ?_) (fun c => no (by rw [c]; rfl) _ (Same.refl _))
        have hTt8 := s8 _ _ hTt6
        refine ⟨_, rfl, T, rfl, ⟨_, SqT.of hTt8⟩, fun D2 hD2 => ?_⟩
        refine lc_fm (walk_tup (xs := rsT.map V.ref)) (fun p => (g.2[p]?).map fun r => V.bl (decide (r ∈ q.2))) hD2 (by rw [List.length_map, lrT]; omega) (fun H' s' => SqT.of (s' _ _ hTt8)) (fun p w2 H10 H11 Kt2 Kf2 hp s10 yy kt2 kf2 => ?_) (fun H10 s10 hD10 => ?_)
        · obtain ⟨rfl, hw2⟩ := yy
          obtain ⟨a, ha, rfl⟩ := at_ref hw2
          obtain ⟨r, hr2, ra⟩ := atT p a ha
          refine ⟨rfl, iteT (B := Kf2 H11) ?_⟩
          refine ⟨_, rfl, _, rfl, dRec r, dRow q.2, dpRec (((ra.same s6).same s8).same s10), .tup (SqT.of (s10 _ _ hWt)) (dpRow (hWr.same s10)), shpR _, shpRow _, ?_⟩
          rw [anyR]
          exact kt2 _ _ (by rw [hr2]; rfl) (Same.refl _)
        · rw [List.length_map, lrT, fm_some (l := g.2) (g := fun r => V.bl (decide (r ∈ q.2))) fun p r hr2 => by rw [hr2]; rfl] at hD10
          refine ⟨D2, g.2.map fun r => decide (r ∈ q.2), rfl, SqL.of (hD10.trans (by rw [List.map_map]; rfl)), _, rfl, two (fun c2 => ?_) (fun c2 => ?_)⟩
          · exact ⟨_, rfl, yes (by rw [c, c2]; rfl) _ s10⟩
          · exact no (by rw [c, c2]; rfl) _ s10
      · refine ⟨.ref D, _, rfl, .inl ⟨_, SqL.of hD8, rfl⟩, rfl, _, rfl, ?_⟩
        have one : (G1.filter fun q => (decide (r0' ∈ q.2) && (g.2.map fun r => decide (r ∈ q.2)).all id)).length = 1 := by
          have q1 := grp_once gr1 gr2 coarse hgm (fun q => r0' ∈ q ∧ ∀ r ∈ g.2, r ∈ q) fun q hq => by
            rw [hr0]
            exact ⟨fun h => ⟨⟨r0', rfl, h.1⟩, h.2⟩, fun h => ⟨by obtain ⟨r, e, z⟩ := h.1; cases e; exact z, h.2⟩⟩
          rw [← q1]
          refine congrArg List.length (List.filter_congr fun q hq => ?_)
          have e : (g.2.map fun r => decide (r ∈ q.2)).all id = decide (∀ r ∈ g.2, r ∈ q.2) := by
            rw [List.all_map]
            refine Bool.eq_iff_iff.mpr ?_
            rw [List.all_eq_true, decide_eq_true_iff]
            exact ⟨fun h r hr' => of_decide_eq_true (h r hr'), fun h r hr' => decide_eq_true (h r hr')⟩
          rw [e, Bool.decide_and]
        have len : ((List.range (ts1.map V.ref).length).filterMap fun j => (G1[j]?).bind fun q => if (decide (r0' ∈ q.2) && (g.2.map fun r => decide (r ∈ q.2)).all id) = true then some ((ts1.map V.ref).getD j .non) else none).length = 1 := by
          rw [List.length_map, lw, fm_count (w := fun j => (ts1.map V.ref).getD j .non)]
          exact one
        rw [len]
        exact iteF ⟨_, rfl, s6.trans s8⟩
    · subst e
      have s46 := s45.trans s6
      refine ⟨_, rfl, _, rfl, kk, lg, ns, toldOf R ns, rs, row, rfl, ko3.same s46, s46 _ _ hlg, hrow.same s46, l1000, law, fun H7 s7 => k _ (k03.trans (Same.keep (s46.trans s7))) ?_⟩
      refine (ur3.same (s46.trans s7)).le ?_
      omega
end
end Jd
namespace Jd
open PySem PySem.Spec PyProof.Rows L2
/-! ### right -/
def spRt : Sp := fun vs H Q _ => ∃ (u : Addr) (n : Nat), vs = [.ref u] ∧ Urn H u n ∧ n < 1000 ∧ ∀ H', Keep u H H' → Q (.bl true) H'
/-- what a turn has drawn -/
structure Tn (K : PySem.W.Frag) (H0 H : Hp) (u bt f g x : Addr) (qs : List Addr) (ns : List Str) (R : List (Str × Str)) (N : Nat) : Prop where
  kp : Keep u H0 H
  ur : Urn H u N
  bt : H bt = some (.tup [.ref f, .ref g])
  f : H f = some (.tup (ns.map V.str))
  g : H g = some (.tup (qs.map V.ref))
  pr : PrAt H qs R
  ko : KeysO K H x ns (toldOf R ns)
section
variable {K : PySem.W.Frag} {H0 H H' : Hp} {u bt f g x : Addr} {qs : List Addr} {ns : List Str} {R : List (Str × Str)} {N M : Nat}
theorem Tn.same (h : Tn K H0 H u bt f g x qs ns R N) (s : Same H H') : Tn K H0 H' u bt f g x qs ns R N := ⟨h.kp.trans (Same.keep s), h.ur.same s, s _ _ h.bt, s _ _ h.f, s _ _ h.g, h.pr.same s, h.ko.same s⟩
theorem Tn.keep (h : Tn K H0 H u bt f g x qs ns R N) (k : Keep u H H') (ur : Urn H' u M) : Tn K H0 H' u bt f g x qs ns R M := by
  obtain ⟨xs, hu⟩ := h.ur.at_lst
  exact ⟨h.kp.trans k, ur, k _ _ (ne_of h.bt hu (by intro z; cases z)) h.bt, k _ _ (ne_of h.f hu (by intro z; cases z)) h.f, k _ _ (ne_of h.g hu (by intro z; cases z)) h.g, k.pr hu h.pr, h.ko.keep hu k⟩
theorem Tn.bk (h : Tn K H0 H u bt f g x qs ns R N) : BkAt H bt ns R := ⟨f, g, qs, h.bt, h.f, h.g, h.pr⟩
/-- a list of one's own written -/
theorem Tn.off (h : Tn K H0 H u bt f g x qs ns R N) {L : Addr} {xs : List V} {o : HO} (hL : H L = some (.lst xs)) (n0 : H0 L = none) (nu : L ≠ u) : Tn K H0 (upd H L o) u bt f g x qs ns R N := by
  have k : ∀ b o', b ≠ L → H b = some o' → (upd H L o) b = some o' := fun b o' n q => by rw [upd_ne n]; exact q
  obtain ⟨a, b, c, hu, h1⟩ := id h.ur
  exact ⟨fun b o' nb q => by rw [upd_ne (ne_of_none q n0)]; exact h.kp _ _ nb q, ⟨a, b, c, k _ _ nu.symm hu, h1⟩, k _ _ (ne_of h.bt hL (by intro z; cases z)) h.bt, k _ _ (ne_of h.f hL (by intro z; cases z)) h.f, k _ _ (ne_of h.g hL (by intro z; cases z)) h.g,
    ⟨h.pr.1, fun i q hq => let ⟨pr, e1, e2⟩ := h.pr.2 i q hq; ⟨pr, e1, k _ _ (ne_of e2 hL (by intro z; cases z)) e2⟩⟩, h.ko.keep hL k⟩
end
theorem Book.tbl {ns : List Str} {R : List (Str × Str)} (b : Book ns R) : Tbl ns R := ⟨b.nd, b.l5, fun h => noh (b.pool _ h), fun a y => by rw [(tab0_nd b.rnd a).count]; split <;> omega, b.r1, b.r2, b.rk, by have := b.rl; omega⟩
/-- the bags -/
structure Bg (H0 H : Hp) (u L : Addr) (ns : List Str) (bs : List (Addr × List Str)) (M : Nat) : Prop where
  n0 : H0 L = none
  nu : L ≠ u
  hl : H L = some (.lst (bs.map fun b => V.ref b.1))
  at_ : ∀ b ∈ bs, H b.1 = some (.lst (b.2.map V.str)) ∧ b.1 ≠ u ∧ b.1 ≠ L ∧ b.2.length ≤ M ∧ ∀ z ∈ b.2, FldL ns z
section
variable {H0 H H' : Hp} {u L : Addr} {ns : List Str} {bs : List (Addr × List Str)} {M : Nat}
theorem Bg.keep (h : Bg H0 H u L ns bs M) (k : Keep u H H') : Bg H0 H' u L ns bs M := ⟨h.n0, h.nu, k _ _ h.nu h.hl, fun b hb => let ⟨a, c, d⟩ := h.at_ b hb; ⟨k _ _ c a, c, d⟩⟩
theorem Bg.same (h : Bg H0 H u L ns bs M) (s : Same H H') : Bg H0 H' u L ns bs M := h.keep (Same.keep s)
theorem Bg.push (h : Bg H0 H u L ns bs M) {D : Addr} {zs : List Str} {N : Nat} (hD : H D = some (.lst (zs.map V.str))) (nu : D ≠ u) (nL : D ≠ L) (l : zs.length ≤ N) (lM : M ≤ N) (f : ∀ z ∈ zs, FldL ns z) : Bg H0 (upd H L (.lst ((bs.map fun b => V.ref b.1) ++ [V.ref D]))) u L ns (bs ++ [(D, zs)]) N := by
  refine ⟨h.n0, h.nu, by rw [upd_same, List.map_append]; rfl, fun b hb => ?_⟩
  rcases List.mem_append.mp hb with hb | hb
  · obtain ⟨a, c, d, e, f⟩ := h.at_ b hb
    exact ⟨by rw [upd_ne d]; exact a, c, d, Nat.le_trans e lM, f⟩
  · rw [List.mem_singleton.mp hb]
    exact ⟨by rw [upd_ne nL]; exact hD, nu, nL, l, f⟩
end
section
variable {P : Program} {w : World} {K : PySem.W.Frag} {mg : Str → Option Value} {base : Heap}
abbrev NR6 : List Str := ["_law_urn", "_law_turn", "_law_book_here", "_law_keyring", "_law_bags", "_law_lap", "_law_k", "_law_far", "_law_one_so", "_law_far_so", "_law_low", "_law_high", "_law_step"]
theorem sc_r6 : FnScope NR6 ["_law_urn"] (defScope s__law_right) := ⟨rfl, rfl, rfl, by decide +kernel, rfl, by decide +kernel, by decide +kernel⟩
theorem ok_right (B : Bk K mg) : Df P w K mg base CX0 12 "_law_right" ["_law_urn"] spRt := by
  obtain ⟨fd, F⟩ := B.F_law_right
  obtain ⟨fdI, GI, _, FI⟩ := ok_Keys_init (P := P) (w := w) (base := base) B
  have bI := kb_two FI
  obtain ⟨fdB, GB, bB⟩ := (ok_book (P := P) (w := w) (base := base) B).ex
  have kB := (ok_book (P := P) (w := w) (base := base) B).kp
  obtain ⟨fdK, GK, bK⟩ := (ok_law_take (P := P) (w := w) (base := base) B).ex
  have kK := (ok_law_take (P := P) (w := w) (base := base) B).kp
  obtain ⟨fdF, GF, bF⟩ := (ok_fieldL (P := P) (w := w) (base := base) B).ex
  have kF := (ok_fieldL (P := P) (w := w) (base := base) B).kp
  obtain ⟨fdP, GP, bP⟩ := (ok_pair6 (P := P) (w := w) (base := base) B).ex
  have kP := (ok_pair6 (P := P) (w := w) (base := base) B).kp
  obtain ⟨fdW, GW, bW⟩ := (ok_within (P := P) (w := w) (base := base) B).ex
  have kW := (ok_within (P := P) (w := w) (base := base) B).kp
  obtain ⟨fdL, GL, bL⟩ := ok_le (P := P) (w := w) (base := base) B
  obtain ⟨fdO, GO, bO⟩ := ok_or (P := P) (w := w) (base := base) B
  obtain ⟨fdA, GA, bA⟩ := ok_and (P := P) (w := w) (base := base) B
  obtain ⟨fdS, GS, bS⟩ := ok_Stage_init (P := P) (w := w) (base := base) B
  refine ⟨⟨fd, ?_, F.binds fun _ _ _ _ _ _ us hl => match us, hl with | [_], _ => rfl⟩, B.g_law_right, F.kp⟩
  refine F.ok sc_r6 (fun vs H Q E h => ?_) (fun cdv A outer s H vs Q E hr h => ?_)
  · obtain ⟨_, _, rfl, _⟩ := h
    rfl
  · obtain ⟨u, n, rfl, hu0, hn, k⟩ := h
    have hr1 : Room 1 _ := hr.mono (by decide)
    have hr3 : Room 3 _ := hr.mono (by decide)
    have hr4 : Room 4 _ := hr.mono (by decide)
    have hr5 : Room 5 _ := hr.mono (by decide)
    have hr6 : Room 6 _ := hr.mono (by decide)
    have hr7 : Room 7 _ := hr.mono (by decide)
    have hr9 : Room 9 _ := hr.mono (by decide)
    have hr10 : Room 10 _ := hr.mono (by decide)
    have hu : _ + 1 < cLine := hu_of hr
    refine ⟨_, (pss_cons (ps_for PassesOwn.never rfl (pi_range1 rfl B.b_range (pa_cons pe_int pa_nil)) (pg_name (i := 1) sc_r6.nd rfl (Or.inl rfl)) (pss_cons (ps_cut (ps_set (i := 2) sc_r6.nd rfl (Or.inr rfl) (pe_call GB hr3 rfl B.g_law_book kB bB .nil pass0 (pa_cons (pv 0) (pa_cons pe_int pa_nil)))))
      (pss_cons (ps_cut (ps_set (i := 3) sc_r6.nd rfl (Or.inl rfl) (pe_make (E := fun _ _ _ => False) B.mk_Keys GI hr4 (by rfl) B.g_Keys bI .nil passF (pa_cons (pe_ix ix_tup (pv 2) pe_int (fun _ _ => rfl)) (pa_cons (pe_ix ix_tup (pv 2) pe_int (fun _ _ => rfl)) pa_nil)))))
      (pss_cons (ps_cut (ps_set (i := 4) sc_r6.nd rfl (Or.inl rfl) (pe_lst pa_nil)))
      (pss_cons (ps_cut (ps_for PassesOwn.never rfl (pi_range1 rfl B.b_range (pa_cons pe_int pa_nil)) (pg_name (i := 5) sc_r6.nd rfl (Or.inl rfl)) (pss_one (ps_expr (pe_bm PySem.F.plainAttrs_list PySem.F.slot_list_append PySem.F.type_list_append mt_append (pv 4) (pa_cons (pe_lc (own := [("_law_step", 12)]) (g := gName 12) (tt := tYes) (te := tCall spFl [] E0 (tCons (tVar 0) (tCons (tOp (rIxT K) (tVar 2) (tC (.int 0))) tNil))) rfl sc_r6.nd (pi_range1 rfl B.b_range (pa_cons (pe_call GK hr1 rfl B.g_law_take kK bK .nil pass0 (pa_cons (pv 0) (pa_cons pe_int pa_nil))) pa_nil)) (blkOk_by (N := NR6) (sc := defScope s__law_right) (by decide +kernel)) (fun _ _ _ _ _ => pg_name (i := 12) sc_r6.nd rfl (Or.inl rfl)) (fun _ _ _ _ _ => pts_nil) (fun _ _ _ _ _ => pe_call GF hr3 rfl B.g_law_field kF bF .nil pass0 (pa_cons (pv 0) (pa_cons (pe_ix ix_tup (pv 2) pe_int (fun _ _ => rfl)) pa_nil)))) pa_nil))))))
      (pss_cons (ps_cut (ps_expr (pe_bm PySem.F.plainAttrs_list PySem.F.slot_list_append PySem.F.type_list_append mt_append (pv 4) (pa_cons (pe_op op_cat (pe_ix ix_list (pv 4) pe_int (fun _ _ => rfl)) (pe_ix ix_list (pv 4) pe_int (fun _ _ => rfl))) pa_nil))))
      (pss_cons (ps_cut (ps_for PassesOwn.never rfl (pi_tup (pe_tup (pa_cons (pe_tup (pa_cons pe_int (pa_cons pe_int pa_nil))) (pa_cons (pe_tup (pa_cons pe_int (pa_cons pe_int pa_nil))) (pa_cons (pe_tup (pa_cons pe_int (pa_cons pe_int pa_nil))) (pa_cons (pe_tup (pa_cons pe_int (pa_cons pe_int pa_nil))) pa_nil)))))) (pg_tup rfl (pgs_cons (pg_name (i := 6) sc_r6.nd rfl (.inl rfl)) (pgs_cons (pg_name (i := 7) sc_r6.nd rfl (.inl rfl)) pgs_nil)))
          (pss_one (ps_if (pt_not (pt_val (pe_call GP hr10 rfl B.g_law_pair_right kP bP .nil pass0 (pa_cons (pv 2) (pa_cons (pv 3) (pa_cons (pe_lst (pa_cons (pe_ix ix_list (pv 4) (pv 6) (fun _ _ => rfl)) (pa_cons (pe_ix ix_list (pv 4) (pv 7) (fun _ _ => rfl)) pa_nil))) pa_nil)))))) (pss_one (ps_ret pe_bl)) pss_nil))))
      (pss_cons (ps_cut (ps_par (i := 8) (j := 9) (by rfl) sc_r6.nd rfl rfl (by decide) rfl rfl (pa_cons (pe_make (E := E0) B.mk_Stage GS hr7 (by rfl) B.g_Stage bS .nil pass0 (pa_cons (pv 3) (pa_cons (pe_ix ix_list (pv 4) pe_int (fun _ _ => rfl)) pa_nil))) (pa_cons (pe_make (E := E0) B.mk_Stage GS hr7 (by rfl) B.g_Stage bS .nil pass0 (pa_cons (pv 3) (pa_cons (pe_ix ix_list (pv 4) pe_int (fun _ _ => rfl)) pa_nil))) pa_nil)) (by rfl)))
      (pss_cons (ps_cut (ps_for PassesOwn.never rfl (pi_tup (pe_tup (pa_cons (pe_tup (pa_cons (pv 8) (pa_cons (pe_op (op_binOwn (E := fun _ _ _ => False) GO hr9 B.sfst_Stage B.sp_Stage_or bO passF) (pv 8) (pv 9)) pa_nil))) (pa_cons (pe_tup (pa_cons (pe_op (op_binOwn (E := fun _ _ _ => False) GA hr9 B.sfst_Stage B.sp_Stage_and bA passF) (pv 8) (pv 9)) (pa_cons (pv 9) pa_nil))) (pa_cons (pe_tup (pa_cons (pe_op (op_binOwn (E := fun _ _ _ => False) GA hr9 B.sfst_Stage B.sp_Stage_and bA passF) (pv 8) (pv 9)) (pa_cons (pe_op (op_binOwn (E := fun _ _ _ => False) GO hr9 B.sfst_Stage B.sp_Stage_or bO passF) (pv 8) (pv 9)) pa_nil))) pa_nil))))) (pg_tup rfl (pgs_cons (pg_name (i := 10) sc_r6.nd rfl (.inl rfl)) (pgs_cons (pg_name (i := 11) sc_r6.nd rfl (.inl rfl)) pgs_nil)))
          (pss_one (ps_if (PW.pt (pw_or (pt_not (pt_cmpR (op_cmpOwn (op := .LtE) (E := fun _ _ _ => False) rfl GL hr5 B.sp_Stage_le bL passF) (pv 10) (pv 11) (nomark _))) (pw_or1 (pt_not (pt_val (pe_call GW hr6 rfl B.g_law_within_right kW bW .nil pass0 (pa_cons (pv 0) (pa_cons (pv 2) (pa_cons (pv 3) (pa_cons (pv 10) (pa_cons (pv 11) pa_nil))))))))))) (pss_one (ps_ret pe_bl)) pss_nil))))
      (pss_one (ps_if (PW.pt (pw_and (pt_cmpR (op_cmpOwn (op := .LtE) (E := fun _ _ _ => False) rfl GL hr5 B.sp_Stage_le bL passF) (pv 8) (pv 9) (nomark _)) (pw_and1 (pt_not (pt_val (pe_call GW hr6 rfl B.g_law_within_right kW bW .nil pass0 (pa_cons (pv 0) (pa_cons (pv 2) (pa_cons (pv 3) (pa_cons (pv 8) (pa_cons (pv 9) pa_nil))))))))))) (pss_one (ps_ret pe_bl)) pss_nil)))))))))))
      (pss_one (ps_ret pe_bl))), ?_⟩
    have big : (2000 : Nat) ≤ sizeLine := by decide
    refine ⟨_, rfl, by decide, by decide, ?_⟩
    refine for_it (n := 6) walk_range (fun i σ H' => ∃ v1 v2 v3 v4 v5 v6 v7 v8 v9 v10 v11 v12 : Option V, σ = [some (.ref u), v1, v2, v3, v4, v5, v6, v7, v8, v9, v10, v11, v12] ∧ Urn H' u (n + 500 * i) ∧ Keep u H H')
      ⟨_, _, _, _, _, _, _, _, _, _, _, _, rfl, hu0, Keep.refl _ _⟩ (fun _ _ _ _ _ => trivial) (fun i xx σ H2 H3 hi ⟨v1, v2, v3, v4, v5, v6, v7, v8, v9, v10, v11, v12, e, huT, kT⟩ y => ?_) (fun σ H2 ⟨v1, v2, v3, v4, v5, v6, v7, v8, v9, v10, v11, v12, e, huT, kT⟩ => ?_)
    rotate_left
    · subst e
      exact k _ kT
    obtain ⟨rfl, rfl⟩ := y
    subst e
    have hi6 : i < 6 := hi
    refine ⟨fun σ' H' => ∃ (ns : List Str) (R : List (Str × Str)) (bt f g : Addr) (qs : List Addr), σ' = [some (.ref u), some (.int (0 + (i : Int))), some (.ref bt), v3, v4, v5, v6, v7, v8, v9, v10, v11, v12] ∧ Keep u H3 H' ∧ Urn H' u (n + 500 * i + 40) ∧ Book ns R ∧ H' bt = some (.tup [.ref f, .ref g]) ∧ H' f = some (.tup (ns.map V.str)) ∧ H' g = some (.tup (qs.map V.ref)) ∧ PrAt H' qs R, ?_, ?_⟩
    · refine ⟨_, rfl, u, 4, n + 500 * i, rfl, huT, by omega, by decide, by decide, fun ns R t f g qs H' bk hu' kp nt nf ng nq ht hf hg pr => ?_⟩
      exact ⟨ns, R, t, f, g, qs, rfl, kp, hu', bk, ht, hf, hg, pr⟩
    rintro σ1 Ha ⟨ns, R, bt, f, g, qs, rfl, ka, hua, bk, ht, hf, hg, pr⟩
    replace ka := kT.trans ka
    clear kT huT
    have l5 := bk.l5
    have rl := bk.rl
    have nm : ∀ z ∈ ns, isName (cd z) = true := fun z hz => pl_name z (bk.pool z hz)
    have sok : ∀ z ∈ ns, PyData.strOk z = true := fun z hz => pool_ok z (bk.pool z hz)
    have n0 : ("#" : Str) ∉ ns := fun h => noh (bk.pool _ h)
    have rin : ∀ p ∈ R, p.1 ∈ ns ∧ p.2 ∈ ns := fun p hp => ⟨bk.r1 p hp, bk.r2 p hp⟩
    have tb := bk.tbl
    have ne : ns ≠ [] := fun e => by
      have z := bk.l1
      rw [e] at z
      cases z
    have kib : ∀ {H' : Hp} {x dx : Addr} {Q : VK} {E : XK}, H' x = none → H' dx = none → H' f = some (.tup (ns.map V.str)) → H' g = some (.tup (qs.map V.ref)) → PrAt H' qs R → (∀ H4, Same H' H4 → KeysO K H4 x ns (toldOf R ns) → Q .non H4) →
        spKI K [.ref x, .ref f, .ref g] (upd (upd H' dx (.own x)) x (.ins (He.ga K "Keys") dx [])) Q E := by
      intro H' x dx Q E nx ndx hf hg pr q
      refine ki_gen (names := ns) (R := R) nx ndx (.inr (SqT.of hf)) bk.nd (by omega) sok (tells_of hg pr) (by omega) rin ⟨ns, bk.rk⟩ fun ns' pm so nd H4 s4 ko => ?_
      have e := names_one bk.nd bk.so (fun _ => Iff.rfl) ns' pm so
      subst e
      exact q H4 s4 ko
    -- keyring
    refine ⟨fun σ' H' => ∃ x : Addr, σ' = [some (.ref u), some (.int (0 + (i : Int))), some (.ref bt), some (.ref x), v4, v5, v6, v7, v8, v9, v10, v11, v12] ∧ Tn K H H' u bt f g x qs ns R (n + 500 * i + 40), ?_, ?_⟩
    · refine ⟨_, rfl, bt, _, _, _, rfl, rfl, SqT.of ht, rfl, _, rfl, bt, _, _, _, rfl, rfl, SqT.of ht, rfl, fun x dx nx ndx nex => ?_⟩
      refine kib nx ndx hf hg pr fun H4 s4 ko => ⟨rfl, ?_⟩
      exact ⟨x, rfl, ka.trans (Same.keep s4), hua.same s4, s4 _ _ ht, s4 _ _ hf, s4 _ _ hg, pr.same s4, ko⟩
    rintro σ2 Hb ⟨x, rfl, tn⟩
    clear hua ht hf hg pr ka kib
    -- bags
    refine ⟨fun σ' H' => ∃ L : Addr, σ' = [some (.ref u), some (.int (0 + (i : Int))), some (.ref bt), some (.ref x), some (.ref L), v5, v6, v7, v8, v9, v10, v11, v12] ∧ Tn K H H' u bt f g x qs ns R (n + 500 * i + 40) ∧ Bg H H' u L ns [] 3, ?_, ?_⟩
    · refine ⟨Nat.zero_le _, fun L nL => ?_⟩
      obtain ⟨xs0, hu0'⟩ := tn.ur.at_lst
      have nLu : L ≠ u := fun e => by rw [e, hu0'] at nL; cases nL
      exact ⟨L, rfl, tn.same (Same_new nL), free_of tn.kp hu0' nL, nLu, upd_same, fun b hb => by cases hb⟩
    rintro σ3 Hc ⟨L, rfl, tn1, bg1⟩
    clear tn
    -- two bags drawn
    refine ⟨fun σ' H' => ∃ (b0 b1 : Addr × List Str) (v5 : Option V), σ' = [some (.ref u), some (.int (0 + (i : Int))), some (.ref bt), some (.ref x), some (.ref L), v5, v6, v7, v8, v9, v10, v11, v12] ∧ Tn K H H' u bt f g x qs ns R (n + 500 * i + 70) ∧ Bg H H' u L ns [b0, b1] 3, ?_, ?_⟩
    · refine ⟨_, rfl, by decide, by decide, ?_⟩
      refine for_it (n := 2) walk_range (fun j σ H' => ∃ (bs : List (Addr × List Str)) (v5 : Option V), σ = [some (.ref u), some (.int (0 + (i : Int))), some (.ref bt), some (.ref x), some (.ref L), v5, v6, v7, v8, v9, v10, v11, v12] ∧ bs.length = j ∧ Tn K H H' u bt f g x qs ns R (n + 500 * i + 40 + 15 * j) ∧ Bg H H' u L ns bs 3)
        ⟨[], _, rfl, rfl, tn1, bg1⟩ (fun _ _ _ _ _ => trivial) (fun j xj σ H4 H5 hj ⟨bs, w5, e, ls, tq, bq⟩ y => ?_) (fun σ H4 ⟨bs, w5, e, ls, tq, bq⟩ => ?_)
      · obtain ⟨rfl, rfl⟩ := y
        subst e
        have hj2 : j < 2 := hj
        refine ⟨_, rfl, .inl ⟨rfl, _, SqL.of bq.hl⟩, _, rfl, u, 4, n + 500 * i + 40 + 15 * j, rfl, tq.ur, by omega, by decide, by decide, fun r H6 r0 r1 hu6 k6 => ?_⟩
        have tq6 := tq.keep k6 hu6
        have bq6 := bq.keep k6
        obtain ⟨xs0, hu0'⟩ := hu6.at_lst
        refine ⟨_, rfl, by omega, by omega, fun D nD => ?_⟩
        have nDu : D ≠ u := fun e => by rw [e, hu0'] at nD; cases nD
        have nDL : D ≠ L := fun e => by rw [e, bq6.hl] at nD; cases nD
        refine lc_it (n := r.toNat) walk_range (fun q H' => Keep u H6 H' ∧ Urn H' u (n + 500 * i + 40 + 15 * j + 1 + 3 * q) ∧ ∃ zs : List Str, zs.length = q ∧ H' D = some (.lst (zs.map V.str)) ∧ ∀ z ∈ zs, FldL ns z)
          ⟨Same.keep (Same_new nD), hu6.same (Same_new nD), [], rfl, upd_same, fun z hz => by cases hz⟩ (fun _ _ _ _ => trivial) (fun q xq H7 H8 hq ⟨k7, hu7, zs, lz, hD7, fz⟩ y => ?_) (fun H7 ⟨k7, hu7, zs, lz, hD7, fz⟩ => ?_)
        · obtain ⟨rfl, rfl⟩ := y
          have tq8 := tq6.keep k7 hu7
          refine ⟨rfl, iteT (B := ∃ z : Nat, z = 0) ?_⟩
          refine ⟨_, rfl, _, rfl, bt, _, _, _, rfl, rfl, SqT.of tq8.bt, rfl, u, f, _, ns, rfl, hu7, by omega, tq8.f, bk.l1, l5, nm, fun H9 z hu9 k9 fo => ?_⟩
          have hD9 := k9 _ _ nDu hD7
          refine ⟨_, hD9, ?_, ?_, ?_, zs ++ [z], by rw [List.length_append, lz]; rfl, by rw [upd_same, List.map_append]; rfl, fun y hy => ?_⟩
          · rw [List.length_map]
            omega
          · exact Keep_lay (k7.trans k9) nD
          · obtain ⟨a, b, c, e1, e2, e3⟩ := hu9
            exact ⟨a, b, c, by rw [upd_ne nDu.symm]; exact e1, e2, by omega⟩
          · rcases List.mem_append.mp hy with hy | hy
            · exact fz y hy
            · rw [List.mem_singleton.mp hy]
              exact fo
        · have tq7 := tq6.keep k7 hu7
          have bq7 := bq6.keep k7
          refine ⟨L, _, _, rfl, rfl, bq7.hl, (by rw [List.length_map]; omega), ?_⟩
          refine ⟨bs ++ [(D, zs)], _, rfl, by rw [List.length_append, ls]; rfl, ?_, bq7.push hD7 nDu nDL (by omega) (Nat.le_refl _) fz⟩
          have tq9 := tq7.off (o := HO.lst ((bs.map fun b => V.ref b.1) ++ [V.ref D])) bq7.hl bq7.n0 bq7.nu
          exact ⟨tq9.kp, tq9.ur.le (by omega), tq9.bt, tq9.f, tq9.g, tq9.pr, tq9.ko⟩
      · subst e
        match bs, ls with
        | [b0, b1], _ => exact ⟨b0, b1, _, rfl, tq, bq⟩
    rintro σ4 Hd ⟨b0, b1, w5, rfl, tn2, bg2⟩
    clear tn1 bg1
    -- the two as one
    refine ⟨fun σ' H' => ∃ b2 : Addr × List Str, σ' = [some (.ref u), some (.int (0 + (i : Int))), some (.ref bt), some (.ref x), some (.ref L), w5, v6, v7, v8, v9, v10, v11, v12] ∧ Tn K H H' u bt f g x qs ns R (n + 500 * i + 70) ∧ Bg H H' u L ns [b0, b1, b2] 6, ?_, ?_⟩
    · obtain ⟨h0, u0, c0, l0, f0⟩ := bg2.at_ b0 List.mem_cons_self
      obtain ⟨h1, u1, c1, l1, f1⟩ := bg2.at_ b1 (List.mem_cons_of_mem _ List.mem_cons_self)
      refine ⟨_, rfl, .inl ⟨rfl, _, SqL.of bg2.hl⟩, _, rfl, L, _, _, _, rfl, rfl, SqL.of bg2.hl, rfl, _, rfl, L, _, _, _, rfl, rfl, SqL.of bg2.hl, rfl, b0.1, b1.1, _, _, rfl, rfl, h0, h1, (by rw [List.length_map, List.length_map]; omega), fun p hp => ?_⟩
      obtain ⟨xs0, hu0'⟩ := tn2.ur.at_lst
      have npu : p ≠ u := fun e => by rw [e, hu0'] at hp; cases hp
      have npL : p ≠ L := fun e => by rw [e, bg2.hl] at hp; cases hp
      have sp := Same_new (o := HO.lst (b0.2.map V.str ++ b1.2.map V.str)) hp
      have bg3 := bg2.same sp
      have tn3 := tn2.same sp
      refine ⟨L, _, _, rfl, rfl, bg3.hl, (by show 2 < _; decide), ?_⟩
      refine ⟨(p, b0.2 ++ b1.2), rfl, tn3.off bg3.hl bg3.n0 bg3.nu, bg3.push (by rw [upd_same, List.map_append]) npu npL (by rw [List.length_append]; omega) (by decide) fun z hz => ?_⟩
      exact (List.mem_append.mp hz).elim (f0 z) (f1 z)
    rintro σ5 He ⟨b2, rfl, tn, bg⟩
    clear tn2 bg2
    have at3 : ∀ a : Int, (a = 0 ∨ a = 1 ∨ a = 2) → ∃ b : Addr × List Str, b ∈ [b0, b1, b2] ∧ atI ([b0, b1, b2].map fun b => V.ref b.1) a = some (.ref b.1) := fun a h => by
      rcases h with rfl | rfl | rfl
      · exact ⟨b0, List.mem_cons_self, rfl⟩
      · exact ⟨b1, List.mem_cons_of_mem _ List.mem_cons_self, rfl⟩
      · exact ⟨b2, List.mem_cons_of_mem _ (List.mem_cons_of_mem _ List.mem_cons_self), rfl⟩
    -- pairs
    refine ⟨fun σ' H' => ∃ v6 v7, σ' = [some (.ref u), some (.int (0 + (i : Int))), some (.ref bt), some (.ref x), some (.ref L), w5, v6, v7, v8, v9, v10, v11, v12] ∧ Same He H', ?_, ?_⟩
    · refine ⟨(by show 2 ≤ sizeLine; decide), fun p1 h1 => ⟨(by show 2 ≤ sizeLine; decide), fun p2 h2 => ⟨(by show 2 ≤ sizeLine; decide), fun p3 h3 => ⟨(by show 2 ≤ sizeLine; decide), fun p4 h4 => ⟨(by show 4 ≤ sizeLine; decide), fun p5 h5 => ?_⟩⟩⟩⟩⟩
      have q1 := Same_new (o := HO.tup [V.int 0, V.int 1]) h1
      have q2 := Same_new (o := HO.tup [V.int 0, V.int 2]) h2
      have q3 := Same_new (o := HO.tup [V.int 2, V.int 1]) h3
      have q4 := Same_new (o := HO.tup [V.int 1, V.int 1]) h4
      have q5 := Same_new (o := HO.tup [V.ref p1, V.ref p2, V.ref p3, V.ref p4]) h5
      have e1 := (((q2.trans q3).trans q4).trans q5) _ _ (upd_same (H := He) (a := p1) (o := HO.tup [V.int 0, V.int 1]))
      have e2 := ((q3.trans q4).trans q5) _ _ (upd_same (H := upd He p1 (.tup [V.int 0, V.int 1])) (a := p2) (o := HO.tup [V.int 0, V.int 2]))
      have e3 := (q4.trans q5) _ _ (upd_same (H := upd (upd He p1 (.tup [V.int 0, V.int 1])) p2 (.tup [V.int 0, V.int 2])) (a := p3) (o := HO.tup [V.int 2, V.int 1]))
      have e4 := q5 _ _ (upd_same (H := upd (upd (upd He p1 (.tup [V.int 0, V.int 1])) p2 (.tup [V.int 0, V.int 2])) p3 (.tup [V.int 2, V.int 1])) (a := p4) (o := HO.tup [V.int 1, V.int 1]))
      have e5 := upd_same (H := upd (upd (upd (upd He p1 (.tup [V.int 0, V.int 1])) p2 (.tup [V.int 0, V.int 2])) p3 (.tup [V.int 2, V.int 1])) p4 (.tup [V.int 1, V.int 1])) (a := p5) (o := HO.tup [V.ref p1, V.ref p2, V.ref p3, V.ref p4])
      have qa := ((q1.trans q2).trans (q3.trans q4)).trans q5
      generalize (upd (upd (upd (upd (upd He p1 (.tup [V.int 0, V.int 1])) p2 (.tup [V.int 0, V.int 2])) p3 (.tup [V.int 2, V.int 1])) p4 (.tup [V.int 1, V.int 1])) p5 (.tup [V.ref p1, V.ref p2, V.ref p3, V.ref p4])) = Hg at e1 e2 e3 e4 e5 qa
      have tg := tn.same qa
      have bgg := bg.same qa
      have two3 : ∀ v ∈ [p1, p2, p3, p4].map V.ref, ∃ p a0 a1, v = .ref p ∧ Hg p = some (.tup [.int a0, .int a1]) ∧ (a0 = 0 ∨ a0 = 1 ∨ a0 = 2) ∧ (a1 = 0 ∨ a1 = 1 ∨ a1 = 2) := fun v hv => by
        rcases List.mem_cons.mp hv with rfl | hv
        · exact ⟨p1, 0, 1, rfl, e1, .inl rfl, .inr (.inl rfl)⟩
        rcases List.mem_cons.mp hv with rfl | hv
        · exact ⟨p2, 0, 2, rfl, e2, .inl rfl, .inr (.inr rfl)⟩
        rcases List.mem_cons.mp hv with rfl | hv
        · exact ⟨p3, 2, 1, rfl, e3, .inr (.inr rfl), .inr (.inl rfl)⟩
        rw [List.mem_singleton.mp hv]
        exact ⟨p4, 1, 1, rfl, e4, .inr (.inl rfl), .inr (.inl rfl)⟩
      refine ⟨p5, rfl, ⟨_, SqT.of e5⟩, ?_⟩
      refine for_it (walk_tup (xs := [p1, p2, p3, p4].map V.ref)) (fun j σ H' => ∃ v6 v7, σ = [some (.ref u), some (.int (0 + (i : Int))), some (.ref bt), some (.ref x), some (.ref L), w5, v6, v7, v8, v9, v10, v11, v12] ∧ Same Hg H')
        ⟨_, _, rfl, Same.refl _⟩ (fun j σ H' _ ⟨_, _, _, s'⟩ => SqT.of (s' _ _ e5)) (fun j xj σ H4 H5 hj ⟨w6, w7, e, s4⟩ y => ?_) (fun σ H4 ⟨w6, w7, e, s4⟩ => ?_)
      · subst e
        obtain ⟨rfl, hv⟩ := y
        obtain ⟨p, a0, a1, rfl, hp, c0, c1⟩ := two3 xj (List.mem_of_getElem? hv)
        obtain ⟨z0, i0, k0⟩ := at3 a0 c0
        obtain ⟨z1, i1, k1⟩ := at3 a1 c1
        have hL := SqL.of (K := K) (s4 _ _ bgg.hl)
        have tg4 := tg.same s4
        have bg4 := bgg.same s4
        refine ⟨_, _, rfl, SqT.of (s4 _ _ hp), rfl, _, _, rfl, _, _, rfl, rfl, ?_⟩
        refine ⟨_, rfl, _, rfl, _, rfl, _, rfl, L, _, _, _, rfl, rfl, hL, k0, _, rfl, _, rfl, L, _, _, _, rfl, rfl, hL, k1, (by show 2 ≤ sizeLine; decide), fun bb hb => ?_⟩
        have sb := Same_new (o := HO.lst [V.ref z0.1, V.ref z1.1]) hb
        have tg5 := tg4.same sb
        have bg5 := bg4.same sb
        obtain ⟨h0, _, _, l0, f0⟩ := bg5.at_ z0 i0
        obtain ⟨h1, _, _, l1, f1⟩ := bg5.at_ z1 i1
        refine ⟨bt, x, bb, ns, R, fun i => if i = 0 then z0.1 else z1.1, fun i => if i = 0 then z0.2 else z1.2, rfl, tg5.bk, tb, sok, nm, ne, tg5.ko, upd_same, fun i hi => ?_, fun H9 s9 => ⟨_, rfl, iteF ⟨_, _, rfl, (s4.trans sb).trans s9⟩⟩⟩
        match i, hi with
        | 0, _ => exact ⟨h0, by show z0.2.length ≤ _; omega, f0⟩
        | 1, _ => exact ⟨h1, by show z1.2.length ≤ _; omega, f1⟩
      · subst e
        exact ⟨_, _, rfl, qa.trans s4⟩
    rintro σ6 Hf ⟨w6, w7, rfl, sf⟩
    replace tn := tn.same sf
    replace bg := bg.same sf
    clear sf
    -- two Stages
    refine ⟨fun σ' H' => ∃ (s0 s1 : Addr) (m v : Str → Nat), σ' = [some (.ref u), some (.int (0 + (i : Int))), some (.ref bt), some (.ref x), some (.ref L), w5, w6, w7, some (.ref s0), some (.ref s1), v10, v11, v12] ∧ Tn K H H' u bt f g x qs ns R (n + 500 * i + 70) ∧ Sg K H' s0 ns (toldOf R ns) m ∧ Sg K H' s1 ns (toldOf R ns) v, ?_, ?_⟩
    · obtain ⟨h0, u0, c0, l0, f0⟩ := bg.at_ b0 List.mem_cons_self
      obtain ⟨h1, u1, c1, l1, f1⟩ := bg.at_ b1 (List.mem_cons_of_mem _ List.mem_cons_self)
      refine ⟨_, rfl, _, rfl, L, _, _, _, rfl, rfl, SqL.of bg.hl, rfl, fun s0 d0 nb ndb neb => mk_st tn.ko n0 (.inl (SqL.of h0)) (by omega) (fun z hz => (f0 z hz).ok nm) nb ndb fun H5 d s5 so => ⟨rfl, ?_⟩⟩
      have tn5 := tn.same s5
      have g0 : Sg K H5 s0 ns (toldOf R ns) (closeM ns (toldOf R ns) (joinS b0.2)) := ⟨⟨_, _, so⟩, close_ok n0 nm fun z hz => (f0 z hz).ok nm⟩
      refine ⟨_, rfl, _, rfl, L, _, _, _, rfl, rfl, SqL.of (s5 _ _ bg.hl), rfl, fun s1 d1 nb1 ndb1 neb1 => mk_st tn5.ko n0 (.inl (SqL.of (s5 _ _ h1))) (by omega) (fun z hz => (f1 z hz).ok nm) nb1 ndb1 fun H6 d2 s6 so2 => ⟨rfl, ?_⟩⟩
      have g1 : Sg K H6 s1 ns (toldOf R ns) (closeM ns (toldOf R ns) (joinS b1.2)) := ⟨⟨_, _, so2⟩, close_ok n0 nm fun z hz => (f1 z hz).ok nm⟩
      exact ⟨_, _, rfl, s0, s1, _, _, rfl, tn5.same s6, g0.same s6, g1⟩
    rintro σ7 Hg ⟨s0, s1, m, v, rfl, tn0, g0, g1⟩
    clear tn bg
    -- three within
    refine ⟨fun σ' H' => ∃ v10 v11, σ' = [some (.ref u), some (.int (0 + (i : Int))), some (.ref bt), some (.ref x), some (.ref L), w5, w6, w7, some (.ref s0), some (.ref s1), v10, v11, v12] ∧ Tn K H H' u bt f g x qs ns R (n + 500 * i + 370) ∧ Sg K H' s0 ns (toldOf R ns) m ∧ Sg K H' s1 ns (toldOf R ns) v, ?_, ?_⟩
    · refine ⟨_, rfl, _, rfl, _, rfl, rd_or B g0 g1 fun H1 z1 t1 j1 => ⟨(by show 2 ≤ sizeLine; decide), fun p1 h1 => ?_⟩⟩
      have t1' := t1.trans (Same_new (o := HO.tup [V.ref s0, V.ref z1]) h1)
      have e1 := upd_same (H := H1) (a := p1) (o := HO.tup [V.ref s0, V.ref z1])
      replace j1 := j1.same (Same_new (o := HO.tup [V.ref s0, V.ref z1]) h1)
      refine ⟨_, rfl, _, rfl, rd_and B (g0.same t1') (g1.same t1') fun H2 z2 t2 j2 => ⟨_, rfl, (by show 2 ≤ sizeLine; decide), fun p2 h2 => ?_⟩⟩
      have t2' := t2.trans (Same_new (o := HO.tup [V.ref z2, V.ref s1]) h2)
      have e2 := upd_same (H := H2) (a := p2) (o := HO.tup [V.ref z2, V.ref s1])
      replace j2 := j2.same (Same_new (o := HO.tup [V.ref z2, V.ref s1]) h2)
      have t12 := t1'.trans t2'
      refine ⟨_, rfl, _, rfl, rd_and B (g0.same t12) (g1.same t12) fun H3 z3 t3 j3 => ?_⟩
      have t13 := t12.trans t3
      refine ⟨_, rfl, _, rfl, rd_or B (g0.same t13) (g1.same t13) fun H4 z4 t4 j4 => ⟨(by show 2 ≤ sizeLine; decide), fun p3 h3 => ⟨(by show 3 ≤ sizeLine; decide), fun p4 h4 => ?_⟩⟩⟩
      have t4' := t4.trans (Same_new (o := HO.tup [V.ref z3, V.ref z4]) h3)
      have t5 := Same_new (o := HO.tup [V.ref p1, V.ref p2, V.ref p3]) h4
      have e3 := t5 _ _ (upd_same (H := H4) (a := p3) (o := HO.tup [V.ref z3, V.ref z4]))
      have e4 := upd_same (H := upd H4 p3 (.tup [V.ref z3, V.ref z4])) (a := p4) (o := HO.tup [V.ref p1, V.ref p2, V.ref p3])
      have u5 := (t3.trans t4').trans t5
      replace e1 := (t2'.trans u5) _ _ e1
      replace e2 := u5 _ _ e2
      replace j1 := j1.same (t2'.trans u5)
      replace j2 := j2.same u5
      replace j3 := j3.same (t4'.trans t5)
      replace j4 := (j4.same (Same_new (o := HO.tup [V.ref z3, V.ref z4]) h3)).same t5
      have ta := t12.trans u5
      generalize upd (upd H4 p3 (.tup [V.ref z3, V.ref z4])) p4 (.tup [V.ref p1, V.ref p2, V.ref p3]) = Hh at e1 e2 e3 e4 j1 j2 j3 j4 ta
      have tq := tn0.same ta
      have q0 := g0.same ta
      have q1 := g1.same ta
      have le1 : leB ns m (jn m v) = true := leB_of fun n => Nat.dvd_lcm_left _ _
      have le2 : leB ns (mt m v) v = true := leB_of fun n => Nat.gcd_dvd_right _ _
      have le3 : leB ns (mt m v) (jn m v) = true := leB_of fun n => Nat.dvd_trans (Nat.gcd_dvd_left _ _) (Nat.dvd_lcm_left _ _)
      have tri : ∀ w ∈ [p1, p2, p3].map V.ref, ∃ p lo hi mm vv, w = .ref p ∧ Hh p = some (.tup [.ref lo, .ref hi]) ∧ Sg K Hh lo ns (toldOf R ns) mm ∧ Sg K Hh hi ns (toldOf R ns) vv ∧ leB ns mm vv = true := fun w hw => by
        rcases List.mem_cons.mp hw with rfl | hw
        · exact ⟨p1, s0, z1, _, _, rfl, e1, q0, j1, le1⟩
        rcases List.mem_cons.mp hw with rfl | hw
        · exact ⟨p2, z2, s1, _, _, rfl, e2, j2, q1, le2⟩
        rw [List.mem_singleton.mp hw]
        exact ⟨p3, z3, z4, _, _, rfl, e3, j3, j4, le3⟩
      obtain ⟨xs0, hu0'⟩ := tq.ur.at_lst
      have n4 : p4 ≠ u := fun e => by rw [e, hu0'] at e4; cases e4
      refine ⟨p4, rfl, ⟨_, SqT.of e4⟩, ?_⟩
      refine for_it (walk_tup (xs := [p1, p2, p3].map V.ref)) (fun j σ H' => ∃ v10 v11, σ = [some (.ref u), some (.int (0 + (i : Int))), some (.ref bt), some (.ref x), some (.ref L), w5, w6, w7, some (.ref s0), some (.ref s1), v10, v11, v12] ∧ Keep u Hh H' ∧ Urn H' u (n + 500 * i + 70 + 100 * j))
        ⟨_, _, rfl, Keep.refl _ _, tq.ur⟩ (fun j σ H' _ ⟨_, _, _, s', _⟩ => SqT.of (s' _ _ n4 e4)) (fun j xj σ H5 H6 hj ⟨w10, w11, e, s5, ur5⟩ y => ?_) (fun σ H5 ⟨w10, w11, e, s5, ur5⟩ => ?_)
      · subst e
        obtain ⟨rfl, hv⟩ := y
        obtain ⟨p, lo, hi', mm, vv, rfl, hp, gl, gh, le⟩ := tri xj (List.mem_of_getElem? hv)
        have hj3 : j < 3 := hj
        have np : p ≠ u := fun e => by rw [e, hu0'] at hp; cases hp
        have tq5 := tq.keep s5 ur5
        have gl5 := gl.keepL hu0' s5
        have gh5 := gh.keepL hu0' s5
        refine ⟨_, _, rfl, SqT.of (s5 _ _ np hp), rfl, _, _, rfl, _, _, rfl, rfl, ?_⟩
        refine ⟨_, rfl, _, rfl, rd_le B gl5 gh5 fun H7 s7 => ⟨_, rfl, ?_⟩⟩
        rw [le]
        have tq7 := tq5.same s7
        refine iteF ⟨_, rfl, _, rfl, _, rfl, _, rfl, _, rfl, u, bt, x, lo, hi', ns, R, mm, vv, n + 500 * i + 70 + 100 * j, rfl, tq7.ur, by omega, tq7.bk, tb, sok, tq7.ko, gl5.same s7, gh5.same s7, le, fun H8 k8 ur8 => ⟨_, rfl, iteF ?_⟩⟩
        exact ⟨_, _, rfl, (s5.trans (Same.keep s7)).trans k8, ur8⟩
      · subst e
        exact ⟨_, _, rfl, tq.keep s5 ur5, q0.keepL hu0' s5, q1.keepL hu0' s5⟩
    rintro σ8 Hh ⟨w10, w11, rfl, tn, g0', g1'⟩
    clear tn0 g0 g1
    refine ⟨_, rfl, _, rfl, rd_le B g0' g1' fun H7 s7 => ⟨_, rfl, ?_⟩⟩
    have tn7 := tn.same s7
    refine two (fun le => ?_) (fun _ => ?_)
    · refine ⟨_, rfl, _, rfl, _, rfl, _, rfl, _, rfl, u, bt, x, s0, s1, ns, R, m, v, n + 500 * i + 370, rfl, tn7.ur, by omega, tn7.bk, tb, sok, tn7.ko, g0'.same s7, g1'.same s7, le, fun H8 k8 ur8 => ⟨_, rfl, iteF ?_⟩⟩
      exact ⟨_, _, _, _, _, _, _, _, _, _, _, _, rfl, ur8.le (by omega), tn7.kp.trans k8⟩
    · exact ⟨_, _, _, _, _, _, _, _, _, _, _, _, rfl, tn7.ur.le (by omega), tn7.kp⟩
end
end Jd
namespace Jd
open PySem PySem.Spec PyProof.Rows L2
/-! ### the law -/
def spLaw (K : PySem.W.Frag) : Sp := fun vs H Q _ => ∃ (a : Addr) (ns : List Int), vs = [.ref a] ∧ SqL K H a (ns.map V.int) ∧ ns.length ≤ 63 ∧ ∀ H', Same H H' → Q (.bl true) H'
section
variable {P : Program} {w : World} {K : PySem.W.Frag} {mg : Str → Option Value} {base : Heap}
abbrev NW : List Str := ["_law_script", "_law_cells_here", "_law_k"]
theorem sc_law : FnScope NW ["_law_script"] (defScope s_law) := ⟨rfl, rfl, rfl, by decide +kernel, rfl, by decide +kernel, by decide +kernel⟩
theorem ok_law (B : Bk K mg) {fd : FuncData} (F : Fun K "law" "law" s_law (He.ga K "law") fd) : FnOk P w K mg base CX0 13 (He.ga K "law") fd ["_law_script"] (spLaw K) := by
  obtain ⟨fdC, GC, bC⟩ := (ok_law_cells (P := P) (w := w) (base := base) B).ex
  have kC := (ok_law_cells (P := P) (w := w) (base := base) B).kp
  obtain ⟨fdX, GX, bX⟩ := (ok_law_box (P := P) (w := w) (base := base) B).ex
  have kX := (ok_law_box (P := P) (w := w) (base := base) B).kp
  obtain ⟨fdR, GR, bR⟩ := (ok_right (P := P) (w := w) (base := base) B).ex
  have kR := (ok_right (P := P) (w := w) (base := base) B).kp
  refine F.ok sc_law (fun vs H Q E h => ?_) (fun cdv A outer s H vs Q E hr h => ?_)
  · obtain ⟨_, _, rfl, _⟩ := h
    rfl
  · obtain ⟨a, ns, rfl, hs, hn, k⟩ := h
    have hr1 : Room 1 _ := hr.mono (by decide)
    refine ⟨_, pss_cons (ps_set (i := 1) sc_law.nd rfl (Or.inr rfl) (pe_call GC hr1 rfl B.g_law_cells kC bC .nil pass0 (pa_cons (pv 0) (pa_cons pe_int pa_nil))))
      (pss_one (ps_ret (pe_callB (cr_all rfl) (by rfl) B.b_all (by decide +kernel) (pa_cons (pe_lc (own := [("_law_k", 2)]) (g := gName 2) (tt := tYes) rfl sc_law.nd (pi_range1 rfl B.b_range (pa_cons (pe_callB call_len (by rfl) B.b_len (by decide +kernel) (pa_cons (pv 1) pa_nil)) pa_nil)) (blkOk_by (N := NW) (sc := defScope s_law) (by decide +kernel))
          (fun _ _ _ _ _ => pg_name (i := 2) sc_law.nd rfl (Or.inl rfl)) (fun _ _ _ _ _ => pts_nil) (fun _ _ _ _ _ => pe_call GR hr rfl B.g_law_right kR bR .nil pass0 (pa_cons (pe_call GX hr1 rfl B.g_law_box kX bX .nil pass0 (pa_cons (pv 1) (pa_cons (pv 2) pa_nil))) pa_nil))) pa_nil)))), ?_⟩
    refine ⟨_, rfl, a, ns, rfl, hs, hn, fun H1 p ms s1 np hp h1 h3 => ?_⟩
    refine ⟨_, rfl, _, _, rfl, .inl ⟨_, SqL.of hp, rfl⟩, _, rfl, by rw [List.length_map]; omega, by rw [List.length_map]; omega, fun D nD => ?_⟩
    refine lc_fm (n := ms.length) (by rw [List.length_map]; exact walk_range) (fun _ => some (.bl true)) nD (Nat.le_trans h3 (by decide)) (fun _ _ => trivial) (fun i x H2 H3 Kt Kf hi s2 y kt kf => ?_) (fun H2 s2 hD2 => ?_)
    · obtain ⟨rfl, rfl⟩ := y
      refine ⟨rfl, iteT (B := Kf H3) ?_⟩
      refine ⟨_, rfl, _, rfl, p, ms, i, by show [V.ref p, V.int (0 + (i : Int))] = _; rw [Int.zero_add], SqL.of (s2 _ _ hp), hi, by omega, fun H4 u s4 nu hu => ?_⟩
      refine ⟨u, _, rfl, hu, by decide, fun H5 kp => kt _ _ rfl fun b o q => kp _ _ (ne_of_none q nu) (s4 _ _ q)⟩
    · refine ⟨D, List.replicate ms.length true, rfl, SqL.of (hD2.trans (by rw [rep_true])), ?_⟩
      rw [rep_all]
      exact k _ (s1.trans s2)
theorem one_arg {fd : FuncData} (F : Fun K "law" "law" s_law (He.ga K "law") fd) (s : Shared) (u : Value) : BindsTo s fd ⟨[u], []⟩ [("_law_script", u)] := by
  obtain ⟨oc, od, kV, doc, pm, an, cdv, ct, osl, rfl, lk, hcd⟩ := F.ex
  exact .of_eq rfl
end
end Jd
namespace Jd
open PySem PySem.W PySem.Calls PyProof.Rows
/-! ### the end -/
abbrev lawDef := HandSHeadRun.topDef R.prog 61
theorem e_def : defOf qv R.name = some (lawDef, []) := by kernel_rfl
theorem e_the : R.prog.theDef R.name = some (lawDef.params, lawDef.body, lawDef.scope) := by kernel_rfl
theorem e_kw : kwWritten? lawDef.params.kwonlyargs lawDef.params.kw_defaults = some [] := by kernel_rfl
theorem e_wr : (!R.writes || R.records.isEmpty) = true := by rfl
theorem e_ok : (chainsOk qv && opensWell R.prog && (frees R.toRowW && R.within.isEmpty)) = true := by decide +kernel
theorem e_bare : R.prog.bare := ⟨rfl, rfl, rfl, rfl, rfl, by decide +kernel⟩
theorem e_name : lawDef.name = ("law" : PySem.Str) := by kernel_rfl
theorem e_nodf : lawDef.params.defaults = [] := by kernel_rfl
theorem e_prom : R.toRowW.promised := by w_witness2
theorem e_walk : WalkO qv loose (XL qv []) hk.says R.toRowW lawDef [] fun f vs => PySem.call f vs := by
  refine L2.walk_ofE (l := PySem.Challenge.rw_keyspans_k06_whole_what_parts_two_stages) (n := 63) (k := 13) (x := "_law_script") (CX := L2.CX0) rfl (by decide) e_nodf ⟨rfl, by decide, by decide⟩ ?F (fun _ _ _ _ z => z)
  intro w mg fa h Y G hmg0
  obtain ⟨K, KX, c⟩ := Y
  have hmg : mg ("law" : PySem.Str) = some (.ref fa) := by
    rw [← e_name]
    exact hmg0
  have B : Bk K mg := ⟨c, h, KX, G⟩
  have ef : fa = He.ga K "law" := by
    have q := B.g_law
    rw [hmg] at q
    injection q with q
    injection q
  subst ef
  obtain ⟨fd, F⟩ := B.F_law
  exact ⟨K, fd, spLaw K, KX, fun s u => one_arg F s u, fun H a ns hl _ hS => ⟨a, ns, rfl, hS, hl, fun _ _ => rfl⟩, fun base _ _ => ok_law B F⟩
theorem e_all (said : R.wellSaid = true) : R.Holds :=
  HandSHeadRun.head_imp (r := R) (q := qv) (H := hk) (ob := ob) (M := 6000) (loose := loose) (d := lawDef) (kwd := []) ob_eq run e_def e_the e_kw e_wr said e_ok e_bare e_prom e_walk
end Jd
open PySem PySem.W PySem.Calls PyProof.Rows
theorem PySem.Challenge.cw_keyspans_k06_whole_what_parts_two_stages_holds : PySem.Challenge.rw_keyspans_k06_whole_what_parts_two_stages.Holds := by
  w_on; o_law
  exact Jd.e_all (by assumption)
