import PyProof.Rows.All
import Wide.All
import OpenK.AllK
import Wide.FinOn
import HandS.ForMost
import HandS.SetFor
import HandS.Strs
import HandS.ListItems
import KE.KDictSum
import HandS.IsInst
import HandS.Wide
import HandS.Walk
import HandS.ForExc
import KE.KExcInit
import HandS.ExcIs
import HandS.ExcValue
import HandS.TryMany
import HandS.Gcd
import PyProof.ExcClass
import PyProof.RulesRaise
import PyProof.FactsTree
import HandS.HotCalls
import HandS.ExcField
import HandS.Lambda
import KE.KExcIs
import HandS.Head0
import HandS.Head1
import HandS.Head2
import HandS.Head3
import HandS.HeadHook4
import HandS.HeadNt
import HandS.TupAny
import HandS.Style
import HandS.TupLe
import HandS.Codes
import HandS.TupMul
import HandS.EndTab
import PySem.Challenge.RW_joinhouse_k00_words_and_errors
set_option Elab.async false
set_option linter.all false
/-! ## B1 -/
set_option maxRecDepth 100000
set_option maxHeartbeats 2000000
noncomputable section
namespace K0
open PySem PySem.Spec PyProof.Rows L2
def keyT (e : Int × Value) : Str := match e.2 with | .str k _ => k | _ => Str.empty
def GoodT (w : World) (e : Int × Value) : Prop := ∃ k tk, e.2 = Value.str k tk ∧ e.1 = hashStr w k

/-- the set of ints at a: S its members, n their number; its table rises and can be walked -/
def SetT (w : World) (h : Heap) (a : Addr) (S : Str → Bool) (n : Nat) : Prop :=
  ∃ o es ep t, h.get? a = some o ∧ o.ExactSet ∧ o.data = .set es ep t ∧ (∀ e ∈ es.toList, GoodT w e) ∧ (es.toList.map keyT).Nodup ∧ (∀ k, S k = true ↔ k ∈ es.toList.map keyT) ∧
    es.size < scanBound ∧ t.fits es.size = true ∧ es.size = n ∧ Ris t.place.toList ∧ (w.params.followText "set-order" = true ∨ t.led = true)

section
variable {P : Program} {w : World} {h h' : Heap} {a : Addr} {S : Str → Bool} {n : Nat}

theorem SetT.at (R : SetT w h a S n) (k : ∀ o, h.get? a = some o → h'.get? a = some o) : SetT w h' a S n := by
  obtain ⟨o, es, ep, t, ho, r⟩ := R
  exact ⟨o, es, ep, t, k o ho, r⟩
theorem SetT.lt (R : SetT w h a S n) : a < h.objs.size := by
  obtain ⟨o, es, ep, t, ho, r⟩ := R
  exact Heap.lt_size ho
theorem SetT.congr {S' : Str → Bool} (R : SetT w h a S n) (e : ∀ k, S' k = S k) : SetT w h a S' n := by
  have q : S' = S := funext e
  rw [q]; exact R
theorem goodT_elems {l : List (Int × Value)} (g : ∀ e ∈ l, GoodT w e) : ElemsOf (strKind P w) l := fun e he => by
  obtain ⟨k, tk, h1, h2⟩ := g e he
  exact ⟨⟨k, by rw [h1]; exact strKind_is P w k tk, h2⟩, by rw [h1] <;> rfl⟩
theorem goodT_is {e : Int × Value} (g : GoodT w e) (k : Str) : (strKind P w).is k e.2 = true ↔ keyT e = k := by
  obtain ⟨k0, tk, h1, _⟩ := g
  unfold keyT
  rw [h1]
  show (Value.isStrOf k (.str k0 tk) = true) ↔ k0 = k
  simp only [Value.isStrOf, beq_iff_eq, decide_eq_true_eq]
theorem goodT_mem {l : List (Int × Value)} (g : ∀ e ∈ l, GoodT w e) (k : Str) : k ∈ l.map keyT ↔ ∃ e ∈ l, (strKind P w).is k e.2 = true := by
  rw [List.mem_map]
  constructor
  · rintro ⟨e, he, q⟩
    exact ⟨e, he, (goodT_is (g e he) k).2 q⟩
  · rintro ⟨e, he, q⟩
    exact ⟨e, he, (goodT_is (g e he) k).1 q⟩
theorem SetT.setOf (R : SetT w h a S n) : h.SetOf (strKind P w) a S n := by
  obtain ⟨o, es, ep, t, ho, hx, hd, g, nd, hm, hb, hf, hn, _⟩ := R
  exact ⟨o, es, ep, t, ho, hx, hd, goodT_elems g, fun k => (hm k).trans (goodT_mem g k), hb, hf, hn⟩
end

section
variable {P : Program} {w : World} {A : Around} {E : Value → Shared → Prop} {s : Shared} {a : Addr} {S : Str → Bool} {n : Nat}

/-! ### add -/
theorem setT_add_tail {g : Bool → Sem Unit} (hg : ∀ (b : Bool) (s₁ : Shared) (Q' : Unit → Shared → Prop), Q' () s₁ → wpAny (model P w) A (g b) Q' E s₁)
    {o : Obj} {es : Array (Int × Value)} {ep : Nat} {t : SetTable} (ho : s.heap.get? a = some o) (hex : o.ExactSet) (hd : o.data = .set es ep t)
    {es1 : Array (Int × Value)} {t2 : SetTable} {S' : Str → Bool} (g1 : ∀ e ∈ es1.toList, GoodT w e) (nd1 : (es1.toList.map keyT).Nodup) (m1 : ∀ k, S' k = true ↔ k ∈ es1.toList.map keyT)
    (hb1 : es1.size < scanBound) (hf2 : t2.fits es1.size = true) (hr : Ris t2.place.toList) (hl : w.params.followText "set-order" = true ∨ t2.led = true) {wasDummy : Bool} {R : Option Bool → Shared → Prop}
    (hR : ∀ h', Heap.SameBut a s.heap h' → SetT w h' a S' es1.size → R (some true) { s with heap := h' }) :
    wpAny (model P w) A (do
        storeSet a es1 t2
        if (!wasDummy && t2.tooFull) = true then do
            g (relayAll t2 es1 (SetTable.grown es1.size)).2.2
            storeSet a (relayAll t2 es1 (SetTable.grown es1.size)).1 (relayAll t2 es1 (SetTable.grown es1.size)).2.1
            pure (some true)
          else pure (some true)) R E s := by
  refine wpAny_bind (wpAny_storeSet_of ho hd ?_ (fits_of_scanBound hb1))
  have ho1 := store_at (es' := es1) (t' := t2) ho hd
  have sb1 := Heap.SameBut.update s.heap a (Obj.putSet es1 t2)
  split
  · have pm := relayAll_perm t2 es1 (SetTable.grown es1.size)
    have hf3 := relayAll_fits t2 es1 (SetTable.grown es1.size)
    have hr3 := relayAll_ris t2 es1 (SetTable.grown es1.size)
    have hl3 := relayAll_led t2 es1 (SetTable.grown es1.size)
    generalize relayAll t2 es1 (SetTable.grown es1.size) = Z at pm hf3 hr3 hl3 ⊢
    obtain ⟨es2, t3, gave⟩ := Z
    dsimp only at pm hf3 hr3 hl3 ⊢
    have hsz : es2.size = es1.size := by rw [← Array.length_toList, pm.length_eq, Array.length_toList]
    have hb2 : es2.size < scanBound := by rw [hsz]; exact hb1
    refine wpAny_bind (hg _ _ _ ?_)
    refine wpAny_bind (wpAny_storeSet_of ho1 rfl ?_ (fits_of_scanBound hb2))
    have ho2 := store_at (es' := es2) (t' := t3) ho1 rfl
    refine wpAny_pure (hR _ (sb1.trans (Heap.SameBut.update _ a _)) ?_)
    exact ⟨_, es2, _, t3, ho2, hex, rfl, fun e he => g1 e (pm.mem_iff.mp he), (pm.map keyT).nodup_iff.mpr nd1, fun k => (m1 k).trans (pm.map keyT).mem_iff.symm, hb2, hf3, hsz, hr3,
      hl.imp id fun z => by rw [hl3]; exact z⟩
  · exact wpAny_pure (hR _ sb1 ⟨_, es1, _, t2, ho1, hex, rfl, g1, nd1, m1, hb1, hf2, rfl, hr, hl⟩)

theorem setT_add_hashed {k : Str} {tk : Tok} {Q : Bool → Shared → Prop} (R : SetT w s.heap a S n) (room : n + 1 < scanBound)
    (hQ : ∀ h', Heap.SameBut a s.heap h' → SetT w h' a (fun j => S j || decide (j = k)) (if S k = true then n else n + 1) → Q (!S k) { s with heap := h' }) :
    wpAny (model P w) A (setAddHashed a (.str k tk) ((strKind P w).hash k)) Q E s := by
  obtain ⟨o, es, ep, t, ho, hex, hd, g, nd, hm, hb, hf, hn, hr, hl⟩ := R
  have hkey : (strKind P w).is k (.str k tk) = true := strKind_is P w k tk
  have hsc : (Value.str k tk).scannable = true := rfl
  have hel : ElemsOf (strKind P w) es.toList := goodT_elems g
  unfold setAddHashed setAddHashedIn
  refine wpAny_holding (wpAny_bind (wpAny_setState_of ho hd hf ?_))
  dsimp only
  rw [byScan_of hsc hb hel]
  simp only [↓reduceIte]
  unfold setAddByScan
  refine wpAny_bind ?_
  refine wpAny_bind (wpAny_rule ?_)
  refine wpAny_bind (wpAny_setScan_of hkey ho hd hf hel ?_)
  cases hfi : List.findIdx? (fun e => (strKind P w).is k e.2) es.toList with
  | some j =>
    dsimp only
    obtain ⟨hj, pj, _⟩ := List.findIdx?_eq_some_iff_getElem.mp hfi
    have hSk : S k = true := (hm k).2 ((goodT_mem (P := P) (w := w) g k).2 ⟨es.toList[j], List.getElem_mem hj, pj⟩)
    refine wpAny_pure (wpAny_pure ?_)
    have q := hQ s.heap (Heap.SameBut.refl a s.heap) ⟨o, es, ep, t, ho, hex, hd, g, nd, fun i => by
      rw [Bool.or_eq_true, decide_eq_true_eq, ← hm i]
      exact ⟨fun z => z.elim id (fun e => e ▸ hSk), .inl⟩, hb, hf, by rw [if_pos hSk]; exact hn, hr, hl⟩
    rw [hSk] at q
    exact q
  | none =>
    dsimp only
    have hnk : k ∉ es.toList.map keyT := fun z => by
      obtain ⟨e, he, q⟩ := (goodT_mem (P := P) (w := w) g k).1 z
      have c := List.findIdx?_eq_none_iff.mp hfi e he
      rw [q] at c
      cases c
    have hSk : S k = false := by
      cases q : S k with
      | false => rfl
      | true => exact absurd ((hm k).1 q) hnk
    have hgw : ∀ (b : Bool) {s₁ : Shared} {Q' : Unit → Shared → Prop}, Q' () s₁ → wpAny (model P w) A (match b with | true => rule "set.scan.the-table-gave-way" | false => pure ()) Q' E s₁ :=
      fun b s₁ Q' q => by cases b <;> first | exact wpAny_pure q | exact wpAny_rule q
    have pm := layNew_perm t es ((strKind P w).hash k) (.str k tk)
    have hf1 := layNew_fits t es ((strKind P w).hash k) (.str k tk)
    have hr1 := layNew_ris t es ((strKind P w).hash k) (.str k tk) hr
    have hl1 := layNew_led t es ((strKind P w).hash k) (.str k tk)
    generalize layNew t es ((strKind P w).hash k) (.str k tk) = Z at pm hf1 hr1 hl1 ⊢
    obtain ⟨es1, t1, wasDummy, gave⟩ := Z
    dsimp only at pm hf1 hr1 hl1 ⊢
    rw [Array.toList_push] at pm
    have pc : es1.toList.Perm (((strKind P w).hash k, Value.str k tk) :: es.toList) := pm.trans (List.perm_append_singleton _ _)
    have pk : (es1.toList.map keyT).Perm (k :: es.toList.map keyT) := pc.map keyT
    have g1 : ∀ e ∈ es1.toList, GoodT w e := fun e he => by
      rcases List.mem_cons.mp (pc.mem_iff.mp he) with z | z
      · rw [z]; exact ⟨k, tk, rfl, rfl⟩
      · exact g e z
    have nd1 : (es1.toList.map keyT).Nodup := pk.nodup_iff.mpr (List.nodup_cons.mpr ⟨hnk, nd⟩)
    have m1 : ∀ i, (S i || decide (i = k)) = true ↔ i ∈ es1.toList.map keyT := fun i => by
      rw [Bool.or_eq_true, decide_eq_true_eq, hm i, pk.mem_iff, List.mem_cons]
      exact Or.comm
    have hsz : es1.size = n + 1 := by rw [← Array.length_toList, pc.length_eq, List.length_cons, Array.length_toList, hn]
    have hb1 : es1.size < scanBound := by rw [hsz]; exact room
    have hled : w.params.followText "set-order" = true ∨ t1.led = true := hl.imp id fun z => by rw [hl1]; exact z
    have fin : ∀ h', Heap.SameBut a s.heap h' → SetT w h' a (fun j => S j || decide (j = k)) es1.size → Q true { s with heap := h' } := fun h' sb r => by
      have q := hQ h' sb
      rw [hSk] at q
      rw [hsz] at r
      exact q r
    refine wpAny_bind (hgw _ ?_)
    split
    · refine wpAny_bind ?_
      rw [hashByValue_scannable 8 hsc]
      refine wpAny_pure ?_
      refine setT_add_tail ?_ ho hex hd g1 nd1 m1 hb1 ?_ ?_ ?_ ?_
      · intro b s₁ Q' q; cases b <;> first | exact wpAny_pure q | exact wpAny_rule q
      · first | (split <;> first | exact hf1 | exact SetTable.fits_plain_off hf1) | exact hf1
      · first | (split <;> exact hr1) | exact hr1
      · first | (split <;> exact hled) | exact hled
      · intro h' sb r; dsimp only; exact wpAny_pure (fin h' sb r)
    · refine wpAny_bind (wpAny_pure ?_)
      simp only [↓reduceIte]
      refine setT_add_tail ?_ ho hex hd g1 nd1 m1 hb1 hf1 hr1 hled ?_
      · intro b s₁ Q' q; cases b <;> first | exact wpAny_pure q | exact wpAny_rule q
      · intro h' sb r; dsimp only; exact wpAny_pure (fin h' sb r)

end
theorem setT_new_at {w : World} {h : Heap} {a : Addr} {ns : List Str} (ho : h.get? a = some { cls := .type "set", dict := none, data := .set #[] 0 (.fresh 0 0 (!w.params.followText "set-order")) }) : SetT w h a (fun j => decide (j ∈ ns.take 0)) 0 :=
  ⟨_, #[], 0, _, ho, ⟨rfl, rfl, rfl⟩, rfl, (fun e he => by simp at he), (by simp), (fun k => by simp), (by decide), (by rfl), rfl, List.Pairwise.nil, by
    show _ ∨ (!w.params.followText "set-order") = true
    cases w.params.followText "set-order"
    · exact .inr rfl
    · exact .inl rfl⟩
section
variable {P : Program} {w : World} {A : Around} {E : Value → Shared → Prop} {s : Shared}
theorem set_update_txts {I : Addr} {fp wr : List Addr} {G : Array GenState → Array GenState → Prop} {n : Nat} {Pv : Nat → Value → Prop} {St : Nat → Shared → Prop} {R : Result → Shared → Prop}
    (W : WalksS P w A.in1 I fp wr G n Pv St) (S : Addr) (hSf : S ∉ fp) (ns : List Str) (hn : n = ns.length) (hb : ns.length + 1 < scanBound) (hval : ∀ i v, Pv i v → ∃ k t, ns[i]? = some k ∧ v = .str k t) :
    ∀ (k i : Nat) (s : Shared), n - i = k → i ≤ n → St i s → (∃ c, c ≤ i ∧ SetT w s.heap S (fun j => decide (j ∈ ns.take i)) c) →
      (∀ s' c, Moved (S :: wr) G s s' → c ≤ n → SetT w s'.heap S (fun j => decide (j ∈ ns)) c → R (.ok (.ret .none)) s') →
      codeAny (model P w) A (.builtin "set.update.loop" ⟨[.ref S, .ref I], []⟩) R s := by
  have hSw : S ∉ wr := fun h => hSf (W.sub _ h)
  have hsub : ∀ b ∈ wr, b ∈ S :: wr := fun b hb => List.mem_cons_of_mem _ hb
  intro k
  induction k with
  | zero =>
    intro i s hk' hi hst ⟨c, hc, hS⟩ hR
    have hin : i = n := by omega
    subst hin
    refine codeAny_builtin F.entry_set_update_loop ?_
    rw [Around.under_plainId F.plain_set_update_loop _]
    show wpAny _ A.in1 (pyNext (.ref I) >>= _) _ _ s
    refine wpAny_bind (W.done s _ _ hst fun s' hm => ?_)
    show wpAny _ A.in1 (ret Value.none) _ _ s'
    have e : ns.take i = ns := List.take_of_length_le (by omega)
    rw [e] at hS
    exact wpAny_pure (hR s' c (hm.mono hsub) hc (hS.at fun o e => hm.heap S o hSw e))
  | succ k ih =>
    intro i s hk' hi hst ⟨c, hc, hS⟩ hR
    have hlt : i < n := by omega
    refine codeAny_builtin F.entry_set_update_loop ?_
    rw [Around.under_plainId F.plain_set_update_loop _]
    show wpAny _ A.in1 (pyNext (.ref I) >>= _) _ _ s
    refine wpAny_bind (W.item i s _ _ hlt hst fun v s' hP hst' hm => ?_)
    obtain ⟨z, t, hz, rfl⟩ := hval i v hP
    have hS' : SetT w s'.heap S (fun j => decide (j ∈ ns.take i)) c := hS.at fun o e => hm.heap S o hSw e
    show wpAny _ A.in1 (holding [Value.str z t] (setAdd S (.str z t)) >>= _) _ _ s'
    refine wpAny_bind (wpAny_holding ?_)
    unfold setAdd
    refine wpAny_holding ?_
    refine wpAny_bind ((strKind P w).pyHash (k := z) (strKind_is _ _ _ _) ?_)
    refine setT_add_hashed (s := { s' with toks := s'.toks + 1 }) hS' (by omega) fun h' hsb hS2 => ?_
    have hS3 : SetT w h' S (fun j => decide (j ∈ ns.take (i + 1))) (if decide (z ∈ ns.take i) = true then c else c + 1) := hS2.congr fun j => by
      rw [List.take_add_one, hz]
      simp [List.mem_append]
    have hc3 : (if decide (z ∈ ns.take i) = true then c else c + 1) ≤ i + 1 := by
      split <;> omega
    refine wpAny_pure ⟨plainId_quiet F.plain_set_update_loop _, ih (i + 1) _ (by omega) hlt (W.frame _ s' _ _ hst' (Nat.le_succ _) fun b hb o e => ?_) ⟨_, hc3, hS3⟩ fun s'' c2 hm'' hc'' hS'' => ?_⟩
    · rw [hsb.2 b (fun h : b = S => hSf (by rw [← h]; exact hb))]; exact e
    · refine hR s'' c2 (Moved.trans W.gtrans ((hm.mono hsub).then_heap (Nat.le_succ _) fun b o hb e => ?_) hm'') hc'' hS''
      rw [hsb.2 b (fun h : b = S => hb (by rw [h]; exact List.mem_cons_self))]; exact e

set_option maxRecDepth 100000 in
set_option maxHeartbeats 3200000 in
theorem call_set_tupT {l : Addr} {items : Array Value} (ns : List Str) {Q : Value → Shared → Prop} (hh : A.handled = none) (hl : s.heap.IsTuple l items) (hit : StrsAre items.toList ns) (hb : ns.length + 1 < scanBound)
    (h : ∀ (h' : Heap) (tk c : Nat), SetT w h' s.heap.objs.size (fun j => decide (j ∈ ns)) c → c ≤ ns.length → (∀ b o, s.heap.get? b = some o → h'.get? b = some o) → Q (.ref s.heap.objs.size) { s with heap := h', toks := tk }) :
    wpAny (model P w) A (call (.type "set") [.ref l]) Q E s := by
  have hisz : items.size = ns.length := by
    have q := StrsAre.length hit
    rw [Array.length_toList] at q
    exact q
  obtain ⟨c, tl, hmro⟩ := F.called_set.mro
  have hmade := F.called_set.made
  have hsub := F.called_set.sub
  refine wpAny_call (codeAny_of_tree ?_)
  show wpAny _ _ (callAny (.type "set") _) _ _ _
  refine wpAny_pure ⟨Code.quiet_builtin _ (by decide +kernel), codeAny_builtin F.entry_type_call ?_⟩
  rw [Around.under_plain (weight_type_call_type "set" [.ref l] []) rfl]
  have h1 := F.called_set.notType
  have h2 := F.called_set.canCreate
  have hct := F.typeCall_set_1 (.ref l)
  repeat (any_goals (first | assumption | wp_step))

  refine codeAny_mono (code_set_led1 (.ref l) (E := E) (Q₁ := fun obj s₁ => obj = .ref s.heap.objs.size ∧ s₁ = { s with heap := s.heap.push { cls := .type "set", dict := none, data := .set #[] 0 (.fresh 0 0 (!w.params.followText "set-order")) } }) ⟨rfl, rfl⟩) fun r s₁ hr => ?_
  cases r with
  | error e => exact hr
  | ok fl =>
    cases fl with
    | ret obj =>
      obtain ⟨rfl, rfl⟩ := hr
      have hS : (s.heap.push { cls := .type "set", dict := none, data := .set #[] 0 (.fresh 0 0 (!w.params.followText "set-order")) }).get? s.heap.objs.size = some { cls := .type "set", dict := none, data := .set #[] 0 (.fresh 0 0 (!w.params.followText "set-order")) } := Heap.get?_push_size _ rfl
      have hT : Shared.TypeIs { s with heap := s.heap.push { cls := .type "set", dict := none, data := .set #[] 0 (.fresh 0 0 (!w.params.followText "set-order")) } } (.ref s.heap.objs.size) "set" := ⟨_, hS, rfl⟩
      have hli := F.called_set.init.lookup
      have hbi := F.called_set.init.bind (.ref s.heap.objs.size)
      repeat (any_goals (first | assumption | wp_step))

      refine codeAny_mono (codeAny_call_builtin (R := wants (fun r s₂ => r = .none ∧ ∃ h' tk c, s₂ = { s with heap := h', toks := tk } ∧ SetT w h' s.heap.objs.size (fun j => decide (j ∈ ns)) c ∧ c ≤ ns.length ∧
          (∀ b o, s.heap.get? b = some o → h'.get? b = some o)) E) F.called_set.init.plain F.entry_set_init (check_set_init_1 hT ?_)) fun r₂ s₂ hr₂ => ?_
      · obtain ⟨ol, hol, hcl, nl, hdl⟩ := hl
        obtain ⟨ocls, odict, odata, oslots⟩ := ol
        simp only at hcl hdl
        subst hcl; subst hdl
        have hol' : (s.heap.push { cls := .type "set", dict := none, data := .set #[] 0 (.fresh 0 0 (!w.params.followText "set-order")) }).get? l = some { cls := .type "tuple", dict := odict, data := .seq items nl, slots := oslots } := Heap.get?_push_of_some _ hol
        have hsls := F.sub_tuple_set
        have hslf := F.sub_tuple_frozenset
        have hne : (Value.type "tuple" == Value.type "dict") = false := by decide
        have hl1 : (s.heap.push { cls := .type "set", dict := none, data := .set #[] 0 (.fresh 0 0 (!w.params.followText "set-order")) }).IsTuple l items := ⟨_, hol', rfl, nl, rfl⟩
        unfold Builtin.«set.__init__» noKeywords Builtin.Frozenset.updateFrom
        generalize hPI : pyIter = PI
        wp_walk
        subst hPI

        refine wpAny_pyIter_tuple hl1 ?_
        refine wpAny_bind (wpAny_runValue ?_)
        have hlS : l < s.heap.objs.size := Heap.lt_size hol
        have hh3 : A.in1.in1.in1.handled = none := by simp [hh]
        have hz1 : (s.heap.push { cls := .type "set", dict := none, data := .set #[] 0 (.fresh 0 0 (!w.params.followText "set-order")) }).objs.size = s.heap.objs.size + 1 := Heap.size_push ..
        have hneI : l ≠ (s.heap.push { cls := .type "set", dict := none, data := .set #[] 0 (.fresh 0 0 (!w.params.followText "set-order")) }).objs.size := by
          rw [Heap.size_push]; exact Nat.ne_of_lt (Nat.lt_succ_of_lt hlS)
        have hSf : s.heap.objs.size ∉ [(s.heap.push { cls := .type "set", dict := none, data := .set #[] 0 (.fresh 0 0 (!w.params.followText "set-order")) }).objs.size, l] := by
          rw [Heap.size_push]; simp only [List.mem_cons, List.mem_singleton, List.not_mem_nil, or_false, not_or]
          exact ⟨Nat.ne_of_lt (Nat.lt_succ_self _), Nat.ne_of_gt hlS⟩
        have hval : ∀ (i : Nat) (v : Value), items[i]? = some v → ∃ k t, ns[i]? = some k ∧ v = .str k t := fun i v hv => by
          have hi : i < ns.length := by rw [← hisz]; exact (Array.getElem?_eq_some_iff.mp hv).1
          obtain ⟨t, e⟩ := SS.strs_at hit i v (by rw [Array.getElem?_toList]; exact hv)
          refine ⟨ns[i], t, List.getElem?_eq_getElem hi, ?_⟩
          rw [e, List.getD_eq_getElem?_getD, List.getElem?_eq_getElem hi] <;> rfl
        refine set_update_txts ((Walks.tuple hh3 _ l hneI items).toS) s.heap.objs.size
          hSf ns hisz hb hval (items.size - 0) 0 _ (by omega) (Nat.zero_le _)
          ⟨⟨_, Heap.get?_push_size _ rfl, rfl, rfl⟩, (hl1.push _)⟩ ?hS0 ?hR
        case hS0 =>
          have hget : ((s.heap.push { cls := .type "set", dict := none, data := .set #[] 0 (.fresh 0 0 (!w.params.followText "set-order")) }).push { cls := .type "tuple_iterator", data := .fields #[.ref l, .int 0 0] }).get? s.heap.objs.size
              = some { cls := .type "set", dict := none, data := .set #[] 0 (.fresh 0 0 (!w.params.followText "set-order")) } := Heap.get?_push_of_some _ hS
          exact ⟨0, Nat.le_refl 0, setT_new_at hget⟩
        case hR =>
          intro s' c' hm hc' hS'
          obtain ⟨h', g2, d', tk', os'⟩ := s'
          have eg : g2 = s.gens := hm.gens
          have ed : d' = s.drawn := hm.drawn
          have eo : os' = s.os := hm.os
          subst eg; subst ed; subst eo
          show wpAny _ _ _ _ _ _
          refine wpAny_pure ?_
          show wpAny _ _ (ret Value.none) _ _ _
          rw [hisz] at hc'
          refine wpAny_pure ⟨rfl, h', tk', c', rfl, hS', hc', fun b o e => ?_⟩
          have hb0 : b < s.heap.objs.size := Heap.lt_size e
          have hb1 : b ≠ s.heap.objs.size := Nat.ne_of_lt hb0
          have hb2 : b ≠ (s.heap.push { cls := .type "set", dict := none, data := .set #[] 0 (.fresh 0 0 (!w.params.followText "set-order")) }).objs.size := by
            rw [Heap.size_push]; exact Nat.ne_of_lt (Nat.lt_succ_of_lt hb0)
          exact hm.heap b o (by simp only [List.mem_cons, List.mem_singleton, List.not_mem_nil, or_false, not_or]; exact ⟨hb1, hb2⟩) (Heap.get?_push_of_some _ (Heap.get?_push_of_some _ e))

      · cases r₂ with
        | error e => exact hr₂
        | ok fl₂ =>
          cases fl₂ with
          | ret r =>
            obtain ⟨rfl, h', tk, c', rfl, hS', hc', hk'⟩ := hr₂
            repeat (any_goals (first | assumption | wp_step))
            exact h _ _ _ hS' hc' hk'
          | _ => exact hr₂.elim
    | _ => exact hr.elim

end

end K0

/-! ## B2 -/
set_option maxRecDepth 100000
set_option maxHeartbeats 2000000
noncomputable section
namespace K0
open PySem PySem.Spec PyProof.Rows L2
section
variable {P : Program} {w : World} {A : Around} {E : Value → Shared → Prop} {s : Shared}
set_option maxHeartbeats 3200000 in
theorem call_set_listT {l : Addr} {items : Array Value} (ns : List Str) {Q : Value → Shared → Prop} (hh : A.handled = none) (hl : s.heap.IsList l items) (hit : StrsAre items.toList ns) (hb : ns.length + 1 < scanBound)
    (h : ∀ (h' : Heap) (tk c : Nat), SetT w h' s.heap.objs.size (fun j => decide (j ∈ ns)) c → c ≤ ns.length → (∀ b o, s.heap.get? b = some o → h'.get? b = some o) → Q (.ref s.heap.objs.size) { s with heap := h', toks := tk }) :
    wpAny (model P w) A (call (.type "set") [.ref l]) Q E s := by
  have hisz : items.size = ns.length := by
    have q := StrsAre.length hit
    rw [Array.length_toList] at q
    exact q
  obtain ⟨c, tl, hmro⟩ := F.called_set.mro
  have hmade := F.called_set.made
  have hsub := F.called_set.sub
  refine wpAny_call (codeAny_of_tree ?_)
  show wpAny _ _ (callAny (.type "set") _) _ _ _
  refine wpAny_pure ⟨Code.quiet_builtin _ (by decide +kernel), codeAny_builtin F.entry_type_call ?_⟩
  rw [Around.under_plain (weight_type_call_type "set" [.ref l] []) rfl]
  have h1 := F.called_set.notType
  have h2 := F.called_set.canCreate
  have hct := F.typeCall_set_1 (.ref l)
  repeat (any_goals (first | assumption | wp_step))

  refine codeAny_mono (code_set_led1 (.ref l) (E := E) (Q₁ := fun obj s₁ => obj = .ref s.heap.objs.size ∧ s₁ = { s with heap := s.heap.push { cls := .type "set", dict := none, data := .set #[] 0 (.fresh 0 0 (!w.params.followText "set-order")) } }) ⟨rfl, rfl⟩) fun r s₁ hr => ?_
  cases r with
  | error e => exact hr
  | ok fl =>
    cases fl with
    | ret obj =>
      obtain ⟨rfl, rfl⟩ := hr
      have hS : (s.heap.push { cls := .type "set", dict := none, data := .set #[] 0 (.fresh 0 0 (!w.params.followText "set-order")) }).get? s.heap.objs.size = some { cls := .type "set", dict := none, data := .set #[] 0 (.fresh 0 0 (!w.params.followText "set-order")) } := Heap.get?_push_size _ rfl
      have hT : Shared.TypeIs { s with heap := s.heap.push { cls := .type "set", dict := none, data := .set #[] 0 (.fresh 0 0 (!w.params.followText "set-order")) } } (.ref s.heap.objs.size) "set" := ⟨_, hS, rfl⟩
      have hli := F.called_set.init.lookup
      have hbi := F.called_set.init.bind (.ref s.heap.objs.size)
      repeat (any_goals (first | assumption | wp_step))

      refine codeAny_mono (codeAny_call_builtin (R := wants (fun r s₂ => r = .none ∧ ∃ h' tk c, s₂ = { s with heap := h', toks := tk } ∧ SetT w h' s.heap.objs.size (fun j => decide (j ∈ ns)) c ∧ c ≤ ns.length ∧
          (∀ b o, s.heap.get? b = some o → h'.get? b = some o)) E) F.called_set.init.plain F.entry_set_init (check_set_init_1 hT ?_)) fun r₂ s₂ hr₂ => ?_
      · obtain ⟨ol, hol, hcl, nl, hdl⟩ := hl
        obtain ⟨ocls, odict, odata, oslots⟩ := ol
        simp only at hcl hdl
        subst hcl; subst hdl
        have hol' : (s.heap.push { cls := .type "set", dict := none, data := .set #[] 0 (.fresh 0 0 (!w.params.followText "set-order")) }).get? l = some { cls := .type "list", dict := odict, data := .seq items nl, slots := oslots } := Heap.get?_push_of_some _ hol
        have hsls := F.sub_list_set
        have hslf := F.sub_list_frozenset
        have hne : (Value.type "list" == Value.type "dict") = false := by decide
        have hl1 : (s.heap.push { cls := .type "set", dict := none, data := .set #[] 0 (.fresh 0 0 (!w.params.followText "set-order")) }).IsList l items := ⟨_, hol', rfl, nl, rfl⟩
        unfold Builtin.«set.__init__» noKeywords Builtin.Frozenset.updateFrom
        generalize hPI : pyIter = PI
        wp_walk
        subst hPI

        refine wpAny_pyIter_list hl1 ?_
        refine wpAny_bind (wpAny_runValue ?_)
        have hlS : l < s.heap.objs.size := Heap.lt_size hol
        have hh3 : A.in1.in1.in1.handled = none := by simp [hh]
        have hz1 : (s.heap.push { cls := .type "set", dict := none, data := .set #[] 0 (.fresh 0 0 (!w.params.followText "set-order")) }).objs.size = s.heap.objs.size + 1 := Heap.size_push ..
        have hneI : l ≠ (s.heap.push { cls := .type "set", dict := none, data := .set #[] 0 (.fresh 0 0 (!w.params.followText "set-order")) }).objs.size := by
          rw [Heap.size_push]; exact Nat.ne_of_lt (Nat.lt_succ_of_lt hlS)
        have hSf : s.heap.objs.size ∉ [(s.heap.push { cls := .type "set", dict := none, data := .set #[] 0 (.fresh 0 0 (!w.params.followText "set-order")) }).objs.size, l] := by
          rw [Heap.size_push]; simp only [List.mem_cons, List.mem_singleton, List.not_mem_nil, or_false, not_or]
          exact ⟨Nat.ne_of_lt (Nat.lt_succ_self _), Nat.ne_of_gt hlS⟩
        have hval : ∀ (i : Nat) (v : Value), items[i]? = some v → ∃ k t, ns[i]? = some k ∧ v = .str k t := fun i v hv => by
          have hi : i < ns.length := by rw [← hisz]; exact (Array.getElem?_eq_some_iff.mp hv).1
          obtain ⟨t, e⟩ := SS.strs_at hit i v (by rw [Array.getElem?_toList]; exact hv)
          refine ⟨ns[i], t, List.getElem?_eq_getElem hi, ?_⟩
          rw [e, List.getD_eq_getElem?_getD, List.getElem?_eq_getElem hi] <;> rfl
        refine set_update_txts ((Walks.list hh3 _ l hneI items).toS) s.heap.objs.size
          hSf ns hisz hb hval (items.size - 0) 0 _ (by omega) (Nat.zero_le _)
          ⟨⟨_, Heap.get?_push_size _ rfl, rfl, rfl⟩, (hl1.push _)⟩ ?hS0 ?hR
        case hS0 =>
          have hget : ((s.heap.push { cls := .type "set", dict := none, data := .set #[] 0 (.fresh 0 0 (!w.params.followText "set-order")) }).push { cls := .type "list_iterator", data := .fields #[.ref l, .int 0 0] }).get? s.heap.objs.size
              = some { cls := .type "set", dict := none, data := .set #[] 0 (.fresh 0 0 (!w.params.followText "set-order")) } := Heap.get?_push_of_some _ hS
          exact ⟨0, Nat.le_refl 0, setT_new_at hget⟩
        case hR =>
          intro s' c' hm hc' hS'
          obtain ⟨h', g2, d', tk', os'⟩ := s'
          have eg : g2 = s.gens := hm.gens
          have ed : d' = s.drawn := hm.drawn
          have eo : os' = s.os := hm.os
          subst eg; subst ed; subst eo
          show wpAny _ _ _ _ _ _
          refine wpAny_pure ?_
          show wpAny _ _ (ret Value.none) _ _ _
          rw [hisz] at hc'
          refine wpAny_pure ⟨rfl, h', tk', c', rfl, hS', hc', fun b o e => ?_⟩
          have hb0 : b < s.heap.objs.size := Heap.lt_size e
          have hb1 : b ≠ s.heap.objs.size := Nat.ne_of_lt hb0
          have hb2 : b ≠ (s.heap.push { cls := .type "set", dict := none, data := .set #[] 0 (.fresh 0 0 (!w.params.followText "set-order")) }).objs.size := by
            rw [Heap.size_push]; exact Nat.ne_of_lt (Nat.lt_succ_of_lt hb0)
          exact hm.heap b o (by simp only [List.mem_cons, List.mem_singleton, List.not_mem_nil, or_false, not_or]; exact ⟨hb1, hb2⟩) (Heap.get?_push_of_some _ (Heap.get?_push_of_some _ e))

      · cases r₂ with
        | error e => exact hr₂
        | ok fl₂ =>
          cases fl₂ with
          | ret r =>
            obtain ⟨rfl, h', tk, c', rfl, hS', hc', hk'⟩ := hr₂
            repeat (any_goals (first | assumption | wp_step))
            exact h _ _ _ hS' hc' hk'
          | _ => exact hr₂.elim
    | _ => exact hr.elim

end
end K0

/-! ## B3 -/
set_option maxRecDepth 100000
set_option maxHeartbeats 2000000
noncomputable section
namespace K0
open PySem PySem.Spec PyProof.Rows L2
theorem txts_of : ∀ (l : List Value), (∀ v ∈ l, ∃ k tk, v = Value.str k tk) → StrsAre l (l.map strOf)
  | [], _ => .nil
  | v :: l, h => by
    obtain ⟨k, tk, rfl⟩ := h v List.mem_cons_self
    exact .cons k tk (txts_of l fun u hu => h u (List.mem_cons_of_mem _ hu))
section
variable {P : Program} {w : World} {A : Around} {E : Value → Shared → Prop} {s : Shared} {a : Addr}
theorem sorted_setT {S : Str → Bool} {n : Nat} {Q : Value → Shared → Prop} (R : SetT w s.heap a S n) (hh : A.handled = none) (h64 : n < 64)
    (hQ : ∀ s' p (out : Array Value) (c : Nat) (ns : List Str), (∀ b o, s.heap.get? b = some o → s'.heap.get? b = some o) → s'.gens = s.gens → s'.os = s.os → s.heap.objs.size ≤ p →
      s'.heap.get? p = some (seqObj "list" out c) → StrsAre out.toList ns → PyProof.Rows.sortedS ns = true → ns.Nodup → (∀ k, k ∈ ns ↔ S k = true) → ns.length = n → Q (.ref p) s') :
    wpAny (model P w) A (call (.builtin "sorted") [.ref a]) Q E s := by
  obtain ⟨o, es, ep, t, ho, hex, hd, g, nd, hm, hb, hf, hn, hr, hl⟩ := R
  refine Calls.call_function_entry kind_sorted plain_sorted entry_sorted (args_sorted1 _) ?_
  unfold Builtin.«sorted»
  refine wpAny_bind (m := checkCount "sorted" 1 1 _) (wpAny_pure ?_)
  refine wpAny_bind (collect_set (A := A.in1) hh ⟨o, ho, hex.1, hd⟩ hf hb hr hl fun s1 vs k1 hz g1 o1 pm => ?_)
  have hvl : vs.length = n := by rw [pm.length_eq, List.length_map, Array.length_toList]; exact hn
  have hI : StrsAre vs (vs.map strOf) := txts_of vs fun v hv => by
    obtain ⟨e, he, q⟩ := List.mem_map.mp (pm.mem_iff.mp hv)
    obtain ⟨k, tk, h1, _⟩ := g e he
    exact ⟨k, tk, by rw [← q]; exact h1⟩
  have pk : (vs.map strOf).Perm (es.toList.map keyT) := by
    have q := pm.map strOf
    rw [List.map_map] at q
    have e2 : es.toList.map (strOf ∘ fun x => x.2) = es.toList.map keyT := List.map_congr_left fun e he => by
      obtain ⟨k, tk, h1, _⟩ := g e he
      show strOf e.2 = keyT e
      unfold keyT
      rw [h1] <;> rfl
    exact q.trans (by rw [← e2])
  refine wpAny_bind (wpAny_newList ?_ (by rw [hvl, sizeLine_eq]; omega))
  have hoL : (s1.heap.push (seqObj "list" vs.toArray 0)).get? s1.heap.objs.size = some (seqObj "list" vs.toArray 0) := Heap.get?_push_size _ rfl
  refine wpAny_bind (wpAny_holding (wpAny_call_entry slot_list_sort ⟨_, hoL, rfl⟩ entry_list_sort (list_sort_treeK strKind_oneLt hoL hI.keysOf (fun v₁ v₂ rest e => keyKind_strs (by rw [← e]; exact hI)) (by rw [hvl]; exact h64) fun st' hp hs => ⟨_, rfl, ?_⟩) (args_list_sort _)))
  obtain ⟨ns', a1, a2, a3⟩ := sorted_out_str hI hp hs
  obtain ⟨c, hc⟩ := sortedHeap_at (vs := vs) (out := (arrOf st').map (·.2)) hoL
  have pn : ns'.Perm (es.toList.map keyT) := a2.trans pk
  refine wpAny_pure ⟨_, rfl, hQ _ s1.heap.objs.size _ c ns' (fun b u e => ?_) g1 o1 hz hc a1 a3 (pn.nodup_iff.mpr nd) (fun k => by rw [pn.mem_iff, ← hm k]) ?_⟩
  · have q := k1 b u e
    have hlt := Heap.lt_size q
    show (sortedHeap (s1.heap.push (seqObj "list" vs.toArray 0)) s1.heap.objs.size vs _).get? b = some u
    rw [sortedHeap_old (Nat.ne_of_lt hlt) (by rw [size_push']; exact Nat.lt_succ_of_lt hlt)]
    exact Heap.get?_push_of_some _ q
  · rw [pn.length_eq, List.length_map, Array.length_toList]; exact hn
end
/-! ### the rules: set(texts), len, sorted -/
def SetTO (w : World) (a : Addr) (S : Str → Bool) (n : Nat) : HO := .ext fun h => SetT w h a S n
section
variable {X : Cx}
theorem setT_at {w : World} {P : Program} {H : Hp} {h : Heap} {a : Addr} {S : Str → Bool} {n : Nat} (R : SetT w h a S n) : ObjOk P w H h a (SetTO w a S n) := by
  have ⟨o, _, _, _, ho, _⟩ := R
  exact ⟨R, ⟨o, ho⟩, fun h1 h2 p k => SetT.at p k⟩
theorem setT_get {pins : List (Addr × Obj)} {σ : L2.St} {H : Hp} {s : Shared} {a : Addr} {S : Str → Bool} {n : Nat} (I : Inv X pins σ H s) (ha : H a = some (SetTO X.w a S n)) : SetT X.w s.heap a S n := (I.hok a _ ha).1
/-- set(xs), xs a tuple or a list of texts -/
def rSetTx (K : PySem.W.Frag) (w : World) : List V → Hp → VK → Prop := fun vs H Q => ∃ (l : Addr) (xs : List Str), vs = [.ref l] ∧ (SqT K H l (xs.map V.str) ∨ SqL K H l (xs.map V.str)) ∧ xs.length ≤ 1000 ∧
  ∀ p n, n ≤ xs.length → H p = none → Q (.ref p) (upd H p (SetTO w p (fun j => decide (j ∈ xs)) n))
theorem cr_setTx (hc : X.calm = true) : CallR X (.type "set") (rSetTx X.K X.w) := by
  intro pins s σ H vs us Q I r h
  obtain ⟨l, xs, rfl, hs, hl, q⟩ := h
  rw [Vals.ref1 r]
  have hb : xs.length + 1 < scanBound := by unfold scanBound; omega
  have fin : ∀ (h' : Heap) (tk c : Nat), SetT X.w h' s.heap.objs.size (fun j => decide (j ∈ xs)) c → c ≤ xs.length → (∀ b o, s.heap.get? b = some o → h'.get? b = some o) →
      EP X pins σ Q (.ref s.heap.objs.size) { s with heap := h', toks := tk } := fun h' tk c R hc' k =>
    ⟨.ref _, upd H s.heap.objs.size (SetTO X.w s.heap.objs.size (fun j => decide (j ∈ xs)) c), I.laid (t' := tk) k (Nat.le_refl _) (setT_at R), rfl, q _ c hc' (I.hok.fresh (Nat.le_refl _))⟩
  rcases hs with hs | hs
  · obtain ⟨its, rv, ht, _⟩ := I.tuple hs
    exact call_set_tupT xs (I.ok.hd hc) ht (by simpa using rv.strs) hb fin
  · obtain ⟨its, rv, ht, _⟩ := I.list hs
    exact call_set_listT xs (I.ok.hd hc) ht.isList (by simpa using rv.strs) hb fin
/-- len(set) -/
theorem call_lenTx : CallR X (.builtin "len") (fun vs H Q => ∃ (a : Addr) (S : Str → Bool) (n : Nat), vs = [.ref a] ∧ H a = some (SetTO X.w a S n) ∧ n ≤ 1000 ∧ ((∃ L : List Str, L.Nodup ∧ (∀ k, k ∈ L ↔ S k = true) ∧ L.length = n) → Q (.int n) H)) := by
  intro pins s σ H vs us Q I r h
  obtain ⟨a, S, n, rfl, ha, hn, q⟩ := h
  rw [Vals.ref1 r]
  obtain ⟨o, es, ep, t, ho, hex, hd, g, nd, hm, hb, hf, hsz, _⟩ := setT_get I ha
  refine call_len_set ho hex hd hf (by omega) ⟨.int n, H, (I.tok _), ⟨_, by rw [hsz]⟩, q ⟨es.toList.map keyT, nd, fun k => (hm k).symm, ?_⟩⟩
  rw [List.length_map, Array.length_toList]
  exact hsz
/-- sorted(set), fewer than 64 -/
def rSortTx (w : World) : List V → Hp → VK → Prop := fun vs H Q => ∃ (a : Addr) (S : Str → Bool) (n : Nat), vs = [.ref a] ∧ H a = some (SetTO w a S n) ∧ n < 64 ∧
  ∀ (ns : List Str) (p : Addr), PyProof.Rows.sortedS ns = true → ns.Nodup → (∀ k, k ∈ ns ↔ S k = true) → ns.length = n → H p = none → Q (.ref p) (upd H p (.lst (ns.map V.str)))
theorem cr_sortTx (hc : X.calm = true) : CallR X (.builtin "sorted") (rSortTx X.w) := by
  intro pins s σ H vs us Q I r h
  obtain ⟨a, S, n, rfl, ha, h64, q⟩ := h
  have R := setT_get I ha
  rw [Vals.ref1 r]
  refine sorted_setT R (I.ok.hd hc) h64 fun s' p out c ns k g o hp hg hi hs hnd hm hl => ?_
  have hlen : (ns.map V.str).length ≤ sizeLine := by rw [List.length_map, hl, sizeLine_eq]; omega
  have hn : H p = none := I.hok.fresh hp
  have J : Inv X pins σ (upd H p (.lst (ns.map V.str))) { s with heap := s'.heap, gens := s'.gens, drawn := s'.drawn, toks := s'.toks } :=
    I.call (ch := []) (Un.laid k hp hn) (I.hok.laid k hp ⟨hlen, out.toList, c, vals_of_strs hi, hg⟩) (by rw [g]; exact I.bare) (fun _ z => nomatch z)
  have e : s' = { s with heap := s'.heap, gens := s'.gens, drawn := s'.drawn, toks := s'.toks } := by
    cases s'
    cases s
    cases o
    rfl
  rw [e]
  exact ⟨.ref p, _, J, rfl, q ns p hs hnd hm hl hn⟩
end
end K0

/-! ## B4 -/
set_option maxRecDepth 100000
set_option maxHeartbeats 2000000
noncomputable section
namespace K0
open PySem PySem.Spec PyProof.Rows L2
section
variable {P : Program} {w : World} {A : Around} {E : Value → Shared → Prop} {s : Shared} {T : String} {r d : Addr} {n : Nat} {Pv : Nat → Value → Prop} {OK : Heap → Prop}
/-- tuple(view) -/
theorem tuple_src {Q : Value → Shared → Prop} (K : PySem.W.KdlSrc P w T r d n Pv OK) (hT : s.TypeIs (.ref r) T) (hne : (Value.type T == Value.type "tuple") = false) (hh : A.handled = none) (hok : OK s.heap) (hn : n ≤ sizeLine)
    (h : ∀ (h' : Heap) (tk : Nat) (acc : Array Value), (∀ b o, s.heap.get? b = some o → h'.get? b = some o) → ItemsOf Pv acc n → Q (.ref h'.objs.size) { s with heap := h'.push { cls := .type "tuple", data := .seq acc }, toks := tk }) :
    wpAny (model P w) A (call (.type "tuple") [.ref r]) Q E s := by
  refine callType_codes (Q₁ := fun obj s₁ => s₁.TypeIs obj "tuple" ∧ Q obj s₁) F.called_tuple (F.typeCall_tuple_1 _) F.entry_object_init ?_ fun obj s₁ h₁ => ⟨h₁.1, F.args_object_init_2 obj _, object_init_meets F.called_tuple.init.lookup F.called_tuple.made (by decide) P w A.in1 _ s₁ ⟨h₁.1, rfl, h₁.2⟩⟩
  refine codeAny_of_tree ?_
  show wpAny _ A.in1.in1 (do checkBuiltinCall "tuple.__new__" ⟨[.type "tuple", .ref r], []⟩; again (.builtin "tuple.__new__" ⟨[.type "tuple", .ref r], []⟩)) _ _ s
  refine wpAny_bind (wpAny_of_eq (F.newCall_tuple_1 _) (wpAny_pure ⟨plainId_quiet F.plain_tuple_new _, codeAny_builtin F.entry_tuple_new ?_⟩))
  rw [Around.under_plainId F.plain_tuple_new _]
  have hsub := sub_tuple_self
  have hinit := init_tuple_lookup
  have hmh := madeHere_tuple
  wp_walk using wpAny_typeOf hT, PySem.W.kdu_collect K (by simpa using hh) hok hn
  intro h' tk acc hk hacc
  show wpAny _ _ (Builtin.Tuple.tupleExact acc.toList.toArray >>= fun v => ret v) _ _ _
  unfold Builtin.Tuple.tupleExact
  refine wpAny_bind (wpAny_newObj_type ?_ (by show acc.toList.toArray.size ≤ sizeLine; simp only [Array.toArray_toList]; rw [hacc.1]; exact hn))
  refine wpAny_pure ?_
  have e : acc.toList.toArray = acc := by simp
  rw [e]
  exact ⟨⟨_, Heap.get?_push_size _ rfl, rfl⟩, h h' tk acc hk hacc⟩
end
/-! ### d.values() -/
def ValO (p d : Addr) : HO := .ext fun h => h.IsValuesView p d
theorem valO_at {P : Program} {w : World} {H : Hp} {h : Heap} {p d : Addr} (e : h.IsValuesView p d) : ObjOk P w H h p (ValO p d) := by
  have ⟨o, ho, _⟩ := e
  refine ⟨e, ⟨o, ho⟩, fun h1 h2 q k => ?_⟩
  obtain ⟨o1, a1, a2⟩ := q
  exact ⟨o1, k _ a1, a2⟩
section
variable {X : Cx}
def rVals : V → List V → Hp → VK → Prop := fun x xs H Q => ∃ (d : Addr) (kvs : List (Key × V)), x = .ref d ∧ xs = [] ∧ H d = some (.dK kvs) ∧ ∀ p, H p = none → Q (.ref p) (upd H p (ValO p d))
theorem mt_dvals : MtR X "dict.values" rVals := by
  intro pins s σ H x xs v us Q I rx rxs h
  obtain ⟨d, kvs, rfl, rfl, hd, q⟩ := h
  cases rx
  cases rxs
  obtain ⟨hz, lo, vs, kv, hD⟩ := I.hok d _ hd
  exact call_meetsIn PySem.F.slot_dict_values hD.typeIs PySem.F.entry_dict_values (PySem.F.args_dict_values_1 _) (meets_dict_values (mixKind X.prog X.w) d lo)
    ⟨⟨vs, hD⟩, .ref _, upd H s.heap.objs.size (ValO s.heap.objs.size d), I.laid (t' := s.toks) (fun b u e => Heap.get?_push_of_some _ e) (Nat.le_refl _) (valO_at ⟨_, Heap.get?_push_size _ rfl, rfl, rfl⟩), rfl, q _ (I.hok.fresh (Nat.le_refl _))⟩
theorem vals_snd : ∀ {kvs : List (Key × V)} {vs : List (Key × Value)}, KV kvs vs → Vals (kvs.map (·.2)) (vs.map (·.2))
  | _, _, .nil => .nil
  | _, _, .cons r t => .cons r.2 (vals_snd t)
def rOfVals (mk : List V → HO) : List V → Hp → VK → Prop := fun xs H Q => ∃ (p d : Addr) (kvs : List (Key × V)), xs = [.ref p] ∧ H p = some (ValO p d) ∧ H d = some (.dK kvs) ∧ ∀ t, H t = none → Q (.ref t) (upd H t (mk (kvs.map (·.2))))
theorem call_tupleVals (hc : X.calm = true) : CallR X (.type "tuple") (rOfVals .tup) := by
  intro pins s σ H xs us Q I r h
  obtain ⟨p, d, kvs, rfl, hp, hd, q⟩ := h
  rw [Vals.ref1 r]
  obtain ⟨hz, lo, vs, kv, hD⟩ := I.hok d _ hd
  have hv : s.heap.IsValuesView p d := (I.hok p _ hp).1
  obtain ⟨ep, hat⟩ := hD.dictAt
  have lk : kvs.length = vs.length := Paired.length kv
  refine tuple_src (PySem.W.kdl_values (knd := mixKind X.prog X.w) (kvs := vs) (ep := ep)) hv.typeIs (by decide) (I.ok.hd hc) ⟨hv, hat⟩ (by omega) fun h' tk acc hk hacc => ?_
  have e : acc.toList = vs.map (·.2) := PySem.W.kdl_vals_eq acc.toList (by rw [Array.length_toList]; exact hacc.1) fun j v e => hacc.2 j v (by rw [← Array.getElem?_toList]; exact e)
  have I1 : Inv X pins σ H { s with heap := h', toks := tk } := I.kept hk
  exact ⟨.ref _, upd H h'.objs.size (.tup (kvs.map (·.2))), I1.laid (t' := tk) (fun b u e => Heap.get?_push_of_some _ e) (Nat.le_refl _) ⟨by rw [List.length_map]; omega, acc.toList, by rw [e]; exact vals_snd kv, ⟨_, Heap.get?_push_size _ rfl, rfl, _, rfl⟩⟩, rfl, q _ (I1.hok.fresh (Nat.le_refl _))⟩
theorem call_listVals (hc : X.calm = true) : CallR X (.type "list") (rOfVals .lst) := by
  intro pins s σ H xs us Q I r h
  obtain ⟨p, d, kvs, rfl, hp, hd, q⟩ := h
  rw [Vals.ref1 r]
  obtain ⟨hz, lo, vs, kv, hD⟩ := I.hok d _ hd
  have hv : s.heap.IsValuesView p d := (I.hok p _ hp).1
  obtain ⟨ep, hat⟩ := hD.dictAt
  have lk : kvs.length = vs.length := Paired.length kv
  refine PySem.W.kdl_call (PySem.W.kdl_values (knd := mixKind X.prog X.w) (kvs := vs) (ep := ep)) (I.ok.hd hc) ⟨hv, hat⟩ (by omega) fun h' tk acc c hk hS hacc => ?_
  have e : acc.toList = vs.map (·.2) := PySem.W.kdl_vals_eq acc.toList (by rw [Array.length_toList]; exact hacc.1) fun j v e => hacc.2 j v (by rw [← Array.getElem?_toList]; exact e)
  exact ⟨.ref _, upd H s.heap.objs.size (.lst (kvs.map (·.2))), I.laid (t' := tk) hk (Nat.le_refl _) ⟨by rw [List.length_map]; omega, acc.toList, c, by rw [e]; exact vals_snd kv, by rw [Array.toArray_toList]; exact hS⟩, rfl, q _ (I.hok.fresh (Nat.le_refl _))⟩
end
end K0

/-! ## A1 -/
set_option maxRecDepth 100000
set_option maxHeartbeats 2000000
namespace K0
open PySem L2
abbrev tx : List Stmt := PySem.Challenge.pw_joinhouse_k00_words_and_errors.main.body
def top (i : Nat) : Stmt := tx.getD i (.Pass ⟨0, 0, 0, 0⟩)
abbrev sIsInt : Stmt := top 35
abbrev sIsCnt : Stmt := top 36
abbrev sIsWid : Stmt := top 37
/-- plain data as arguments -/
inductive Da (H : Hp) : V → Prop where
  | non : Da H .non
  | bl (b : Bool) : Da H (.bl b)
  | int (i : Int) : Da H (.int i)
  | str (x : Str) : Da H (.str x)
  | lst {a : Addr} {xs : List V} (h : H a = some (.lst xs)) : Da H (.ref a)
  | tup {a : Addr} {xs : List V} (h : H a = some (.tup xs)) : Da H (.ref a)
  | dK {a : Addr} {kvs : List (Key × V)} (h : H a = some (.dK kvs)) : Da H (.ref a)
def tyN (H : Hp) : V → String
  | .non => "NoneType"
  | .bl _ => "bool"
  | .int _ => "int"
  | .str _ => "str"
  | .ref a => match H a with
    | some (.lst _) => "list"
    | some (.tup _) => "tuple"
    | _ => "dict"
  | _ => ""
theorem Da.ty {K : PySem.W.Frag} {H : Hp} {v : V} (d : Da H v) : TyX K H v (.type (tyN H v)) := by
  cases d with
  | non => exact .base .non
  | bl b => exact .base (.bl b)
  | int i => exact .base (.int i)
  | str x => exact .base (.str x)
  | lst h => simp only [tyN, h]; exact .base (.lst h)
  | tup h => simp only [tyN, h]; exact .base (.tup h)
  | dK h => simp only [tyN, h]; exact .base (.dK h)
/-- an integer of at most sixty figures -/
@[irreducible] def big : Int := 10 ^ 60
def isI : V → Bool
  | .int i => decide (-big < i) && decide (i < big)
  | _ => false
def spIsInt : Sp := fun vs H Q _ => ∃ v, vs = [v] ∧ Da H v ∧ Q (.bl (isI v)) H
structure T1 (K : PySem.W.Frag) (mg : Str → Option Value) : Prop where
  isi : mg "isinstance" = none
  int : mg "int" = none
  bool : mg "bool" = none
  long : ∃ t, mg "_TOO_LONG" = some (.int big t)
theorem if_pos_of {c : Bool} {A B : Prop} (hc : c = true) (h : A) : if c = true then A else B := by
  rw [if_pos hc]
  exact h
theorem if_neg_of {c : Bool} {A B : Prop} (hc : c = false) (h : B) : if c = true then A else B := by
  rw [hc, if_neg Bool.false_ne_true]
  exact h
section
variable {P : Program} {w : World} {K : PySem.W.Frag} {mg : Str → Option Value} {base : Heap}
theorem scIsInt : FnScope ["value"] ["value"] (defScope sIsInt) := ⟨rfl, rfl, rfl, by decide +kernel, rfl, by decide +kernel, by decide +kernel⟩
theorem ok_isInt {f : Addr} {fd : FuncData} (F : Fun K "is_integer" "is_integer" sIsInt f fd) (T : T1 K mg) : FnOk P w K mg base CX0 1 f fd ["value"] spIsInt := by
  refine F.ok scIsInt (fun vs H Q E h => ?_) (fun cdv A outer s H vs Q E hr h => ?_)
  · obtain ⟨v, rfl, _⟩ := h
    rfl
  · obtain ⟨v, rfl, d, k⟩ := h
    obtain ⟨t, hl⟩ := T.long
    refine ⟨_, pss_one (ps_ret (pe_and (pe_callB call_isi (by rfl) T.isi (by decide +kernel) (pa_cons (pv 0) (pa_cons (pe_bltn (v := .ty "int") (by rfl) T.int (by decide +kernel) rfl) pa_nil)))
      (pe_and (pe_not (pe_callB call_isi (by rfl) T.isi (by decide +kernel) (pa_cons (pv 0) (pa_cons (pe_bltn (v := .ty "bool") (by rfl) T.bool (by decide +kernel) rfl) pa_nil))))
        (pe_one (pe_chain op_lt op_lt (pe_un un_neg (pe_glob (v := .int big) (by rfl) hl ⟨t, rfl⟩)) (pv 0) (pe_glob (v := .int big) (by rfl) hl ⟨t, rfl⟩)))))), ?_⟩
    cases d with
    | int i =>
      refine ⟨_, rfl, _, _, _, _, true, rfl, .ty _, .base (.int i), kit_ty (by decide +kernel), true, rfl, iteT ?_⟩
      refine ⟨_, rfl, _, _, _, _, false, rfl, .ty _, .base (.int i), kit_ty (by decide +kernel), false, rfl, true, rfl, iteT ?_⟩
      refine ⟨_, rfl, _, rfl, _, _, rfl, rfl, _, rfl, ?_⟩
      by_cases c1 : -big < i
      · refine if_pos_of (decide_eq_true c1) ⟨_, _, rfl, rfl, ?_⟩
        have e : isI (.int i) = decide (i < big) := by simp [isI, c1]
        rw [e] at k
        exact k
      · refine if_neg_of (decide_eq_false c1) ?_
        have e : isI (.int i) = false := by simp [isI, c1]
        rw [e] at k
        exact k
    | bl b =>
      refine ⟨_, rfl, _, _, _, _, true, rfl, .ty _, .base (.bl b), kit_ty (by decide +kernel), true, rfl, iteT ?_⟩
      refine ⟨_, rfl, _, _, _, _, true, rfl, .ty _, .base (.bl b), kit_ty (by decide +kernel), true, rfl, false, rfl, iteF ?_⟩
      exact k
    | non => exact ⟨_, rfl, _, _, _, _, false, rfl, .ty _, .base .non, kit_ty (by decide +kernel), false, rfl, iteF k⟩
    | str x => exact ⟨_, rfl, _, _, _, _, false, rfl, .ty _, .base (.str x), kit_ty (by decide +kernel), false, rfl, iteF k⟩
    | lst e => exact ⟨_, rfl, _, _, _, _, false, rfl, .ty _, .base (.lst e), kit_ty (by decide +kernel), false, rfl, iteF k⟩
    | tup e => exact ⟨_, rfl, _, _, _, _, false, rfl, .ty _, .base (.tup e), kit_ty (by decide +kernel), false, rfl, iteF k⟩
    | dK e => exact ⟨_, rfl, _, _, _, _, false, rfl, .ty _, .base (.dK e), kit_ty (by decide +kernel), false, rfl, iteF k⟩
end
end K0

/-! ## A2 -/
set_option maxRecDepth 100000
set_option maxHeartbeats 2000000
namespace K0
open PySem L2
/-! ### comprehensions whose element leaves all that is tracked -/
theorem Same.rfl' {H : Hp} : Same H H := fun _ _ h => h
theorem Same.tr {A B C : Hp} (a : Same A B) (b : Same B C) : Same A C := fun c o h => b c o (a c o h)
theorem Same.new {H : Hp} {D : Addr} (o : HO) (h : H D = none) : Same H (upd H D o) := fun b u q => by rw [upd_ne (ne_of_none q h)]; exact q
theorem lc_pure {J : It} {n : Nat} {G : Hp → Prop} {Y : Nat → Hp → V → Hp → Prop} (w : Walk J n G Y) {g : TG} {te : TE} {vs : List Nat} {σ : St} {H1 : Hp} {D : Addr} {Qd : Hp → Prop} (f : Nat → V)
    (hn : n < sizeLine) (hD : H1 D = none) (hG : ∀ H, Same H1 H → G H)
    (hs : ∀ i x H H', i < n → Same H1 H → Y i H x H' → g x (wipe σ vs) H' fun σ2 H2 => wipe σ2 vs = wipe σ vs ∧ ∀ (Q : V → Hp → Prop), (∀ H4, Same H H4 → Q (f i) H4) → te σ2 H2 Q)
    (gm : ∀ x σ H (P R : St → Hp → Prop), (∀ σ2 H2, P σ2 H2 → R σ2 H2) → g x σ H P → g x σ H R)
    (hd : ∀ H, Same H1 H → H D = some (.lst ((List.range n).map f)) → Qd H) :
    ∃ W : Nat → Nat → Hp → Prop, (∃ m, W 0 m (upd H1 D (.lst []))) ∧ ∀ i m H, W i m H →
      (J.stop i H ∧ Qd H) ∨ (J.go i H ∧ ∃ Nx : Hp → Prop, (∀ H', Nx H' → ∃ m', m' < m ∧ W (i + 1) m' H') ∧ ∀ x H', J.yld i H x H' → g x (wipe σ vs) H' fun σ2 H2 => wipe σ2 vs = wipe σ vs ∧ tYes σ2 H2 fun b H3 =>
        if b = true then te σ2 H3 fun y H4 => ∃ acc, H4 D = some (.lst acc) ∧ acc.length < sizeLine ∧ Nx (upd H4 D (.lst (acc ++ [y]))) else Nx H3) := by
  refine lc_it w (fun i H => Same H1 H ∧ H D = some (.lst ((List.range i).map f))) ⟨Same.new _ hD, upd_same⟩ (fun i H _ p => hG H p.1) (fun i x H H' hi p y => ?_) (fun H p => hd H p.1 p.2)
  refine gm _ _ _ _ _ (fun σ2 H2 q => ⟨q.1, ?_⟩) (hs i x H H' hi p.1 y)
  dsimp only [tYes]
  rw [if_pos rfl]
  refine q.2 _ fun H4 s4 => ⟨_, s4 _ _ p.2, ?_, ?_, ?_⟩
  · rw [List.length_map, List.length_range]
    exact Nat.lt_trans hi hn
  · exact fun b o e => by rw [upd_ne (ne_of_none e hD)]; exact s4 _ _ (p.1 _ _ e)
  · rw [upd_same, List.range_succ, List.map_append]
    rfl
theorem gName_mono {i : Nat} : ∀ x σ H (P R : St → Hp → Prop), (∀ σ2 H2, P σ2 H2 → R σ2 H2) → gName i x σ H P → gName i x σ H R := fun _ _ _ _ _ h p => h _ _ p
/-! ### kinds -/
def isIntT : V → Bool
  | .int _ => true
  | .bl _ => true
  | _ => false
def isStrV : V → Bool
  | .str _ => true
  | _ => false
def isTupV (H : Hp) : V → Bool
  | .ref a => match H a with
    | some (.tup _) => true
    | _ => false
  | _ => false
def isDctV (H : Hp) : V → Bool
  | .ref a => match H a with
    | some (.dK _) => true
    | _ => false
  | _ => false
section
variable {K : PySem.W.Frag} {H : Hp} {v : V}
theorem Da.kStr (d : Da H v) : ∃ t, TyX K H v t ∧ PySem.W.kitOne K t (.type "str") = some (isStrV v) := by
  cases d with
  | non => exact ⟨_, .base .non, kit_ty (by decide +kernel)⟩
  | bl b => exact ⟨_, .base (.bl b), kit_ty (by show kitB "bool" "str" = some false; decide +kernel)⟩
  | int b => exact ⟨_, .base (.int b), kit_ty (by show kitB "int" "str" = some false; decide +kernel)⟩
  | str b => exact ⟨_, .base (.str b), kit_ty (by show kitB "str" "str" = some true; decide +kernel)⟩
  | lst b => exact ⟨_, .base (.lst b), kit_ty (by show kitB "list" "str" = some false; decide +kernel)⟩
  | tup b => exact ⟨_, .base (.tup b), kit_ty (by show kitB "tuple" "str" = some false; decide +kernel)⟩
  | dK b => exact ⟨_, .base (.dK b), kit_ty (by show kitB "dict" "str" = some false; decide +kernel)⟩
theorem Da.kTup (d : Da H v) : ∃ t, TyX K H v t ∧ PySem.W.kitOne K t (.type "tuple") = some (isTupV H v) := by
  cases d with
  | non => exact ⟨_, .base .non, kit_ty (by show kitB "NoneType" "tuple" = some false; decide +kernel)⟩
  | bl b => exact ⟨_, .base (.bl b), kit_ty (by show kitB "bool" "tuple" = some false; decide +kernel)⟩
  | int b => exact ⟨_, .base (.int b), kit_ty (by show kitB "int" "tuple" = some false; decide +kernel)⟩
  | str b => exact ⟨_, .base (.str b), kit_ty (by show kitB "str" "tuple" = some false; decide +kernel)⟩
  | lst b => exact ⟨_, .base (.lst b), by simp only [isTupV, b]; exact kit_ty (by decide +kernel)⟩
  | tup b => exact ⟨_, .base (.tup b), by simp only [isTupV, b]; exact kit_ty (by decide +kernel)⟩
  | dK b => exact ⟨_, .base (.dK b), by simp only [isTupV, b]; exact kit_ty (by decide +kernel)⟩
theorem Da.kDct (d : Da H v) : ∃ t, TyX K H v t ∧ PySem.W.kitOne K t (.type "dict") = some (isDctV H v) := by
  cases d with
  | non => exact ⟨_, .base .non, kit_ty (by show kitB "NoneType" "dict" = some false; decide +kernel)⟩
  | bl b => exact ⟨_, .base (.bl b), kit_ty (by show kitB "bool" "dict" = some false; decide +kernel)⟩
  | int b => exact ⟨_, .base (.int b), kit_ty (by show kitB "int" "dict" = some false; decide +kernel)⟩
  | str b => exact ⟨_, .base (.str b), kit_ty (by show kitB "str" "dict" = some false; decide +kernel)⟩
  | lst b => exact ⟨_, .base (.lst b), by simp only [isDctV, b]; exact kit_ty (by decide +kernel)⟩
  | tup b => exact ⟨_, .base (.tup b), by simp only [isDctV, b]; exact kit_ty (by decide +kernel)⟩
  | dK b => exact ⟨_, .base (.dK b), by simp only [isDctV, b]; exact kit_ty (by decide +kernel)⟩
end
/-! ### is_count, is_width -/
def isC : V → Bool
  | .int i => isI (.int i) && decide (0 ≤ i)
  | _ => false
def isW : V → Bool
  | .int i => isI (.int i) && (decide (1 ≤ i) && decide (i ≤ 8))
  | _ => false
theorem isI_int {v : V} (h : isI v = true) : ∃ i, v = .int i := by
  cases v with
  | int i => exact ⟨i, rfl⟩
  | _ => cases h
def spIsCnt : Sp := fun vs H Q _ => ∃ v, vs = [v] ∧ Da H v ∧ Q (.bl (isC v)) H
def spIsWid : Sp := fun vs H Q _ => ∃ v, vs = [v] ∧ Da H v ∧ Q (.bl (isW v)) H
theorem isC_no {v : V} (h : isI v = false) : isC v = false := by
  cases v with
  | int i => show (isI (.int i) && _) = false; rw [h]; rfl
  | _ => rfl
theorem isW_no {v : V} (h : isI v = false) : isW v = false := by
  cases v with
  | int i => show (isI (.int i) && _) = false; rw [h]; rfl
  | _ => rfl
structure T2 (K : PySem.W.Frag) (mg : Str → Option Value) (fI fC fW : Addr) : Prop extends T1 K mg where
  gI : mg "is_integer" = some (.ref fI)
  kI : PySem.W.keepIn K (.ref fI) = true
  gC : mg "is_count" = some (.ref fC)
  kC : PySem.W.keepIn K (.ref fC) = true
  gW : mg "is_width" = some (.ref fW)
  kW : PySem.W.keepIn K (.ref fW) = true
  wid : ∃ t, mg "MAX_WIDTH" = some (.int 8 t)
  let_ : ∃ t, mg "MAX_LETTERS" = some (.int 8 t)
  len : mg "len" = none
  str : mg "str" = none
  tup : mg "tuple" = none
  dct : mg "dict" = none
  all : mg "all" = none
  any : mg "any" = none
section
variable {P : Program} {w : World} {K : PySem.W.Frag} {mg : Str → Option Value} {base : Heap} {fI fC fW : Addr} {fdI fdC fdW : FuncData}
theorem scIsCnt : FnScope ["value"] ["value"] (defScope sIsCnt) := ⟨rfl, rfl, rfl, by decide +kernel, rfl, by decide +kernel, by decide +kernel⟩
theorem ok_isCnt {f : Addr} {fd : FuncData} (F : Fun K "is_count" "is_count" sIsCnt f fd) (T : T2 K mg fI fC fW) (G : FnOk P w K mg base CX0 1 fI fdI ["value"] spIsInt) (bI : Binds K fdI ["value"] []) : FnOk P w K mg base CX0 2 f fd ["value"] spIsCnt := by
  refine F.ok scIsCnt (fun vs H Q E h => ?_) (fun cdv A outer s H vs Q E hr h => ?_)
  · obtain ⟨v, rfl, _⟩ := h
    rfl
  · obtain ⟨v, rfl, d, k⟩ := h
    refine ⟨_, pss_one (ps_ret (pe_and (pe_call G hr rfl T.gI T.kI bI .nil pass0 (pa_cons (pv 0) pa_nil)) (pe_one (pe_cmpR op_ge (pv 0) pe_int (nomark _))))), ?_⟩
    refine ⟨_, rfl, v, rfl, d, isI v, rfl, ?_⟩
    by_cases c : isI v = true
    · obtain ⟨i, rfl⟩ := isI_int c
      refine if_pos_of c ⟨_, rfl, _, _, rfl, rfl, ?_⟩
      have e : isC (.int i) = decide (0 ≤ i) := by show (isI (.int i) && _) = _; rw [c]; rfl
      rw [e] at k
      exact k
    · have c' := Bool.eq_false_iff.mpr c
      refine if_neg_of c' ?_
      rw [isC_no c'] at k
      exact k
theorem scIsWid : FnScope ["value"] ["value"] (defScope sIsWid) := ⟨rfl, rfl, rfl, by decide +kernel, rfl, by decide +kernel, by decide +kernel⟩
theorem ok_isWid {f : Addr} {fd : FuncData} (F : Fun K "is_width" "is_width" sIsWid f fd) (T : T2 K mg fI fC fW) (G : FnOk P w K mg base CX0 1 fI fdI ["value"] spIsInt) (bI : Binds K fdI ["value"] []) : FnOk P w K mg base CX0 2 f fd ["value"] spIsWid := by
  refine F.ok scIsWid (fun vs H Q E h => ?_) (fun cdv A outer s H vs Q E hr h => ?_)
  · obtain ⟨v, rfl, _⟩ := h
    rfl
  · obtain ⟨v, rfl, d, k⟩ := h
    obtain ⟨t, hw⟩ := T.wid
    refine ⟨_, pss_one (ps_ret (pe_and (pe_call G hr rfl T.gI T.kI bI .nil pass0 (pa_cons (pv 0) pa_nil)) (pe_one (pe_chain op_le op_le pe_int (pv 0) (pe_glob (v := .int 8) (by rfl) hw ⟨t, rfl⟩))))), ?_⟩
    refine ⟨_, rfl, v, rfl, d, isI v, rfl, ?_⟩
    by_cases c : isI v = true
    · obtain ⟨i, rfl⟩ := isI_int c
      have e : isW (.int i) = (decide (1 ≤ i) && decide (i ≤ 8)) := by show (isI (.int i) && _) = _; rw [c]; rfl
      rw [e] at k
      refine if_pos_of c ⟨_, rfl, _, _, rfl, rfl, _, rfl, ?_⟩
      by_cases c1 : 1 ≤ i
      · rw [decide_eq_true c1] at k
        exact if_pos_of (decide_eq_true c1) ⟨_, _, rfl, rfl, k⟩
      · rw [decide_eq_false c1] at k
        exact if_neg_of (decide_eq_false c1) k
    · have c' := Bool.eq_false_iff.mpr c
      refine if_neg_of c' ?_
      rw [isW_no c'] at k
      exact k
end
end K0

/-! ## A3 -/
set_option maxRecDepth 100000
set_option maxHeartbeats 2000000
namespace K0
open PySem L2
abbrev sIsNam : Stmt := top 38
abbrev sAreNam : Stmt := top 39
abbrev sIsRow : Stmt := top 40
def lowC (c : Nat) : Bool := decide (97 ≤ c) && decide (c ≤ 122)
def nameS (z : Str) : Bool := (decide (1 ≤ z.length) && decide (z.length ≤ 8)) && z.cps.toList.all lowC
def nameV : V → Bool
  | .str z => nameS z
  | _ => false
/-- texts are short -/
def Sz : V → Prop
  | .str z => z.length ≤ 1000
  | _ => True
theorem lt_a (c : Nat) : decide ([c] < ("a" : Str).cps.toList) = decide (c < 97) := by
  show decide ([c] < [97]) = _
  by_cases h : c < 97 <;> simp [List.cons_lt_cons_iff, h]
theorem lt_z (c : Nat) : decide (("z" : Str).cps.toList < [c]) = decide (122 < c) := by
  show decide ([122] < [c]) = _
  by_cases h : 122 < c <;> simp [List.cons_lt_cons_iff, h]
theorem all_range (z : Str) (p : Nat → Bool) : ((List.range z.cps.size).map fun i => p (z.cps.getD i 0)).all id = z.cps.toList.all p := by
  have e : (List.range z.cps.size).map (fun i => z.cps.getD i 0) = z.cps.toList := by
    apply List.ext_getElem
    · simp
    · intro i h1 h2
      simp at h1
      simp [h1]
  rw [← e, List.all_map, List.all_map]
  rfl
def spIsNam : Sp := fun vs H Q _ => ∃ v, vs = [v] ∧ Da H v ∧ Sz v ∧ ∀ H', Same H H' → Q (.bl (nameV v)) H'
section
variable {P : Program} {w : World} {K : PySem.W.Frag} {mg : Str → Option Value} {base : Heap} {fI fC fW : Addr} {fdI fdC fdW : FuncData}
theorem scIsNam : FnScope ["value", "letter"] ["value"] (defScope sIsNam) := ⟨rfl, rfl, rfl, by decide +kernel, rfl, by decide +kernel, by decide +kernel⟩
theorem ok_isNam {f : Addr} {fd : FuncData} (F : Fun K "is_name" "is_name" sIsNam f fd) (T : T2 K mg fI fC fW) : FnOk P w K mg base CX0 1 f fd ["value"] spIsNam := by
  refine F.ok scIsNam (fun vs H Q E h => ?_) (fun cdv A outer s H vs Q E hr h => ?_)
  · obtain ⟨v, rfl, _⟩ := h
    rfl
  · obtain ⟨v, rfl, d, sz, k⟩ := h
    obtain ⟨tl, hl⟩ := T.let_
    refine ⟨_, pss_cons (ps_if (pw_or (pt_not (pt_val (pe_callB call_isi (by rfl) T.isi (by decide +kernel) (pa_cons (pv 0) (pa_cons (pe_bltn (v := .ty "str") (by rfl) T.str (by decide +kernel) rfl) pa_nil)))))
        (pw_or1 (pt_not (pt_chain op_le op_le pe_int (pe_callB call_len_str (by rfl) T.len PySem.boot_len (pa_cons (pv 0) pa_nil)) (pe_glob (v := .int 8) (by rfl) hl ⟨tl, rfl⟩))))).pt
        (pss_one (ps_ret pe_bl)) pss_nil)
      (pss_one (ps_ret (pe_callB (cr_all rfl) (by rfl) T.all (by decide +kernel) (pa_cons (pe_lc (own := [("letter", 1)]) (g := gName 1) (tt := tYes) rfl scIsNam.nd (pi_str (pv 0))
        (blkOk_by (own := [("letter", 1)]) (N := ["value", "letter"]) (sc := defScope sIsNam) (by decide +kernel)) (fun _ _ _ _ _ => pg_name (i := 1) scIsNam.nd rfl (Or.inl rfl)) (fun _ _ _ _ _ => pts_nil)
        (fun _ _ _ _ _ => pe_chain op_le_str op_le_str pe_str (pv 1) pe_str)) pa_nil)))), ?_⟩
    obtain ⟨t, ty, kt⟩ := d.kStr (K := K)
    refine ⟨_, rfl, _, _, t, _, isStrV v, rfl, .ty _, ty, kt, isStrV v, rfl, ?_⟩
    by_cases c : isStrV v = true
    · obtain ⟨z, rfl⟩ : ∃ z, v = .str z := by
        cases v with
        | str z => exact ⟨z, rfl⟩
        | _ => cases c
      have hz : z.length ≤ 1000 := sz
      have e : nameV (.str z) = ((decide (1 ≤ z.length) && decide (z.length ≤ 8)) && z.cps.toList.all lowC) := rfl
      refine if_neg_of (by rw [c]; rfl) ⟨_, rfl, z, rfl, Nat.le_of_lt (small1000 hz), _, _, rfl, rfl, _, rfl, ?_⟩
      by_cases c1 : (1 : Int) ≤ z.length
      · have c1' : decide (1 ≤ z.length) = true := decide_eq_true (by omega)
        refine if_pos_of (decide_eq_true c1) ⟨_, _, rfl, rfl, _, rfl, ?_⟩
        by_cases c2 : (z.length : Int) ≤ 8
        · have c2' : decide (z.length ≤ 8) = true := decide_eq_true (by omega)
          rw [decide_eq_true c2]
          refine if_neg_of rfl ⟨_, rfl, _, rfl, fun D hD => lc_pure (f := fun i => .bl (lowC (z.cps.getD i 0))) walk_str ?_ hD (fun _ _ => True.intro) ?_ gName_mono ?_⟩
          · show z.length < sizeLine
            exact small1000 hz
          · rintro i x H2 H3 hi s2 ⟨rfl, c, hc, rfl⟩
            refine ⟨rfl, fun Q' q => ⟨_, rfl, _, _, rfl, rfl, _, rfl, ?_⟩⟩
            have ec : z.cps.getD i 0 = c := by simp [hc]
            have q0 := q _ (Same.rfl' (H := H3))
            rw [ec] at q0
            show if (!decide ([c] < ("a" : Str).cps.toList)) = true then _ else _
            rw [lt_a]
            by_cases c3 : c < 97
            · refine if_neg_of (by rw [decide_eq_true c3]; rfl) ?_
              have e3 : lowC c = false := by simp [lowC]; omega
              rw [e3] at q0
              exact q0
            · refine if_pos_of (by rw [decide_eq_false c3]; rfl) ⟨_, _, rfl, rfl, ?_⟩
              have e3 : lowC c = !decide (("z" : Str).cps.toList < [c]) := by
                rw [lt_z]
                simp [lowC]
                by_cases h : 122 < c <;> simp [h] <;> omega
              rw [e3] at q0
              exact q0
          · intro H2 s2 hD2
            refine ⟨D, (List.range z.cps.size).map fun i => lowC (z.cps.getD i 0), rfl, ?_, ?_⟩
            · rw [List.map_map]
              exact SqL.of hD2
            · rw [all_range]
              have k' := k H2 s2
              rw [e, c1', c2'] at k'
              exact k'
        · rw [decide_eq_false c2]
          refine if_pos_of rfl ?_
          have k' := k H Same.rfl'
          have c2' : decide (z.length ≤ 8) = false := decide_eq_false (by omega)
          rw [e, c2', Bool.and_false] at k'
          exact k'
      · have c1' : decide (1 ≤ z.length) = false := decide_eq_false (by omega)
        refine if_neg_of (decide_eq_false c1) ⟨_, rfl, ?_⟩
        refine if_pos_of rfl ?_
        have k' := k H Same.rfl'
        rw [e, c1'] at k'
        exact k'
    · have c' := Bool.eq_false_iff.mpr c
      refine if_pos_of (by rw [c']; rfl) ?_
      refine if_pos_of rfl ?_
      have e : nameV v = false := by
        cases v with
        | str z => cases c'
        | _ => rfl
      have k' := k H Same.rfl'
      rw [e] at k'
      exact k'
end
end K0

/-! ## A4 -/
set_option maxRecDepth 100000
set_option maxHeartbeats 2000000
namespace K0
open PySem L2
theorem Da.same {H H' : Hp} {v : V} (d : Da H v) (s : Same H H') : Da H' v := by
  cases d with
  | non => exact .non
  | bl b => exact .bl b
  | int b => exact .int b
  | str b => exact .str b
  | lst b => exact .lst (s _ _ b)
  | tup b => exact .tup (s _ _ b)
  | dK b => exact .dK (s _ _ b)
/-- a tuple's items are data, and few -/
def Tu (H : Hp) (v : V) : Prop := ∀ a xs, v = .ref a → H a = some (.tup xs) → xs.length ≤ 1000 ∧ ∀ x ∈ xs, Da H x ∧ Sz x
def onTup (H : Hp) (p : List V → Bool) : V → Bool
  | .ref a => match H a with
    | some (.tup xs) => p xs
    | _ => false
  | _ => false
theorem onTup_no {H : Hp} {p : List V → Bool} {v : V} (h : isTupV H v = false) : onTup H p v = false := by
  cases v with
  | ref a =>
    simp only [isTupV] at h
    simp only [onTup]
    cases e : H a with
    | none => rfl
    | some o => cases o <;> first | rfl | (simp [e] at h)
  | _ => rfl
theorem isTup_at {H : Hp} {v : V} (h : isTupV H v = true) : ∃ a xs, v = .ref a ∧ H a = some (.tup xs) := by
  cases v with
  | ref a =>
    simp only [isTupV] at h
    cases e : H a with
    | none => simp [e] at h
    | some o => cases o <;> first | exact ⟨a, _, rfl, e⟩ | (simp [e] at h)
  | _ => cases h
theorem all_list (xs : List V) (p : V → Bool) : ((List.range xs.length).map fun i => p (xs.getD i .non)).all id = xs.all p := by
  have e : (List.range xs.length).map (fun i => xs.getD i .non) = xs := by
    apply List.ext_getElem
    · simp
    · intro i h1 h2
      simp at h1
      simp [h1]
  have e2 : xs.all p = ((List.range xs.length).map (fun i => xs.getD i .non)).all p := by rw [e]
  rw [e2, List.all_map, List.all_map]
  rfl
def spAreNam : Sp := fun vs H Q _ => ∃ v, vs = [v] ∧ Da H v ∧ Tu H v ∧ ∀ H', Same H H' → Q (.bl (onTup H (fun xs => xs.all nameV) v)) H'
structure T3 (K : PySem.W.Frag) (mg : Str → Option Value) (fI fC fW fN : Addr) : Prop extends T2 K mg fI fC fW where
  gN : mg "is_name" = some (.ref fN)
  kN : PySem.W.keepIn K (.ref fN) = true
section
variable {P : Program} {w : World} {K : PySem.W.Frag} {mg : Str → Option Value} {base : Heap} {fI fC fW fN : Addr} {fdI fdC fdW fdN : FuncData}
theorem scAreNam : FnScope ["value", "name"] ["value"] (defScope sAreNam) := ⟨rfl, rfl, rfl, by decide +kernel, rfl, by decide +kernel, by decide +kernel⟩
theorem ok_areNam {f : Addr} {fd : FuncData} (F : Fun K "are_names" "are_names" sAreNam f fd) (T : T3 K mg fI fC fW fN) (G : FnOk P w K mg base CX0 1 fN fdN ["value"] spIsNam) (bN : Binds K fdN ["value"] []) : FnOk P w K mg base CX0 2 f fd ["value"] spAreNam := by
  refine F.ok scAreNam (fun vs H Q E h => ?_) (fun cdv A outer s H vs Q E hr h => ?_)
  · obtain ⟨v, rfl, _⟩ := h
    rfl
  · obtain ⟨v, rfl, d, tu, k⟩ := h
    refine ⟨_, pss_one (ps_ret (pe_and (pe_callB call_isi (by rfl) T.isi (by decide +kernel) (pa_cons (pv 0) (pa_cons (pe_bltn (v := .ty "tuple") (by rfl) T.tup (by decide +kernel) rfl) pa_nil)))
      (pe_one (pe_callB (cr_all rfl) (by rfl) T.all (by decide +kernel) (pa_cons (pe_lc (own := [("name", 1)]) (g := gName 1) (tt := tYes) rfl scAreNam.nd (pi_tup (pv 0))
        (blkOk_by (own := [("name", 1)]) (N := ["value", "name"]) (sc := defScope sAreNam) (by decide +kernel)) (fun _ _ _ _ _ => pg_name (i := 1) scAreNam.nd rfl (Or.inl rfl)) (fun _ _ _ _ _ => pts_nil)
        (fun _ _ _ _ _ => pe_call G hr (by rfl) T.gN T.kN bN .nil pass0 (pa_cons (pv 1) pa_nil))) pa_nil))))), ?_⟩
    obtain ⟨t, ty, kt⟩ := d.kTup (K := K)
    refine ⟨_, rfl, _, _, t, _, isTupV H v, rfl, .ty _, ty, kt, isTupV H v, rfl, ?_⟩
    by_cases c : isTupV H v = true
    · obtain ⟨a, xs, rfl, ha⟩ := isTup_at c
      obtain ⟨hl, hx⟩ := tu a xs rfl ha
      refine if_pos_of c ⟨_, rfl, a, rfl, ⟨_, SqT.of ha⟩, fun D hD => lc_pure (f := fun i => .bl (nameV (xs.getD i .non))) (walk_tup (K := K) (a := a) (xs := xs)) (small1000 hl) hD (fun H1 s1 => SqT.of (s1 _ _ ha)) ?_ gName_mono ?_⟩
      · rintro i x H2 H3 hi s2 ⟨rfl, hxi⟩
        have e : xs.getD i .non = x := by simp [List.getD, hxi]
        obtain ⟨dx, sx⟩ := hx x (List.mem_of_getElem? hxi)
        refine ⟨rfl, fun Q' q => ⟨_, rfl, x, rfl, dx.same s2, sx, fun H4 s4 => ?_⟩⟩
        have q0 := q H4 s4
        rw [e] at q0
        exact q0
      · intro H2 s2 hD2
        refine ⟨D, (List.range xs.length).map fun i => nameV (xs.getD i .non), rfl, ?_, ?_⟩
        · rw [List.map_map]
          exact SqL.of hD2
        · rw [all_list]
          have k' := k H2 s2
          simp only [onTup, ha] at k'
          exact k'
    · have c' := Bool.eq_false_iff.mpr c
      refine if_neg_of c' ?_
      have k' := k H Same.rfl'
      rw [onTup_no c'] at k'
      exact k'
end
end K0

/-! ## A5 -/
set_option maxRecDepth 100000
set_option maxHeartbeats 2000000
namespace K0
open PySem L2
def rowL (xs : List V) : Bool := isW (.int xs.length) && xs.all isC
def spIsRow : Sp := fun vs H Q _ => ∃ v, vs = [v] ∧ Da H v ∧ Tu H v ∧ ∀ H', Same H H' → Q (.bl (onTup H rowL v)) H'
section
variable {P : Program} {w : World} {K : PySem.W.Frag} {mg : Str → Option Value} {base : Heap} {fI fC fW fN : Addr} {fdI fdC fdW fdN : FuncData}
theorem scIsRow : FnScope ["value", "number"] ["value"] (defScope sIsRow) := ⟨rfl, rfl, rfl, by decide +kernel, rfl, by decide +kernel, by decide +kernel⟩
theorem ok_isRow {f : Addr} {fd : FuncData} (F : Fun K "is_row" "is_row" sIsRow f fd) (T : T3 K mg fI fC fW fN) (GW : FnOk P w K mg base CX0 2 fW fdW ["value"] spIsWid) (bW : Binds K fdW ["value"] [])
    (GC : FnOk P w K mg base CX0 2 fC fdC ["value"] spIsCnt) (bC : Binds K fdC ["value"] []) : FnOk P w K mg base CX0 3 f fd ["value"] spIsRow := by
  refine F.ok scIsRow (fun vs H Q E h => ?_) (fun cdv A outer s H vs Q E hr h => ?_)
  · obtain ⟨v, rfl, _⟩ := h
    rfl
  · obtain ⟨v, rfl, d, tu, k⟩ := h
    refine ⟨_, pss_one (ps_ret (pe_and (pe_callB call_isi (by rfl) T.isi (by decide +kernel) (pa_cons (pv 0) (pa_cons (pe_bltn (v := .ty "tuple") (by rfl) T.tup (by decide +kernel) rfl) pa_nil)))
      (pe_and (pe_call GW hr (by rfl) T.gW T.kW bW .nil pass0 (pa_cons (pe_callB call_len_seq (by rfl) T.len PySem.boot_len (pa_cons (pv 0) pa_nil)) pa_nil))
      (pe_one (pe_callB (cr_all rfl) (by rfl) T.all (by decide +kernel) (pa_cons (pe_lc (own := [("number", 1)]) (g := gName 1) (tt := tYes) rfl scIsRow.nd (pi_tup (pv 0))
        (blkOk_by (own := [("number", 1)]) (N := ["value", "number"]) (sc := defScope sIsRow) (by decide +kernel)) (fun _ _ _ _ _ => pg_name (i := 1) scIsRow.nd rfl (Or.inl rfl)) (fun _ _ _ _ _ => pts_nil)
        (fun _ _ _ _ _ => pe_call GC hr (by rfl) T.gC T.kC bC .nil pass0 (pa_cons (pv 1) pa_nil))) pa_nil)))))), ?_⟩
    obtain ⟨t, ty, kt⟩ := d.kTup (K := K)
    refine ⟨_, rfl, _, _, t, _, isTupV H v, rfl, .ty _, ty, kt, isTupV H v, rfl, ?_⟩
    by_cases c : isTupV H v = true
    · obtain ⟨a, xs, rfl, ha⟩ := isTup_at c
      obtain ⟨hl, hx⟩ := tu a xs rfl ha
      have k0 : ∀ H', Same H H' → Q (.bl (rowL xs)) H' := fun H' s' => by
        have k' := k H' s'
        simp only [onTup, ha] at k'
        exact k'
      refine if_pos_of c ⟨_, rfl, a, _, rfl, .inr (SqT.of ha), _, rfl, .int _, _, rfl, ?_⟩
      by_cases c1 : isW (.int xs.length) = true
      · have er : rowL xs = xs.all isC := by unfold rowL; rw [c1]; rfl
        refine if_pos_of c1 ⟨_, rfl, a, rfl, ⟨_, SqT.of ha⟩, fun D hD => lc_pure (f := fun i => .bl (isC (xs.getD i .non))) (walk_tup (K := K) (a := a) (xs := xs)) (small1000 hl) hD (fun H1 s1 => SqT.of (s1 _ _ ha)) ?_ gName_mono ?_⟩
        · rintro i x H2 H3 hi s2 ⟨rfl, hxi⟩
          have e : xs.getD i .non = x := by simp [List.getD, hxi]
          obtain ⟨dx, sx⟩ := hx x (List.mem_of_getElem? hxi)
          refine ⟨rfl, fun Q' q => ⟨_, rfl, x, rfl, dx.same s2, ?_⟩⟩
          have q0 := q _ Same.rfl'
          rw [e] at q0
          exact q0
        · intro H2 s2 hD2
          refine ⟨D, (List.range xs.length).map fun i => isC (xs.getD i .non), rfl, ?_, ?_⟩
          · rw [List.map_map]
            exact SqL.of hD2
          · rw [all_list, ← er]
            exact k0 H2 s2
      · have c1' := Bool.eq_false_iff.mpr c1
        have er : rowL xs = false := by unfold rowL; rw [c1']; rfl
        refine if_neg_of c1' ?_
        rw [← er]
        exact k0 H Same.rfl'
    · have c' := Bool.eq_false_iff.mpr c
      refine if_neg_of c' ?_
      have k' := k H Same.rfl'
      rw [onTup_no c'] at k'
      exact k'
end
end K0

/-! ## A6 -/
set_option maxRecDepth 100000
set_option maxHeartbeats 2000000
namespace K0
open PySem L2
abbrev sDice : Stmt := top 46
abbrev sRoll : Stmt := top 47
abbrev sPick : Stmt := top 48
def DiceAt (H : Hp) (p : Addr) : Prop := ∃ x y z : Int, H p = some (.lst [.int x, .int y, .int z])
/-- all but the dice stay -/
def Kd (p : Addr) (H H' : Hp) : Prop := ∀ b o, b ≠ p → H b = some o → H' b = some o
theorem Kd.rfl' {p : Addr} {H : Hp} : Kd p H H := fun _ _ _ h => h
theorem Kd.tr {p : Addr} {A B C : Hp} (a : Kd p A B) (b : Kd p B C) : Kd p A C := fun c o n h => b c o n (a c o n h)
theorem Kd.of {p : Addr} {A B : Hp} (a : Same A B) : Kd p A B := fun c o _ h => a c o h
theorem Kd.put {p : Addr} {H : Hp} {o : HO} : Kd p H (upd H p o) := fun b u n q => by rw [upd_ne n]; exact q
def spDice (K : PySem.W.Frag) : Sp := fun vs H Q _ => ∃ (a : Addr) (ns : List Int) (i : Int), vs = [.ref a, .int i] ∧ SqL K H a (ns.map V.int) ∧ 0 ≤ i ∧ ∀ H' p, Same H H' → H p = none → DiceAt H' p → Q (.ref p) H'
def spRoll : Sp := fun vs H Q _ => ∃ (p : Addr) (t : Int), vs = [.ref p, .int t] ∧ DiceAt H p ∧ 0 < t ∧ t < 1073741824 ∧ ∀ r H', 0 ≤ r → r < t → Kd p H H' → DiceAt H' p → Q (.int r) H'
def spPick : Sp := fun vs H Q _ => ∃ (p a : Addr) (xs : List V), vs = [.ref p, .ref a] ∧ DiceAt H p ∧ a ≠ p ∧ H a = some (.lst xs) ∧ 0 < xs.length ∧ xs.length ≤ 1000 ∧ ∀ v H', v ∈ xs → Kd p H H' → DiceAt H' p → Q v H'
structure TL (K : PySem.W.Frag) (mg : Str → Option Value) (fR fP : Addr) : Prop where
  int : mg "int" = none
  abs : mg "abs" = none
  max : mg "max" = none
  len : mg "len" = none
  gR : mg "_law_roll" = some (.ref fR)
  kR : PySem.W.keepIn K (.ref fR) = true
  gP : mg "_law_pick" = some (.ref fP)
  kP : PySem.W.keepIn K (.ref fP) = true
theorem mod_cm {a b : Int} : CMul (a % 2305843009213693907) b := .inl ⟨by have := Int.emod_nonneg a (show (2305843009213693907 : Int) ≠ 0 by decide); omega, by have := Int.emod_lt_of_pos a (show (0 : Int) < 2305843009213693907 by decide); omega⟩
theorem big_mul : CMulW ((10 : Int) ^ (60 : Int).toNat) ((10 : Int) ^ (60 : Int).toNat) := by
  unfold CMulW
  decide +kernel
theorem big_pos : (0 : Int) < (10 : Int) ^ (60 : Int).toNat * (10 : Int) ^ (60 : Int).toNat := by decide +kernel
theorem at0 {x y z : V} : atI [x, y, z] 0 = some x := rfl
theorem at1 {x y z : V} : atI [x, y, z] 1 = some y := rfl
theorem at2 {x y z : V} : atI [x, y, z] 2 = some z := rfl
section
variable {P : Program} {w : World} {K : PySem.W.Frag} {mg : Str → Option Value} {base : Heap} {fR fP : Addr} {fdR fdP : FuncData}
theorem scDice : FnScope ["_law_script", "_law_spot", "_law_cell", "_law_left"] ["_law_script", "_law_spot"] (defScope sDice) := ⟨rfl, rfl, rfl, by decide +kernel, rfl, by decide +kernel, by decide +kernel⟩
theorem ok_dice {f : Addr} {fd : FuncData} (F : Fun K "_law_dice" "_law_dice" sDice f fd) (T : TL K mg fR fP) : FnOk P w K mg base CX0 1 f fd ["_law_script", "_law_spot"] (spDice K) := by
  refine F.ok scDice (fun vs H Q E h => ?_) (fun cdv A outer s H vs Q E hr h => ?_)
  · obtain ⟨a, ns, i, rfl, _⟩ := h
    rfl
  · obtain ⟨a, ns, i, rfl, hS, hi, k⟩ := h
    refine ⟨_, pss_cons (ps_set (i := 2) scDice.nd rfl (Or.inl rfl) (pe_ifExp (pt_cmpR op_lt (pv 1) (pe_callB call_len_seq (by rfl) T.len PySem.boot_len (pa_cons (pv 0) pa_nil)) (nomark _))
        (pe_callTy call_int1 (by rfl) T.int (by decide +kernel) (pa_cons (pe_ix ix_list (pv 0) (pv 1) (fun _ _ => rfl)) pa_nil)) (pe_op op_add (pe_op op_mul pe_int (pv 1)) pe_int)))
      (pss_cons (ps_set (i := 3) scDice.nd rfl (Or.inl rfl) (pe_op op_mod (pe_callB (call_max2 rfl) (by rfl) T.max (by decide +kernel) (pa_cons pe_int (pa_cons (pe_op op_sub (pe_callB call_abs (by rfl) T.abs (by decide +kernel) (pa_cons (pv 2) pa_nil)) (pe_op op_pow pe_int pe_int)) pa_nil)))
        (pe_op op_mulW (pe_op op_pow pe_int pe_int) (pe_op op_pow pe_int pe_int))))
      (pss_one (ps_ret (pe_lst (pa_cons (pv 3) (pa_cons (pe_op op_add (pe_op op_add (pe_op op_add (pe_op op_mul (pe_op op_mod (pe_callB call_abs (by rfl) T.abs (by decide +kernel) (pa_cons (pv 2) pa_nil)) pe_int) pe_int) (pe_op op_mul pe_int (pv 1)))
        (pe_op op_mul pe_int (pe_callTy call_int1 (by rfl) T.int (by decide +kernel) (pa_cons (pe_cmpR op_lt (pv 2) pe_int (nomark _)) pa_nil)))) pe_int) (pa_cons pe_int pa_nil))))))), ?_⟩
    refine ⟨_, rfl, _, rfl, a, _, rfl, .inl hS, _, _, rfl, rfl, _, rfl, ?_⟩
    rw [List.length_map]
    by_cases c : i < (ns.length : Int)
    · have hl : i.toNat < ns.length := by omega
      have e : atI (ns.map V.int) ((i.toNat : Nat) : Int) = some (.int ns[i.toNat]) := atI_nat (by rw [List.getElem?_map, List.getElem?_eq_getElem hl]; rfl)
      rw [Int.toNat_of_nonneg hi] at e
      refine if_pos_of (decide_eq_true c) ⟨_, rfl, _, rfl, a, _, _, _, rfl, rfl, hS, e, .inl ⟨_, rfl, ?_⟩⟩
      refine ⟨_, rfl, _, rfl, _, _, rfl, rfl, ⟨by decide, by decide, by decide⟩, _, _, rfl, rfl, _, _, rfl, _, _, rfl, rfl, ⟨by decide, by decide, by decide⟩, _, _, rfl, rfl, ⟨by decide, by decide, by decide⟩, _, _, rfl, rfl, big_mul, _, _, rfl, rfl, big_pos, ?_⟩
      refine ⟨_, rfl, _, rfl, _, rfl, _, _, rfl, rfl, (by show (0 : Int) < 1152921504606846869; decide), _, _, rfl, rfl, .inr ⟨by decide, by decide⟩, _, rfl, _, _, rfl, rfl, .inl ⟨by decide, by decide⟩, _, _, rfl, rfl, ?_⟩
      refine ⟨_, rfl, _, _, rfl, rfl, .inr ⟨_, rfl, _, _, rfl, rfl, .inl ⟨by decide, by decide⟩, _, _, rfl, rfl, _, _, rfl, rfl, ?_⟩⟩
      exact ⟨by show 3 ≤ sizeLine; decide, fun p hp => k _ p (Same.new _ hp) hp ⟨_, _, _, upd_same⟩⟩
    · refine if_neg_of (decide_eq_false c) ⟨_, rfl, _, _, rfl, rfl, .inl ⟨by decide, by decide⟩, _, _, rfl, rfl, ?_⟩
      refine ⟨_, rfl, _, rfl, _, _, rfl, rfl, ⟨by decide, by decide, by decide⟩, _, _, rfl, rfl, _, _, rfl, _, _, rfl, rfl, ⟨by decide, by decide, by decide⟩, _, _, rfl, rfl, ⟨by decide, by decide, by decide⟩, _, _, rfl, rfl, big_mul, _, _, rfl, rfl, big_pos, ?_⟩
      refine ⟨_, rfl, _, rfl, _, rfl, _, _, rfl, rfl, (by show (0 : Int) < 1152921504606846869; decide), _, _, rfl, rfl, .inr ⟨by decide, by decide⟩, _, rfl, _, _, rfl, rfl, .inl ⟨by decide, by decide⟩, _, _, rfl, rfl, ?_⟩
      refine ⟨_, rfl, _, _, rfl, rfl, .inr ⟨_, rfl, _, _, rfl, rfl, .inl ⟨by decide, by decide⟩, _, _, rfl, rfl, _, _, rfl, rfl, ?_⟩⟩
      exact ⟨by show 3 ≤ sizeLine; decide, fun p hp => k _ p (Same.new _ hp) hp ⟨_, _, _, upd_same⟩⟩
theorem scRoll : FnScope ["_law_dice_here", "_law_total", "_law_found", "_law_one", "_law_two"] ["_law_dice_here", "_law_total"] (defScope sRoll) := ⟨rfl, rfl, rfl, by decide +kernel, rfl, by decide +kernel, by decide +kernel⟩
theorem ok_roll {f : Addr} {fd : FuncData} (F : Fun K "_law_roll" "_law_roll" sRoll f fd) (T : TL K mg fR fP) : FnOk P w K mg base CX0 1 f fd ["_law_dice_here", "_law_total"] spRoll := by
  refine F.ok scRoll (fun vs H Q E h => ?_) (fun cdv A outer s H vs Q E hr h => ?_)
  · obtain ⟨a, t, rfl, _⟩ := h
    rfl
  · obtain ⟨p, t, rfl, ⟨x, y, z, hp⟩, h0, h1, k⟩ := h
    refine ⟨_, pss_cons (ps_if (pt_cmpR op_gt (pe_ix ix_list (pv 0) pe_int (fun _ _ => rfl)) pe_int (nomark _))
        (pss_cons (ps_set (i := 2) scRoll.nd rfl (Or.inl rfl) (pe_op op_mod (pe_callTy call_int1 (by rfl) T.int (by decide +kernel) (pa_cons (pe_ix ix_list (pv 0) pe_int (fun _ _ => rfl)) pa_nil)) (pv 1)))
        (pss_cons (ps_asg (pe_op op_fdiv (pe_ix ix_list (pv 0) pe_int (fun _ _ => rfl)) (pv 1)) (pg_sub (pv 0) pe_int set_list))
        (pss_one (ps_ret (pv 2))))) pss_nil)
      (pss_cons (ps_asg (pe_op op_add (pe_ix ix_list (pv 0) pe_int (fun _ _ => rfl)) pe_int) (pg_sub (pv 0) pe_int set_list))
      (pss_cons (ps_set (i := 3) scRoll.nd rfl (Or.inl rfl) (pe_op op_mod (pe_callTy call_int1 (by rfl) T.int (by decide +kernel) (pa_cons (pe_op op_add (pe_ix ix_list (pv 0) pe_int (fun _ _ => rfl)) (pe_op op_mul pe_int (pe_ix ix_list (pv 0) pe_int (fun _ _ => rfl)))) pa_nil)) pe_int))
      (pss_cons (ps_set (i := 4) scRoll.nd rfl (Or.inl rfl) (pe_op op_add (pe_op op_mul (pe_op op_mod (pe_callTy call_int1 (by rfl) T.int (by decide +kernel) (pa_cons (pe_op op_add (pe_op op_mul (pv 3) (pv 3)) (pe_op op_mul pe_int (pe_ix ix_list (pv 0) pe_int (fun _ _ => rfl)))) pa_nil)) pe_int) pe_int) (pv 3)))
      (pss_one (ps_ret (pe_op op_mod (pe_callTy call_int1 (by rfl) T.int (by decide +kernel) (pa_cons (pe_op op_fdiv (pv 4) pe_int) pa_nil)) (pv 1))))))), ?_⟩
    refine ⟨_, rfl, p, _, _, _, rfl, rfl, SqL.of hp, at0, _, _, rfl, rfl, _, rfl, ?_⟩
    by_cases c : (0 : Int) < x
    · refine if_pos_of (decide_eq_true c) ⟨_, rfl, p, _, _, _, rfl, rfl, SqL.of hp, at0, .inl ⟨_, rfl, _, rfl, _, _, rfl, rfl, h0, ?_⟩⟩
      refine ⟨_, rfl, p, _, _, _, rfl, rfl, SqL.of hp, at0, _, rfl, _, _, rfl, rfl, ⟨h0, h1⟩, _, rfl, p, _, _, 0, rfl, rfl, hp, rfl, _, rfl, ?_⟩
      exact k _ _ (Int.emod_nonneg _ (by omega)) (Int.emod_lt_of_pos _ h0) Kd.put ⟨_, _, _, upd_same⟩
    · refine if_neg_of (decide_eq_false c) ?_
      refine ⟨_, rfl, p, _, _, _, rfl, rfl, SqL.of hp, at2, _, _, rfl, rfl, _, rfl, p, _, _, 2, rfl, rfl, hp, rfl, ?_⟩
      refine ⟨_, rfl, p, _, _, _, rfl, rfl, SqL.of upd_same, at1, _, rfl, p, _, _, _, rfl, rfl, SqL.of upd_same, at2, _, _, rfl, rfl, .inl ⟨by decide, by decide⟩, _, _, rfl, rfl, .inl ⟨_, rfl, _, _, rfl, rfl, (by show (0 : Int) < 2305843009213693907; decide), ?_⟩⟩
      refine ⟨_, rfl, _, rfl, _, _, rfl, rfl, mod_cm, _, rfl, p, _, _, _, rfl, rfl, SqL.of upd_same, at2, _, _, rfl, rfl, .inl ⟨by decide, by decide⟩, _, _, rfl, rfl, .inl ⟨_, rfl, _, _, rfl, rfl, (by show (0 : Int) < 2305843009213693921; decide), ?_⟩⟩
      refine ⟨_, _, rfl, rfl, .inr ⟨by decide, by decide⟩, _, rfl, _, _, rfl, rfl, ?_⟩
      refine ⟨_, rfl, _, _, rfl, rfl, ⟨(by show (0 : Int) < 65536; decide), (by show (65536 : Int) < 1073741824; decide)⟩, .inl ⟨_, rfl, _, rfl, _, _, rfl, rfl, h0, ?_⟩⟩
      exact k _ _ (Int.emod_nonneg _ (by omega)) (Int.emod_lt_of_pos _ h0) Kd.put ⟨_, _, _, upd_same⟩
theorem scPick : FnScope ["_law_dice_here", "_law_items"] ["_law_dice_here", "_law_items"] (defScope sPick) := ⟨rfl, rfl, rfl, by decide +kernel, rfl, by decide +kernel, by decide +kernel⟩
theorem ok_pick {f : Addr} {fd : FuncData} (F : Fun K "_law_pick" "_law_pick" sPick f fd) (T : TL K mg fR fP) (G : FnOk P w K mg base CX0 1 fR fdR ["_law_dice_here", "_law_total"] spRoll) (bR : Binds K fdR ["_law_dice_here", "_law_total"] []) :
    FnOk P w K mg base CX0 2 f fd ["_law_dice_here", "_law_items"] spPick := by
  refine F.ok scPick (fun vs H Q E h => ?_) (fun cdv A outer s H vs Q E hr h => ?_)
  · obtain ⟨p, a, xs, rfl, _⟩ := h
    rfl
  · obtain ⟨p, a, xs, rfl, hp, hne, ha, h0, h1, k⟩ := h
    refine ⟨_, pss_one (ps_ret (pe_ix ix_list (pv 1) (pe_call G hr (by rfl) T.gR T.kR bR .nil pass0 (pa_cons (pv 0) (pa_cons (pe_callB call_len_seq (by rfl) T.len PySem.boot_len (pa_cons (pv 1) pa_nil)) pa_nil))) (fun _ _ => rfl))), ?_⟩
    refine ⟨_, rfl, _, rfl, _, rfl, a, xs, rfl, .inl (SqL.of ha), p, _, rfl, hp, by omega, by omega, fun r H' r0 r1 kd dc => ?_⟩
    have hr1 : r.toNat < xs.length := by omega
    have ha' := kd _ _ hne ha
    refine ⟨a, xs, r, xs[r.toNat], rfl, rfl, SqL.of ha', ?_, k _ _ (List.getElem_mem hr1) kd dc⟩
    have e : atI xs ((r.toNat : Nat) : Int) = some xs[r.toNat] := atI_nat (List.getElem?_eq_getElem hr1)
    have e2 : ((r.toNat : Nat) : Int) = r := Int.toNat_of_nonneg r0
    rw [e2] at e
    exact e
end
end K0

/-! ## A7 -/
set_option maxRecDepth 100000
set_option maxHeartbeats 2000000
namespace K0
open PySem L2
abbrev sMixed : Stmt := top 49
abbrev sIsWord : Stmt := top 50
abbrev sWord : Stmt := top 51
abbrev sNumber : Stmt := top 52
/-- a comprehension whose element rolls the dice -/
theorem lc_roll {J : It} {n : Nat} {G : Hp → Prop} {Y : Nat → Hp → V → Hp → Prop} (w : Walk J n G Y) {g : TG} {te : TE} {vs : List Nat} {σ : St} {H1 : Hp} {D p : Addr} {Qd : Hp → Prop} (Gd : V → Prop)
    (hn : n < sizeLine) (hD : H1 D = none) (hp : DiceAt H1 p) (hG : ∀ H, Kd p H1 H → DiceAt H p → G H)
    (hs : ∀ i x H H', i < n → Kd p H1 H → DiceAt H p → Y i H x H' → g x (wipe σ vs) H' fun σ2 H2 => wipe σ2 vs = wipe σ vs ∧ ∀ (Q : V → Hp → Prop), (∀ y H4, Gd y → Kd p H H4 → DiceAt H4 p → Q y H4) → te σ2 H2 Q)
    (gm : ∀ x σ H (P R : St → Hp → Prop), (∀ σ2 H2, P σ2 H2 → R σ2 H2) → g x σ H P → g x σ H R)
    (hd : ∀ H acc, Kd p H1 H → DiceAt H p → H D = some (.lst acc) → acc.length = n → (∀ y ∈ acc, Gd y) → Qd H) :
    ∃ W : Nat → Nat → Hp → Prop, (∃ m, W 0 m (upd H1 D (.lst []))) ∧ ∀ i m H, W i m H →
      (J.stop i H ∧ Qd H) ∨ (J.go i H ∧ ∃ Nx : Hp → Prop, (∀ H', Nx H' → ∃ m', m' < m ∧ W (i + 1) m' H') ∧ ∀ x H', J.yld i H x H' → g x (wipe σ vs) H' fun σ2 H2 => wipe σ2 vs = wipe σ vs ∧ tYes σ2 H2 fun b H3 =>
        if b = true then te σ2 H3 fun y H4 => ∃ acc, H4 D = some (.lst acc) ∧ acc.length < sizeLine ∧ Nx (upd H4 D (.lst (acc ++ [y]))) else Nx H3) := by
  obtain ⟨x0, y0, z0, e0⟩ := hp
  have hDp : p ≠ D := ne_of_none e0 hD
  refine lc_it w (fun i H => Kd p H1 H ∧ DiceAt H p ∧ ∃ acc, H D = some (.lst acc) ∧ acc.length = i ∧ ∀ y ∈ acc, Gd y)
    ⟨Kd.of (Same.new _ hD), ⟨x0, y0, z0, by rw [upd_ne hDp]; exact e0⟩, [], upd_same, rfl, fun y h => by cases h⟩ (fun i H _ q => hG H q.1 q.2.1) (fun i x H H' hi q y => ?_) (fun H q => ?_)
  · obtain ⟨q1, q2, acc, q3, q4, q5⟩ := q
    refine gm _ _ _ _ _ (fun σ2 H2 r => ⟨r.1, ?_⟩) (hs i x H H' hi q1 q2 y)
    dsimp only [tYes]
    rw [if_pos rfl]
    refine r.2 _ fun y H4 gy s4 d4 => ⟨acc, s4 _ _ hDp.symm q3, by omega, ?_, ?_, acc ++ [y], upd_same, by rw [List.length_append, q4]; rfl, ?_⟩
    · exact fun b o nb e => by rw [upd_ne (ne_of_none e hD)]; exact s4 _ _ nb (q1 _ _ nb e)
    · obtain ⟨a1, a2, a3, a4⟩ := d4
      exact ⟨a1, a2, a3, by rw [upd_ne hDp]; exact a4⟩
    · intro u hu
      rcases List.mem_append.mp hu with h | h
      · exact q5 u h
      · rw [List.mem_singleton.mp h]; exact gy
  · obtain ⟨q1, q2, acc, q3, q4, q5⟩ := q
    exact hd H acc q1 q2 q3 q4 q5
theorem erase_perm {α : Type} : ∀ (l : List α) (i : Nat) (h : i < l.length), List.Perm (l[i] :: l.eraseIdx i) l
  | x :: r, 0, _ => .refl _
  | x :: r, i + 1, h => by
    simp only [List.getElem_cons_succ, List.eraseIdx_cons_succ]
    exact (List.Perm.swap x _ _).trans ((erase_perm r i (by simpa using h)).cons x)
def okS (z : Str) : Prop := ∀ c ∈ z.cps.toList, c < 0x110000
theorem okS_app {a b : Str} (ha : okS a) (hb : okS b) : okS (a ++ b) := fun c h => by
  have e : (a ++ b).cps.toList = a.cps.toList ++ b.cps.toList := by
    show (a.cps ++ b.cps).toList = _
    simp
  rw [e] at h
  rcases List.mem_append.mp h with h | h
  · exact ha c h
  · exact hb c h
theorem okS_join : ∀ ys : List Str, (∀ y ∈ ys, okS y) → okS (Str.join "" ys)
  | [], _ => fun c h => by cases h
  | [x], h => h x List.mem_cons_self
  | x :: y :: r, h => okS_app (okS_app (h x List.mem_cons_self) fun c h => by cases h) (okS_join (y :: r) fun z hz => h z (List.mem_cons_of_mem _ hz))
theorem strs_of : ∀ (acc : List V), (∀ y ∈ acc, ∃ c : Nat, c < 256 ∧ y = .str ⟨#[c]⟩) → ∃ ys : List Str, acc = ys.map V.str ∧ (ys.map (·.length)).sum = acc.length ∧ ys.length = acc.length ∧ ∀ y ∈ ys, okS y
  | [], _ => ⟨[], rfl, rfl, rfl, fun y h => by cases h⟩
  | y :: r, h => by
    obtain ⟨c, hc, rfl⟩ := h y List.mem_cons_self
    obtain ⟨ys, e1, e2, e3, e4⟩ := strs_of r fun z hz => h z (List.mem_cons_of_mem _ hz)
    refine ⟨⟨#[c]⟩ :: ys, by rw [e1]; rfl, ?_, by rw [List.length_cons, List.length_cons, e3], fun y hy => ?_⟩
    rotate_left
    · rcases List.mem_cons.mp hy with e | e
      · rw [e]
        intro d hd
        have hd' : d ∈ [c] := hd
        rw [List.mem_singleton.mp hd']
        omega
      · exact e4 y e
    rw [List.map_cons, List.sum_cons, e2, List.length_cons]
    show 1 + _ = _
    omega
def spMixed : Sp := fun vs H Q _ => ∃ (p a : Addr) (xs : List V), vs = [.ref p, .ref a] ∧ DiceAt H p ∧ a ≠ p ∧ H a = some (.lst xs) ∧ xs.length ≤ 1000 ∧ ∀ ys l H', ys.Perm xs → H l = none → H' l = some (.lst ys) → Kd p H H' → DiceAt H' p → Q (.ref l) H'
def spWord : Sp := fun vs H Q _ => ∃ (p : Addr), vs = [.ref p] ∧ DiceAt H p ∧ ∀ z H', z.length ≤ 10 → okS z → Kd p H H' → DiceAt H' p → Q (.str z) H'
def spNumber : Sp := fun vs H Q _ => ∃ (p : Addr), vs = [.ref p] ∧ DiceAt H p ∧ ∀ (n : Int) H', n.natAbs < 2 ^ 300 → Kd p H H' → DiceAt H' p → Q (.int n) H'
theorem forty : CMulW ((10 : Int) ^ (40 : Int).toNat) ((10 : Int) ^ (40 : Int).toNat) := by
  unfold CMulW
  decide +kernel
def nears : List V := [.int 0, .int 1, .int 7, .int ((10 : Int) ^ (6 : Int).toNat), .int ((10 : Int) ^ (59 : Int).toNat), .int ((10 : Int) ^ (60 : Int).toNat), .int ((10 : Int) ^ (60 : Int).toNat), .int ((10 : Int) ^ (40 : Int).toNat * (10 : Int) ^ (40 : Int).toNat)]
theorem near_of {v : V} (h : v ∈ nears) : ∃ n : Int, v = .int n ∧ n.natAbs < 2 ^ 280 := by
  simp only [nears, List.mem_cons, List.not_mem_nil, or_false] at h
  rcases h with h | h | h | h | h | h | h | h <;> exact ⟨_, h, by decide +kernel⟩
structure TM (K : PySem.W.Frag) (mg : Str → Option Value) (fR fP : Addr) : Prop extends TL K mg fR fP where
  list : mg "list" = none
  range : mg "range" = none
section
variable {P : Program} {w : World} {K : PySem.W.Frag} {mg : Str → Option Value} {base : Heap} {fR fP : Addr} {fdR fdP : FuncData}
theorem scMixed : FnScope ["_law_dice_here", "_law_items", "_law_left", "_law_found", "_law_turn"] ["_law_dice_here", "_law_items"] (defScope sMixed) := ⟨rfl, rfl, rfl, by decide +kernel, rfl, by decide +kernel, by decide +kernel⟩
theorem ok_mixed {f : Addr} {fd : FuncData} (F : Fun K "_law_mixed" "_law_mixed" sMixed f fd) (T : TM K mg fR fP) (G : FnOk P w K mg base CX0 1 fR fdR ["_law_dice_here", "_law_total"] spRoll) (bR : Binds K fdR ["_law_dice_here", "_law_total"] []) :
    FnOk P w K mg base CX0 2 f fd ["_law_dice_here", "_law_items"] spMixed := by
  refine F.ok scMixed (fun vs H Q E h => ?_) (fun cdv A outer s H vs Q E hr h => ?_)
  · obtain ⟨p, a, xs, rfl, _⟩ := h
    rfl
  · obtain ⟨p, a, xs, rfl, hp, hne, ha, h1, k⟩ := h
    refine ⟨_, pss_cons (ps_par (i := 2) (j := 3) rfl scMixed.nd rfl rfl (by decide) rfl rfl (pa_cons (pe_callTy call_list_of (by rfl) T.list (by decide +kernel) (pa_cons (pv 1) pa_nil)) (pa_cons (pe_lst pa_nil) pa_nil)) rfl)
      (pss_cons (ps_for PassesOwn.never rfl (pi_range1 (by rfl) T.range (pa_cons (pe_callB call_len_seq (by rfl) T.len PySem.boot_len (pa_cons (pv 1) pa_nil)) pa_nil)) (pg_name (i := 4) scMixed.nd rfl (Or.inl rfl))
        (pss_one (ps_expr (pe_bm PySem.F.plainAttrs_list PySem.F.slot_list_append PySem.F.type_list_append mt_append (pv 3) (pa_cons (pe_bm PySem.F.plainAttrs_list PySem.F.slot_list_pop PySem.F.type_list_pop mt_popAt (pv 2)
          (pa_cons (pe_call G hr (by rfl) T.gR T.kR bR .nil pass0 (pa_cons (pv 0) (pa_cons (pe_callB call_len_seq (by rfl) T.len PySem.boot_len (pa_cons (pv 2) pa_nil)) pa_nil))) pa_nil)) pa_nil)))))
      (pss_one (ps_ret (pv 3)))), ?_⟩
    refine ⟨_, rfl, a, xs, rfl, .inl (SqL.of ha), fun l hl => ?_⟩
    have hal : a ≠ l := ne_of_none ha hl
    have hpl : p ≠ l := by
      obtain ⟨x, y, z, e⟩ := hp
      exact ne_of_none e hl
    refine ⟨Nat.zero_le _, fun q hq => ⟨_, _, rfl, ?_⟩⟩
    have hql : l ≠ q := fun e => by rw [← e, upd_same] at hq; cases hq
    have hq0 : H q = none := by rw [upd_ne hql.symm] at hq; exact hq
    have haq : a ≠ q := ne_of_none ha hq0
    have hpq : p ≠ q := by
      obtain ⟨x, y, z, e⟩ := hp
      exact ne_of_none e hq0
    have ha' : upd (upd H l (.lst xs)) q (.lst []) a = some (.lst xs) := by rw [upd_ne haq, upd_ne hal]; exact ha
    refine ⟨_, rfl, a, xs, rfl, .inl (SqL.of ha'), (xs.length : Int), rfl, by omega, by omega, for_range (n := xs.length) (fun i σ H' => ∃ (left found : List V) (v : Option V), σ = [some (.ref p), some (.ref a), some (.ref l), some (.ref q), v] ∧ Kd p H H' ∧ DiceAt H' p ∧ H' l = some (.lst left) ∧ H' q = some (.lst found) ∧ (found ++ left).Perm xs ∧ left.length + i = xs.length)
      ⟨xs, [], none, rfl, fun b o nb e => ?_, ?_, ?_, upd_same, by simp, rfl⟩ ?_ ?_⟩
    · rw [upd_ne (ne_of_none e hq0), upd_ne (ne_of_none e hl)]; exact e
    · obtain ⟨x, y, z, e⟩ := hp
      exact ⟨x, y, z, by rw [upd_ne hpq, upd_ne hpl]; exact e⟩
    · rw [upd_ne hql, upd_same]
    · rintro i σ H1 hi ⟨left, found, v, rfl, kd, dc, h1l, h1q, pm, len⟩
      have fl : found.length ≤ 1000 := by
        have := pm.length_eq
        rw [List.length_append] at this
        omega
      refine ⟨_, rfl, .inl ⟨rfl, _, SqL.of h1q⟩, _, rfl, .inl ⟨rfl, _, SqL.of h1l⟩, _, rfl, _, rfl, l, left, rfl, .inl (SqL.of h1l), p, _, rfl, dc, by omega, by omega, fun r H2 r0 r1 kd2 dc2 => ?_⟩
      have h2l := kd2 _ _ hpl.symm h1l
      have h2q := kd2 _ _ hpq.symm h1q
      have hr1 : r.toNat < left.length := by omega
      refine ⟨l, left, r, r.toNat, left[r.toNat], rfl, rfl, h2l, by omega, by omega, seqIndex_of r0 r1, List.getElem?_eq_getElem hr1, q, found, _, rfl, rfl, ?_, small1000 fl, ?_⟩
      · rw [upd_ne hql.symm]; exact h2q
      · refine ⟨left.eraseIdx r.toNat, found ++ [left[r.toNat]], _, rfl, fun b o nb e => ?_, ?_, ?_, upd_same, ?_, ?_⟩
        · rw [upd_ne (ne_of_none e hq0), upd_ne (ne_of_none e hl)]
          exact kd2 _ _ nb (kd _ _ nb e)
        · obtain ⟨x, y, z, e⟩ := dc2
          exact ⟨x, y, z, by rw [upd_ne hpq, upd_ne hpl]; exact e⟩
        · rw [upd_ne hql, upd_same]
        · rw [List.append_assoc]
          exact ((erase_perm left r.toNat hr1).append_left found).trans pm
        · rw [List.length_eraseIdx_of_lt hr1]
          omega
    · rintro σ H1 ⟨left, found, v, rfl, kd, dc, h1l, h1q, pm, len⟩
      have hn : left = [] := List.eq_nil_of_length_eq_zero (by omega)
      rw [hn, List.append_nil] at pm
      exact ⟨_, rfl, k found q H1 pm hq0 h1q kd dc⟩
theorem scWord : FnScope ["_law_dice_here", "_law_signs", "_law_turn"] ["_law_dice_here"] (defScope sWord) := ⟨rfl, rfl, rfl, by decide +kernel, rfl, by decide +kernel, by decide +kernel⟩
theorem ok_word {f : Addr} {fd : FuncData} (F : Fun K "_law_word" "_law_word" sWord f fd) (T : TM K mg fR fP) (G : FnOk P w K mg base CX0 1 fR fdR ["_law_dice_here", "_law_total"] spRoll) (bR : Binds K fdR ["_law_dice_here", "_law_total"] []) :
    FnOk P w K mg base CX0 2 f fd ["_law_dice_here"] spWord := by
  refine F.ok scWord (fun vs H Q E h => ?_) (fun cdv A outer s H vs Q E hr h => ?_)
  · obtain ⟨p, rfl, _⟩ := h
    rfl
  · obtain ⟨p, rfl, hp, k⟩ := h
    refine ⟨_, pss_cons (ps_set (i := 1) scWord.nd rfl (Or.inr rfl) (pe_ifExp (pt_cmpR op_gt (pe_call G hr (by rfl) T.gR T.kR bR .nil pass0 (pa_cons (pv 0) (pa_cons pe_int pa_nil))) pe_int (nomark _)) pe_str pe_str))
      (pss_one (ps_ret (pe_join pe_str (pe_lc (own := [("_law_turn", 2)]) (g := gName 2) (tt := tYes) rfl scWord.nd (pi_range1 (by rfl) T.range (pa_cons (pe_call G hr (by rfl) T.gR T.kR bR .nil pass0 (pa_cons (pv 0) (pa_cons pe_int pa_nil))) pa_nil))
        (blkOk_by (own := [("_law_turn", 2)]) (N := ["_law_dice_here", "_law_signs", "_law_turn"]) (sc := defScope sWord) (by decide +kernel)) (fun _ _ _ _ _ => pg_name (i := 2) scWord.nd rfl (Or.inl rfl)) (fun _ _ _ _ _ => pts_nil)
        (fun _ _ _ _ _ => pe_ix ix_str (pv 1) (pe_call G hr (by rfl) T.gR T.kR bR .nil pass0 (pa_cons (pv 0) (pa_cons (pe_callB call_len_str (by rfl) T.len PySem.boot_len (pa_cons (pv 1) pa_nil)) pa_nil))) (fun _ _ => rfl)))))), ?_⟩
    refine ⟨_, rfl, p, _, rfl, hp, by decide, by decide, fun r H1 r0 r1 kd1 dc1 => ⟨_, _, rfl, rfl, _, rfl, ?_⟩⟩
    by_cases c : (0 : Int) < r
    · refine if_pos_of (decide_eq_true c) ?_
      have s0 : 0 < ("abcxyzclauserow" : Str).length := by decide
      have s15 : ("abcxyzclauserow" : Str).length ≤ 15 := by decide
      have sc : ∀ c ∈ ("abcxyzclauserow" : Str).cps.toList, c < 256 := by decide
      generalize ("abcxyzclauserow" : Str) = S at s0 s15 sc
      refine ⟨⟨_, rfl⟩, _, rfl, p, _, rfl, dc1, by decide, by decide, fun r2 H2 r20 r21 kd2 dc2 => ⟨r2, rfl, by omega, by omega, fun D hD => lc_roll (p := p) (Gd := fun y => ∃ c : Nat, c < 256 ∧ y = .str ⟨#[c]⟩) walk_range (small1000 (by omega)) hD dc2 (fun _ _ _ => True.intro) ?_ gName_mono ?_⟩⟩
      · rintro i x H3 H4 hi kd3 dc3 ⟨rfl, rfl⟩
        refine ⟨rfl, fun Q' q => ⟨_, rfl, _, rfl, _, rfl, S, rfl, Nat.le_of_lt (small1000 (by omega)), p, _, rfl, dc3, by omega, by omega, fun r3 H5 r30 r31 kd5 dc5 => ?_⟩⟩
        have h3 : r3.toNat < S.cps.toList.length := by
          show r3.toNat < S.length
          omega
        have e3 : atI S.cps.toList ((r3.toNat : Nat) : Int) = some (S.cps.toList[r3.toNat]) := atI_nat (List.getElem?_eq_getElem h3)
        rw [Int.toNat_of_nonneg r30] at e3
        exact ⟨S, r3, _, rfl, rfl, Nat.le_of_lt (small1000 (by omega)), e3, q _ H5 ⟨_, sc _ (List.getElem_mem h3), rfl⟩ kd5 dc5⟩
      · intro H3 acc kd3 dc3 hD3 hacc hall
        obtain ⟨ys, rfl, e1, e2, e4⟩ := strs_of acc hall
        refine ⟨_, D, ys, rfl, rfl, .inl (SqL.of hD3), ?_, ?_⟩
        · rw [e1, hacc]
          show r2.toNat + ys.length * 0 ≤ _
          omega
        · have lj := PySem.StrLaws.join_length_le ("" : Str) ys
          rw [e1, hacc] at lj
          refine k _ H3 ?_ (by rw [_root_.TL.join_eq]; exact okS_join ys e4) ((kd1.tr kd2).tr kd3) dc3
          rw [_root_.TL.join_eq]
          have l0 : ("" : Str).length = 0 := rfl
          rw [l0] at lj
          omega
    · refine if_neg_of (decide_eq_false c) ?_
      have s0 : 0 < ("abzAZ019 _-" : Str).length := by decide
      have s15 : ("abzAZ019 _-" : Str).length ≤ 15 := by decide
      have sc : ∀ c ∈ ("abzAZ019 _-" : Str).cps.toList, c < 256 := by decide
      generalize ("abzAZ019 _-" : Str) = S at s0 s15 sc
      refine ⟨⟨_, rfl⟩, _, rfl, p, _, rfl, dc1, by decide, by decide, fun r2 H2 r20 r21 kd2 dc2 => ⟨r2, rfl, by omega, by omega, fun D hD => lc_roll (p := p) (Gd := fun y => ∃ c : Nat, c < 256 ∧ y = .str ⟨#[c]⟩) walk_range (small1000 (by omega)) hD dc2 (fun _ _ _ => True.intro) ?_ gName_mono ?_⟩⟩
      · rintro i x H3 H4 hi kd3 dc3 ⟨rfl, rfl⟩
        refine ⟨rfl, fun Q' q => ⟨_, rfl, _, rfl, _, rfl, S, rfl, Nat.le_of_lt (small1000 (by omega)), p, _, rfl, dc3, by omega, by omega, fun r3 H5 r30 r31 kd5 dc5 => ?_⟩⟩
        have h3 : r3.toNat < S.cps.toList.length := by
          show r3.toNat < S.length
          omega
        have e3 : atI S.cps.toList ((r3.toNat : Nat) : Int) = some (S.cps.toList[r3.toNat]) := atI_nat (List.getElem?_eq_getElem h3)
        rw [Int.toNat_of_nonneg r30] at e3
        exact ⟨S, r3, _, rfl, rfl, Nat.le_of_lt (small1000 (by omega)), e3, q _ H5 ⟨_, sc _ (List.getElem_mem h3), rfl⟩ kd5 dc5⟩
      · intro H3 acc kd3 dc3 hD3 hacc hall
        obtain ⟨ys, rfl, e1, e2, e4⟩ := strs_of acc hall
        refine ⟨_, D, ys, rfl, rfl, .inl (SqL.of hD3), ?_, ?_⟩
        · rw [e1, hacc]
          show r2.toNat + ys.length * 0 ≤ _
          omega
        · have lj := PySem.StrLaws.join_length_le ("" : Str) ys
          rw [e1, hacc] at lj
          refine k _ H3 ?_ (by rw [_root_.TL.join_eq]; exact okS_join ys e4) ((kd1.tr kd2).tr kd3) dc3
          rw [_root_.TL.join_eq]
          have l0 : ("" : Str).length = 0 := rfl
          rw [l0] at lj
          omega
theorem scNumber : FnScope ["_law_dice_here", "_law_near", "_law_number_here"] ["_law_dice_here"] (defScope sNumber) := ⟨rfl, rfl, rfl, by decide +kernel, rfl, by decide +kernel, by decide +kernel⟩
theorem ok_number {f : Addr} {fd : FuncData} (F : Fun K "_law_number" "_law_number" sNumber f fd) (T : TM K mg fR fP) (G : FnOk P w K mg base CX0 1 fR fdR ["_law_dice_here", "_law_total"] spRoll) (bR : Binds K fdR ["_law_dice_here", "_law_total"] [])
    (GP : FnOk P w K mg base CX0 2 fP fdP ["_law_dice_here", "_law_items"] spPick) (bP : Binds K fdP ["_law_dice_here", "_law_items"] []) : FnOk P w K mg base CX0 3 f fd ["_law_dice_here"] spNumber := by
  refine F.ok scNumber (fun vs H Q E h => ?_) (fun cdv A outer s H vs Q E hr h => ?_)
  · obtain ⟨p, rfl, _⟩ := h
    rfl
  · obtain ⟨p, rfl, hp, k⟩ := h
    have hr1 : Room 1 _ := hr.mono (by decide)
    refine ⟨_, pss_cons (ps_set (i := 1) scNumber.nd rfl (Or.inl rfl) (pe_call GP hr (by rfl) T.gP T.kP bP .nil pass0 (pa_cons (pv 0) (pa_cons (pe_lst (pa_cons pe_int (pa_cons pe_int (pa_cons pe_int (pa_cons (pe_op op_pow pe_int pe_int) (pa_cons (pe_op op_pow pe_int pe_int) (pa_cons (pe_op op_pow pe_int pe_int)
        (pa_cons (pe_op op_pow pe_int pe_int) (pa_cons (pe_op op_mulW (pe_op op_pow pe_int pe_int) (pe_op op_pow pe_int pe_int)) pa_nil))))))))) pa_nil))))
      (pss_cons (ps_set (i := 2) scNumber.nd rfl (Or.inl rfl) (pe_op op_sub (pe_op op_add (pv 1) (pe_call G hr1 (by rfl) T.gR T.kR bR .nil pass0 (pa_cons (pv 0) (pa_cons pe_int pa_nil)))) pe_int))
      (pss_one (ps_ret (pe_ifExp (pt_cmpR op_eq (pe_call G hr1 (by rfl) T.gR T.kR bR .nil pass0 (pa_cons (pv 0) (pa_cons pe_int pa_nil))) pe_int (nomark _)) (pe_op op_sub pe_int (pv 2)) (pv 2))))), ?_⟩
    refine ⟨_, rfl, ?_⟩
    refine ⟨_, _, rfl, rfl, ⟨by decide, by decide, by decide⟩, _, _, rfl, rfl, ⟨by decide, by decide, by decide⟩, _, _, rfl, rfl, ⟨by decide, by decide, by decide⟩, _, _, rfl, rfl, ⟨by decide, by decide, by decide⟩, _, _, rfl, rfl, ⟨by decide, by decide, by decide⟩, _, _, rfl, rfl, ⟨by decide, by decide, by decide⟩, _, _, rfl, rfl, forty, ?_⟩
    refine ⟨by show 8 ≤ sizeLine; decide, fun q hq => ?_⟩
    obtain ⟨x, y, z, e⟩ := hp
    have hpq : p ≠ q := ne_of_none e hq
    refine ⟨p, q, _, rfl, ⟨x, y, z, by rw [upd_ne hpq]; exact e⟩, hpq.symm, upd_same, by simp, by simp, fun v H1 hv kd1 dc1 => ?_⟩
    obtain ⟨n, rfl, hn⟩ := near_of hv
    have kd : Kd p H H1 := fun b o nb eb => kd1 _ _ nb (by rw [upd_ne (ne_of_none eb hq)]; exact eb)
    refine ⟨_, rfl, _, rfl, p, _, rfl, dc1, by decide, by decide, fun r H2 r0 r1 kd2 dc2 => ⟨_, _, rfl, rfl, _, _, rfl, rfl, ?_⟩⟩
    refine ⟨_, rfl, p, _, rfl, dc2, by decide, by decide, fun r2 H3 r20 r21 kd3 dc3 => ?_⟩
    have kA := (kd.tr kd2).tr kd3
    have b1 : (n + r - 2).natAbs < 2 ^ 300 := by
      have e1 : (2 : Nat) ^ 300 = 2 ^ 280 * 1048576 := by decide +kernel
      have e2 : 4 ≤ 2 ^ 280 := by decide +kernel
      omega
    refine ⟨rfl, _, rfl, ?_⟩
    refine ite2 (fun _ => ?_) (fun _ => ?_)
    · refine ⟨_, rfl, _, _, rfl, rfl, k _ H3 ?_ kA dc3⟩
      omega
    · exact ⟨_, rfl, k _ H3 b1 kA dc3⟩
end
end K0

/-! ## A8 -/
set_option maxRecDepth 100000
set_option maxHeartbeats 2000000
namespace K0
open PySem L2
abbrev sDiff : Stmt := top 41
abbrev sDFrom : Stmt := top 42
theorem seqT {K : PySem.W.Frag} {H H' : Hp} {a : Addr} {xs : List V} (e : Same H H') (h : SqT K H a xs) : SqT K H' a xs :=
  h.imp (fun r => r.imp (fun q => e _ _ q) fun ⟨o, q⟩ => ⟨o, e _ _ q⟩) id
/-! ### lists without repetition -/
def ded : List Str → List Str
  | [] => []
  | x :: r => if x ∈ ded r then ded r else x :: ded r
theorem ded_mem : ∀ (xs : List Str) (k : Str), k ∈ ded xs ↔ k ∈ xs
  | [], _ => Iff.rfl
  | x :: r, k => by
    unfold ded
    have ih := ded_mem r
    split
    · rename_i h
      rw [ih, List.mem_cons]
      exact ⟨.inr, fun z => z.elim (fun e => by rw [e]; exact (ih x).mp h) id⟩
    · rw [List.mem_cons, List.mem_cons, ih]
theorem ded_nodup : ∀ xs : List Str, (ded xs).Nodup
  | [] => List.Pairwise.nil
  | x :: r => by
    unfold ded
    split
    · exact ded_nodup r
    · rename_i h
      exact List.nodup_cons.mpr ⟨h, ded_nodup r⟩
theorem ded_le : ∀ xs : List Str, (ded xs).length ≤ xs.length
  | [] => Nat.le_refl _
  | x :: r => by
    unfold ded
    have := ded_le r
    split <;> simp only [List.length_cons] <;> omega
theorem ded_full : ∀ xs : List Str, (ded xs).length = xs.length ↔ xs.Nodup
  | [] => ⟨fun _ => List.Pairwise.nil, fun _ => rfl⟩
  | x :: r => by
    have ih := ded_full r
    have le := ded_le r
    unfold ded
    split
    · rename_i h
      rw [ded_mem] at h
      constructor
      · intro e
        simp only [List.length_cons] at e
        omega
      · intro n
        exact absurd h (List.nodup_cons.mp n).1
    · rename_i h
      rw [ded_mem] at h
      rw [List.nodup_cons, List.length_cons, List.length_cons, Nat.add_right_cancel_iff, ih]
      exact ⟨fun z => ⟨h, z⟩, fun z => z.2⟩
theorem ded_len {xs L : List Str} (h : L.Nodup) (m : ∀ k, k ∈ L ↔ decide (k ∈ xs) = true) : L.length = (ded xs).length :=
  ((List.perm_ext_iff_of_nodup h (ded_nodup xs)).mpr fun k => by rw [m, ded_mem, decide_eq_true_eq]).length_eq
def spDiff (K : PySem.W.Frag) : Sp := fun vs H Q _ => ∃ (a : Addr) (xs : List Str), vs = [.ref a] ∧ (SqT K H a (xs.map V.str) ∨ SqL K H a (xs.map V.str)) ∧ xs.length ≤ 1000 ∧ ∀ H', Same H H' → Q (.bl (decide xs.Nodup)) H'
structure T4 (K : PySem.W.Frag) (mg : Str → Option Value) (fI fC fW fN : Addr) : Prop extends T3 K mg fI fC fW fN where
  set : mg "set" = none
def tkeys (kvs : List (Key × V)) (ks : List Str) : Bool := ks.all fun k => (valV kvs (.inr k)).isSome
def onDct (H : Hp) (p : List (Key × V) → Bool) : V → Bool
  | .ref a => match H a with
    | some (.dK kvs) => p kvs
    | _ => false
  | _ => false
theorem onDct_no {H : Hp} {p : List (Key × V) → Bool} {v : V} (h : isDctV H v = false) : onDct H p v = false := by
  cases v with
  | ref a =>
    simp only [isDctV] at h
    simp only [onDct]
    cases e : H a with
    | none => rfl
    | some o => cases o <;> first | rfl | (simp [e] at h)
  | _ => rfl
theorem isDct_at {H : Hp} {v : V} (h : isDctV H v = true) : ∃ a kvs, v = .ref a ∧ H a = some (.dK kvs) := by
  cases v with
  | ref a =>
    simp only [isDctV] at h
    cases e : H a with
    | none => simp [e] at h
    | some o => cases o <;> first | exact ⟨a, _, rfl, e⟩ | (simp [e] at h)
  | _ => cases h
/-- a dict's keys are texts, few -/
def Dk (H : Hp) (v : V) : Prop := ∀ a kvs, v = .ref a → H a = some (.dK kvs) → kvs.length ≤ 1000 ∧ ∀ p ∈ kvs, ∃ z, p.1 = Sum.inr z
def fromP (ks : List Str) (kvs : List (Key × V)) : Bool := decide (kvs.length = (ded ks).length) && tkeys kvs ks
def spDFrom (K : PySem.W.Frag) : Sp := fun vs H Q _ => ∃ (a : Addr) (ks : List Str) (v : V), vs = [.ref a, v] ∧ SqT K H a (ks.map V.str) ∧ ks.length ≤ 1000 ∧ Da H v ∧ Dk H v ∧ ∀ H', Same H H' → Q (.bl (onDct H (fromP ks) v)) H'
theorem strs_all (xs : List Str) (p : Str → Bool) : ((List.range xs.length).map fun i => p (xs.getD i Str.empty)).all id = xs.all p := by
  have e : (List.range xs.length).map (fun i => xs.getD i Str.empty) = xs := by
    apply List.ext_getElem
    · simp
    · intro i h1 h2
      simp at h1
      simp [h1]
  have e2 : xs.all p = ((List.range xs.length).map (fun i => xs.getD i Str.empty)).all p := by rw [e]
  rw [e2, List.all_map, List.all_map]
  rfl
section
variable {P : Program} {w : World} {K : PySem.W.Frag} {mg : Str → Option Value} {base : Heap} {fI fC fW fN : Addr} {fdI fdC fdW fdN : FuncData}
theorem scDiff : FnScope ["values"] ["values"] (defScope sDiff) := ⟨rfl, rfl, rfl, by decide +kernel, rfl, by decide +kernel, by decide +kernel⟩
theorem ok_diff {f : Addr} {fd : FuncData} (F : Fun K "are_different" "are_different" sDiff f fd) (T : T4 K mg fI fC fW fN) : FnOk P w K mg base CX0 1 f fd ["values"] (spDiff K) := by
  refine F.ok scDiff (fun vs H Q E h => ?_) (fun cdv A outer s H vs Q E hr h => ?_)
  · obtain ⟨a, xs, rfl, _⟩ := h
    rfl
  · obtain ⟨a, xs, rfl, hs, hl, k⟩ := h
    refine ⟨_, pss_one (ps_ret (pe_cmpR op_eq (pe_callB call_lenTx (by rfl) T.len PySem.boot_len (pa_cons (pe_callTy (cr_setTx rfl) (by rfl) T.set (by decide +kernel) (pa_cons (pv 0) pa_nil)) pa_nil)) (pe_callB call_len_seq (by rfl) T.len PySem.boot_len (pa_cons (pv 0) pa_nil)) (nomark _))), ?_⟩
    refine ⟨_, rfl, a, xs, rfl, hs, hl, fun p n hn hp => ⟨p, _, n, rfl, upd_same, by omega, fun ⟨L, l1, l2, l3⟩ => ?_⟩⟩
    have sm : Same H (upd H p (SetTO w p (fun j => decide (j ∈ xs)) n)) := Same.new _ hp
    have hs' := hs.imp (fun z => seqT sm z) (fun z => sm.seq z)
    refine ⟨_, rfl, a, _, rfl, hs'.symm, rfl, ?_⟩
    have e : n = (ded xs).length := by rw [← l3]; exact ded_len l1 l2
    have e2 : decide (V.int (n : Int) = V.int ((xs.map V.str).length : Int)) = decide xs.Nodup := by
      refine decide_eq_decide.mpr ?_
      rw [V.int.injEq, List.length_map, Int.ofNat_inj, e]
      exact ded_full xs
    have k' := k _ sm
    rw [← e2] at k'
    exact k'
theorem scDFrom : FnScope ["keys", "value", "key"] ["keys", "value"] (defScope sDFrom) := ⟨rfl, rfl, rfl, by decide +kernel, rfl, by decide +kernel, by decide +kernel⟩
theorem ok_dFrom {f : Addr} {fd : FuncData} (F : Fun K "is_dict_from" "is_dict_from" sDFrom f fd) (T : T4 K mg fI fC fW fN) : FnOk P w K mg base CX0 1 f fd ["keys", "value"] (spDFrom K) := by
  refine F.ok scDFrom (fun vs H Q E h => ?_) (fun cdv A outer s H vs Q E hr h => ?_)
  · obtain ⟨a, xs, v, rfl, _⟩ := h
    rfl
  · obtain ⟨a, ks, v, rfl, hs, hl, d, dk, k⟩ := h
    refine ⟨_, pss_cons (ps_if (pw_or (pt_not (pt_val (pe_callB call_isi (by rfl) T.isi (by decide +kernel) (pa_cons (pv 1) (pa_cons (pe_bltn (v := .ty "dict") (by rfl) T.dct (by decide +kernel) rfl) pa_nil)))))
        (pw_or1 (pt_cmpR op_ne (pe_callB call_lenD (by rfl) T.len PySem.boot_len (pa_cons (pv 1) pa_nil)) (pe_callB call_lenTx (by rfl) T.len PySem.boot_len (pa_cons (pe_callTy (cr_setTx rfl) (by rfl) T.set (by decide +kernel) (pa_cons (pv 0) pa_nil)) pa_nil)) (nomark _)))).pt
        (pss_one (ps_ret pe_bl)) pss_nil)
      (pss_one (ps_ret (pe_and (pe_callB (cr_all rfl) (by rfl) T.all (by decide +kernel) (pa_cons (pe_lc (own := [("key", 2)]) (g := gName 2) (tt := tYes) rfl scDFrom.nd (pi_tup (pv 0))
        (blkOk_by (own := [("key", 2)]) (N := ["keys", "value", "key"]) (sc := defScope sDFrom) (by decide +kernel)) (fun _ _ _ _ _ => pg_name (i := 2) scDFrom.nd rfl (Or.inl rfl)) (fun _ _ _ _ _ => pts_nil)
        (fun _ _ _ _ _ => pe_cmp (pc_din (hu_of hr) (pv 2) (pv 1)))) pa_nil))
        (pe_one (pe_not (pe_callB (cr_any rfl) (by rfl) T.any (by decide +kernel) (pa_cons (pe_lock (pe_lc (own := [("key", 2)]) (g := gName 2) (tt := tYes) rfl scDFrom.nd (pi_keys (pv 1))
        (blkOk_by (own := [("key", 2)]) (N := ["keys", "value", "key"]) (sc := defScope sDFrom) (by decide +kernel)) (fun _ _ _ _ _ => pg_name (i := 2) scDFrom.nd rfl (Or.inl rfl)) (fun _ _ _ _ _ => pts_nil)
        (fun _ _ _ _ _ => pe_callB (id := "isinstance") (r := rIsi K) call_isi (by rfl) T.isi (by decide +kernel) (pa_cons (pv 2) (pa_cons (pe_bltn (v := .ty "bool") (by rfl) T.bool (by decide +kernel) rfl) pa_nil))))) pa_nil))))))), ?_⟩
    obtain ⟨t, ty, kt⟩ := d.kDct (K := K)
    refine ⟨_, rfl, _, _, t, _, isDctV H v, rfl, .ty _, ty, kt, isDctV H v, rfl, ?_⟩
    by_cases c : isDctV H v = true
    · obtain ⟨dd, kvs, rfl, hd⟩ := isDct_at c
      obtain ⟨hkl, hkk⟩ := dk dd kvs rfl hd
      have k0 : ∀ H', Same H H' → Q (.bl (fromP ks kvs)) H' := fun H' s' => by
        have k' := k H' s'
        simp only [onDct, hd] at k'
        exact k'
      refine if_neg_of (by rw [c]; rfl) ⟨_, rfl, dd, kvs, rfl, hd, _, rfl, a, ks, rfl, .inl hs, hl, fun p n hn hp => ⟨p, _, n, rfl, upd_same, by omega, fun ⟨L, l1, l2, l3⟩ => ?_⟩⟩
      have sm : Same H (upd H p (SetTO w p (fun j => decide (j ∈ ks)) n)) := K0.Same.new _ hp
      have e : n = (ded ks).length := by rw [← l3]; exact ded_len l1 l2
      have e2 : decide (V.int (kvs.length : Int) = V.int (n : Int)) = decide (kvs.length = (ded ks).length) := by
        refine decide_eq_decide.mpr ?_
        rw [V.int.injEq, Int.ofNat_inj, e]
      refine ⟨rfl, _, rfl, ?_⟩
      show if (!decide (V.int (kvs.length : Int) = V.int (n : Int))) = true then _ else _
      rw [e2]
      by_cases c1 : kvs.length = (ded ks).length
      · have er : fromP ks kvs = tkeys kvs ks := by unfold fromP; rw [decide_eq_true c1]; rfl
        refine if_neg_of (by rw [decide_eq_true c1]; rfl) ?_
        refine ⟨_, rfl, a, rfl, ⟨_, seqT sm hs⟩, fun D hD => lc_pure (f := fun i => .bl (valV kvs (.inr (ks.getD i Str.empty))).isSome) (walk_tup (K := K) (a := a) (xs := ks.map V.str)) (by rw [List.length_map]; exact small1000 hl) hD (fun H1 s1 => seqT s1 (seqT sm hs)) ?_ gName_mono ?_⟩
        · rintro i x H2 H3 hi s2 ⟨rfl, hxi⟩
          rw [List.getElem?_map] at hxi
          obtain ⟨z, hz, rfl⟩ := Option.map_eq_some_iff.mp hxi
          have ez : ks.getD i Str.empty = z := by simp [List.getD, hz]
          refine ⟨rfl, fun Q' q => ⟨_, rfl, _, rfl, dd, _, rfl, DGet.k (k := Sum.inr z) (s2 _ _ (sm _ _ hd)), ?_⟩⟩
          have q0 := q _ (K0.Same.rfl')
          rw [ez] at q0
          exact q0
        · intro H2 s2 hD2
          refine ⟨D, (List.range (ks.map V.str).length).map fun i => (valV kvs (.inr (ks.getD i Str.empty))).isSome, rfl, ?_, ?_⟩
          · rw [List.map_map]
            exact SqL.of hD2
          · rw [List.length_map, strs_all ks (fun k => (valV kvs (.inr k)).isSome)]
            refine ⟨_, rfl, ?_⟩
            by_cases c2 : tkeys kvs ks = true
            · refine if_pos_of c2 ?_
              have hd2 := s2 _ _ (sm _ _ hd)
              refine ⟨dd, _, hd2, True.intro, fun od => ?_⟩
              refine ⟨_, rfl, dd, od, rfl, .inl ⟨kvs, upd_same, fun D2 hD2' => lc_pure (f := fun _ => .bl false) (walk_keys (d := dd) (o := od) (kvs := kvs)) (small1000 hkl) hD2' (fun H1 s1 => s1 _ _ upd_same) ?_ gName_mono ?_⟩⟩
              · rintro i x H3 H4 hi s3 ⟨rfl, k1, v1, hk1, rfl⟩
                obtain ⟨z, hz⟩ := hkk _ (List.mem_of_getElem? hk1)
                have hz' : k1 = Sum.inr z := hz
                subst hz'
                exact ⟨rfl, fun Q' q => ⟨_, rfl, V.str z, _, _, _, false, rfl, .ty _, .base (.str z), kit_ty (by show kitB "str" "bool" = some false; decide +kernel), q _ K0.Same.rfl'⟩⟩
              · intro H3 s3 hD3
                refine ⟨s3 _ _ upd_same, ?_⟩
                refine ⟨D2, (List.range kvs.length).map fun _ => false, rfl, ?_, ?_⟩
                · rw [List.map_map]
                  refine SqL.of ?_
                  have nd : D2 ≠ dd := fun z => by rw [z, upd_same] at hD2'; cases hD2'
                  rw [upd_ne nd]
                  exact hD3
                · have ef : ((List.range kvs.length).map fun _ => false).any id = false := by
                    rw [List.any_map]
                    exact List.any_eq_false.mpr fun _ _ => by simp
                  rw [ef]
                  refine ⟨_, rfl, ?_⟩
                  have k' := k0 (upd H3 dd (.dK kvs)) fun b o eb => ?_
                  · rw [er, c2] at k'
                    exact k'
                  · by_cases hb : b = dd
                    · rw [hb, upd_same, ← hd, ← hb]; exact eb.symm ▸ rfl
                    · rw [upd_ne hb]
                      exact s3 _ _ (by rw [upd_ne hb]; exact s2 _ _ (sm _ _ eb))
            · have c2' := Bool.eq_false_iff.mpr c2
              refine if_neg_of c2' ?_
              have k' := k0 H2 fun b o eb => s2 _ _ (sm _ _ eb)
              rw [er, c2'] at k'
              exact k'
      · have er : fromP ks kvs = false := by unfold fromP; rw [decide_eq_false c1]; rfl
        refine if_pos_of (by rw [decide_eq_false c1]; rfl) ?_
        have k' := k0 _ sm
        rw [er] at k'
        exact k'
    · have c' := Bool.eq_false_iff.mpr c
      refine if_pos_of (by rw [c']; rfl) ?_
      refine if_pos_of rfl ?_
      have k' := k H K0.Same.rfl'
      rw [onDct_no c'] at k'
      exact k'
end
end K0

/-! ## D1 -/
set_option maxRecDepth 100000
set_option maxHeartbeats 2000000
namespace K0
open PySem PySem.Spec PyProof.Rows L2
/-! ### defs that are entered where nothing is being shown -/
structure FnG (P : Program) (w : World) (K : PySem.W.Frag) (mg : Str → Option Value) (base : Heap) (CX : CXT) (k : Nat) (f : Addr) (fd : FuncData) (ps : List Str) (sp : Sp) : Prop where
  len : ∀ vs H Q E, sp vs H Q E → vs.length = ps.length
  run : ∀ (A : Around) (outer : List Env) (s : Shared) (H : Hp) (args : Args) (us : List Value) (vs : List V) (Q : VK) (E : XK), Room k A → A.guards = some [] → Env0 P w K mg base A outer s H → BindsTo s fd args (ps.zip us) → Vals vs us → sp vs H Q E →
    codeAny (model P w) A (.call (.ref f) args) (CR CX outer P w H s Q E) s
section
variable {P : Program} {w : World} {K : PySem.W.Frag} {mg : Str → Option Value} {base : Heap}
theorem FnG.of {CX : CXT} {k : Nat} {f : Addr} {fd : FuncData} {ps : List Str} {sp : Sp} (F : FnOk P w K mg base CX k f fd ps sp) : FnG P w K mg base CX k f fd ps sp :=
  ⟨F.len, fun A outer s H args us vs Q E hr _ => F.run A outer s H args us vs Q E hr⟩
/-- the def's body, where nothing is being shown -/
theorem gfn {x qual : Str} {st : Stmt} {f : Addr} {fd : FuncData} {N ps : List Str} {k : Nat} {sp : Sp} {CX : CXT} (F : Fun K x qual st f fd) (S : FnScope N ps (defScope st)) (len : ∀ vs H Q E, sp vs H Q E → vs.length = ps.length)
    (hbody : ∀ (cdv : Value) (A : Around) (outer : List Env) (s : Shared) (H : Hp) (vs : List V) (Q : VK) (E : XK), Room k (A.deeper (envOfC qual (defScope st) s.heap.objs.size f cdv)) → (A.deeper (envOfC qual (defScope st) s.heap.objs.size f cdv)).guards = some [] → sp vs H Q E →
      ∃ t, PSs (cxOf CX P w K mg base N qual (defScope st) f cdv A outer s H E) (defBody st) t ∧ t { nx := fun _ H' => Q .non H', rt := Q } (L2.start N vs) H) : FnG P w K mg base CX (k + 1) f fd ps sp := by
  obtain ⟨oc, od, kV, doc, pm, an, cdv, ct, osl, rfl, lk, hcd⟩ := F.ex
  refine ⟨len, fun A outer s H args us vs Q E hr hgd e0 hb r hsp => ?_⟩
  have hl := len _ _ _ _ hsp
  have KX : K.In s.heap := e0.mod.kin.keeps fun b o e => (e0.bs b o e).1
  have lim : s.heap.NoLimit := e0.mod.nolimit.keeps fun b o e => (e0.bs b o e).1
  have hkind : ∀ y ∈ ps.zip us, (defScope st).names.lookup y.1 = some .local ∨ ((defScope st).names.lookup y.1 = some .cell ∧ ((cellsFrom (s.heap.objs.size + 1) (defScope st).names []).lookup y.1).isSome = true) := fun ⟨n, v⟩ hy => by
    rcases S.par n (List.of_mem_zip hy).1 with q | q
    · exact .inl q
    · exact .inr ⟨q, PySem.W.cellsFrom_some _ _ _ (.inl q)⟩
  refine codeAny_call_function hr.depth (KX _ _ lk) rfl S.co S.gen rfl (PySem.W.codeRec_of KX hcd) (hb _ _ _ _ ?_)
  refine wpAny_newFunctionEnv_cells S.kind hkind fun env he s1 x => ?_
  subst he
  refine ⟨lim.keeps x.toInCall.keep, codeAny_func ?_⟩
  obtain ⟨t, ht, hq⟩ := hbody cdv A outer s H vs Q E (hr.deeper _) (by show A.guards = some []; exact hgd) hsp
  have I : Inv (cxOf CX P w K mg base N qual (defScope st) f cdv A outer s H E) [] (L2.start N vs) H s1 := inv_start S hr.hd e0 hl r x
  refine wpAny_mono (ht.run [] s1 (L2.start N vs) H _ I hq) (fun fl s' hs => ?_) fun e s' hs => hs
  have fin : ∀ {σ' : L2.St} {H' : Hp} {v : V} {u : Value}, Inv (cxOf CX P w K mg base N qual (defScope st) f cdv A outer s H E) [] σ' H' s' → RelV v u → Q v H' → CE outer P w H s Q u s' :=
    fun {σ' H' v u} J rv q => ⟨v, H', J.os, J.bare, J.base, J.hok, rv, q⟩
  cases fl with
  | ret u =>
    obtain ⟨v, σ', H', J, rv, q⟩ := hs
    exact fin J rv q
  | next =>
    obtain ⟨σ', H', J, q⟩ := hs
    exact fin (v := V.non) (u := Value.none) J rfl q
  | brk =>
    obtain ⟨_, _, _, q⟩ := hs
    exact False.elim q
  | cont =>
    obtain ⟨_, _, _, q⟩ := hs
    exact False.elim q
end
section
variable {X : Cx} {CX : CXT} {k : Nat} {f : Addr} {fd : FuncData} {ps : List Str} {sp : Sp} {dvs : List V} {ds : List Value} {E : XK} {x : Str} {p pos : Pos} {e : Expr} {es : List Expr} {t : TA}
theorem pe_callG (F : FnG X.prog X.w X.K X.mg X.base CX k f fd ps sp) (hr : Room k X.A) (hgd : X.A.guards = some []) (hg : Gl X x) (hm : X.mg x = some (.ref f)) (hk : PySem.W.keepIn X.K (.ref f) = true) (hb : Binds X.K fd ps ds) (hd : Vals dvs ds) (hx : Passes CX X E)
    (ha : PA X (e :: es) t) (hdb : (x == ("__debug__" : Str)) = false := by decide) (he : starEach (e :: es) X.env = (false, eval e X.env) :: starEach es X.env := by rfl) (hpl : (backTo pos (starEach es X.env)).any (·.1) = false := by rfl) :
    PE X (.Call (.Name x p) (e :: es) [] pos) (tCall sp dvs E t) := by
  refine ⟨fun pins s σ H Q I h => wpAny_Call_Name_kw (ld_glob I hg hm ?_ hdb)⟩
  refine PySem.W.callWith_K (h₀ := X.base) I.ok.mod.kin hk (thn (ha.run pos pins s σ H _ I h) fun us s1 ⟨vs, H1, I1, r, q⟩ => ⟨I1.kIn, ?_⟩) he hpl
  have r2 : Vals (vs ++ dvs) (us ++ ds) := r.append hd
  have hl : (us ++ ds).length = ps.length := by rw [← r2.length]; exact F.len _ _ _ _ q
  refine wpAny_call (codeAny_mono (F.run X.A X.stack s1 H1 ⟨us, []⟩ (us ++ ds) (vs ++ dvs) Q E hr hgd I1.env0 (hb s1 us I1.kIn hl) r2 q) fun r s' hq => ?_)
  cases r with
  | error e => exact hx pins σ H1 s1 e s' I1 hq
  | ok fl =>
    cases fl with
    | ret u => exact I1.after hq
    | next => exact False.elim hq
    | brk => exact False.elim hq
    | cont => exact False.elim hq
end
/-! ### repr of data -/
/-- data, or a dict without entries -/
inductive Dq (K : PySem.W.Frag) (H : Hp) : V → PyData → Prop
  | of {v : V} {d : PyData} : Dp K H v d → Dq K H v d
  | emp {a : Addr} : H a = some (.dK []) → Dq K H (.ref a) (.dict [])
theorem small_shown {d : PyData} (h : d.shown.length ≤ 1000) : d.shown.length ≤ sizeLine := Nat.le_of_lt (small1000 h)
mutual
theorem dp_nodict {K : PySem.W.Frag} {H : Hp} : ∀ (d : PyData) (v : V), Dp K H v d → d.hasDict = false
  | .none, _, _ => rfl
  | .bool _, _, _ => rfl
  | .int _, _, _ => rfl
  | .str _, _, _ => rfl
  | .list ds, _, h => by
    cases h with
    | lst _ ha => exact dp_nodicts ds _ ha
  | .tuple ds, _, h => by
    cases h with
    | tup _ ha => exact dp_nodicts ds _ ha
  | .dict _, _, h => by cases h
theorem dp_nodicts {K : PySem.W.Frag} {H : Hp} : ∀ (ds : List PyData) (vs : List V), DpAll K H vs ds → PyData.hasDictAll ds = false
  | [], _, _ => rfl
  | d :: ds, _, h => by
    cases h with
    | cons h1 h2 => simp only [PyData.hasDictAll, dp_nodict d _ h1, dp_nodicts ds _ h2, Bool.or_false]
end
def rRepr (K : PySem.W.Frag) : List V → Hp → VK → Prop := fun vs H Q => ∃ (x : V) (d : PyData), vs = [x] ∧ Dq K H x d ∧ d.showable = true ∧ d.depth ≤ 20 ∧ d.shown.length ≤ 1000 ∧ Q (.str d.shown) H
section
variable {X : Cx}
theorem cr_repr (hgd : X.A.guards = some []) (hu : X.A.units + 64 < cLine) : CallR X (.builtin "repr") (rRepr X.K) := by
  intro pins s σ H vs us Q I r h
  obtain ⟨x, d, rfl, hd, hs, hdp, hl, q⟩ := h
  obtain ⟨u, rfl, rx⟩ := vals1 r
  have fin : ∀ h' (t : Tok) tk, (∀ b o, s.heap.get? b = some o → h'.get? b = some o) → EP X pins σ Q (.str d.shown t) { s with heap := h', toks := tk } := fun h' t tk k => ⟨.str d.shown, H, I.kept k, ⟨t, rfl⟩, q⟩
  cases x with
  | non =>
    cases rx
    have e : d = .none := by
      cases hd with
      | of h => cases h; rfl
    subst e
    exact PySem.P.repr_of_none (fin s.heap _ _ fun _ _ e => e)
  | bl b =>
    cases rx
    have e : d = .bool b := by
      cases hd with
      | of h => cases h; rfl
    subst e
    exact PySem.P.repr_of_bool (by
      have z := fin s.heap s.toks (s.toks + 1) fun _ _ e => e
      cases b <;> exact z)
  | int i =>
    obtain ⟨t, rfl⟩ := rx
    have e : d = .int i := by
      cases hd with
      | of h => cases h; rfl
    subst e
    exact PySem.P.repr_of_int (of_decide_eq_true hs) (fin s.heap _ _ fun _ _ e => e)
  | str z =>
    obtain ⟨t, rfl⟩ := rx
    have e : d = .str z := by
      cases hd with
      | of h => cases h; rfl
    subst e
    exact PySem.P.repr_of_str (fin s.heap _ _ fun _ _ e => e) (small_shown hl)
  | ref a =>
    cases rx
    cases hd with
    | of h =>
      obtain ⟨as, rr⟩ := Dp.reads I d (.ref a) (.ref a) h rfl
      exact repr_of_reads' rr hs (PyData.noDict_hsm (dp_nodict d _ h)) hgd (by omega) (fun _ _ e => e) (fun h' t tk k => fin h' t tk k) (small_shown hl)
    | emp h =>
      obtain ⟨_, lo, vs, kv, o, es, ep, ho, ex, hdd, hes, hnd⟩ := I.hok a _ h
      have e1 : vs = [] := by
        cases kv
        rfl
      have lo' : a ≠ sysModules := by simpa using lo
      subst e1
      obtain ⟨pr, _⟩ := hnd
      have e2 : es.toList = [] := by
        cases h5 : es.toList with
        | nil => rfl
        | cons a b => rw [h5] at pr; cases pr
      have rr : Reads s.heap (.ref a) (.dict []) (a :: [] ++ []) := Reads.dict ho ex.1 hdd (by rw [e2]; exact ReadsAll.nil) (by rw [e2]; exact ReadsAll.nil)
      exact repr_of_reads' rr hs (fun _ z => lo' (by have z' : sysModules ∈ [a] := z; exact (List.mem_singleton.mp z').symm)) hgd (by omega) (fun _ _ e => e) (fun h' t tk k => fin h' t tk k) (small_shown hl)
  | byt _ => cases hd with | of h => cases h
  | flt _ => cases hd with | of h => cases h
  | ty _ => cases hd with | of h => cases h
end
end K0

/-! ## A9 -/
set_option maxRecDepth 100000
set_option maxHeartbeats 2000000
namespace K0
open PySem L2
/-- a comprehension that sieves, leaving all that is tracked -/
theorem lc_sieve {J : It} {n : Nat} {G : Hp → Prop} {Y : Nat → Hp → V → Hp → Prop} (w : Walk J n G Y) {g : TG} {tt : TT} {te : TE} {vs : List Nat} {σ : St} {H1 : Hp} {D : Addr} {Qd : Hp → Prop} (f : Nat → V) (keep : Nat → Bool)
    (hn : n < sizeLine) (hD : H1 D = none) (hG : ∀ H, Same H1 H → G H)
    (hs : ∀ i x H H', i < n → Same H1 H → Y i H x H' → g x (wipe σ vs) H' fun σ2 H2 => wipe σ2 vs = wipe σ vs ∧ (∀ R : Bool → Hp → Prop, (∀ H3, Same H H3 → R (keep i) H3) → tt σ2 H2 R) ∧ (∀ H3 (Q : V → Hp → Prop), Same H H3 → (∀ H4, Same H3 H4 → Q (f i) H4) → te σ2 H3 Q))
    (gm : ∀ x σ H (P R : St → Hp → Prop), (∀ σ2 H2, P σ2 H2 → R σ2 H2) → g x σ H P → g x σ H R)
    (hd : ∀ H, Same H1 H → H D = some (.lst (((List.range n).filter keep).map f)) → Qd H) :
    ∃ W : Nat → Nat → Hp → Prop, (∃ m, W 0 m (upd H1 D (.lst []))) ∧ ∀ i m H, W i m H →
      (J.stop i H ∧ Qd H) ∨ (J.go i H ∧ ∃ Nx : Hp → Prop, (∀ H', Nx H' → ∃ m', m' < m ∧ W (i + 1) m' H') ∧ ∀ x H', J.yld i H x H' → g x (wipe σ vs) H' fun σ2 H2 => wipe σ2 vs = wipe σ vs ∧ tt σ2 H2 fun b H3 =>
        if b = true then te σ2 H3 fun y H4 => ∃ acc, H4 D = some (.lst acc) ∧ acc.length < sizeLine ∧ Nx (upd H4 D (.lst (acc ++ [y]))) else Nx H3) := by
  refine lc_it w (fun i H => Same H1 H ∧ H D = some (.lst (((List.range i).filter keep).map f))) ⟨K0.Same.new _ hD, upd_same⟩ (fun i H _ p => hG H p.1) (fun i x H H' hi p y => ?_) (fun H p => hd H p.1 p.2)
  refine gm _ _ _ _ _ (fun σ2 H2 q => ⟨q.1, ?_⟩) (hs i x H H' hi p.1 y)
  obtain ⟨_, q2, q3⟩ := q
  refine q2 _ fun H3 s3 => ?_
  have e : ((List.range (i + 1)).filter keep).map f = ((List.range i).filter keep).map f ++ (if keep i = true then [f i] else []) := by
    rw [List.range_succ, List.filter_append, List.map_append]
    by_cases c : keep i = true
    · simp [List.filter, c]
    · simp [List.filter, Bool.eq_false_iff.mpr c]
  by_cases c : keep i = true
  · rw [if_pos c] at e ⊢
    refine q3 H3 _ s3 fun H4 s4 => ⟨_, s4 _ _ (s3 _ _ p.2), ?_, ?_, ?_⟩
    · rw [List.length_map]
      exact Nat.lt_of_le_of_lt (List.length_filter_le _ _) (by rw [List.length_range]; exact Nat.lt_trans hi hn)
    · exact fun b o eb => by rw [upd_ne (ne_of_none eb hD)]; exact s4 _ _ (s3 _ _ (p.1 _ _ eb))
    · rw [upd_same, e]
  · rw [if_neg c] at e ⊢
    rw [List.append_nil] at e
    exact ⟨K0.Same.tr p.1 s3, by rw [e]; exact s3 _ _ p.2⟩
def alpha : Str := "abcdefghijklmnopqrstuvwxyz"
theorem alpha_mem (c : Nat) : decide (c ∈ alpha.cps.toList) = lowC c := by
  have e : alpha.cps.toList = (List.range 26).map (· + 97) := by decide
  rw [e]
  unfold lowC
  by_cases h : 97 ≤ c ∧ c ≤ 122
  · rw [decide_eq_true h.1, decide_eq_true h.2]
    refine decide_eq_true (List.mem_map.mpr ⟨c - 97, List.mem_range.mpr (by omega), by omega⟩)
  · have h2 : (decide (97 ≤ c) && decide (c ≤ 122)) = false := by
      by_cases h3 : 97 ≤ c
      · rw [decide_eq_false (show ¬ c ≤ 122 from fun z => h ⟨h3, z⟩), Bool.and_false]
      · rw [decide_eq_false h3, Bool.false_and]
    rw [h2]
    refine decide_eq_false fun z => ?_
    obtain ⟨j, hj, e2⟩ := List.mem_map.mp z
    have := List.mem_range.mp hj
    exact h ⟨by omega, by omega⟩
theorem filter_none {n : Nat} {keep : Nat → Bool} {p : Nat → Bool} (h : ∀ i, i < n → keep i = !p i) : (List.range n).filter keep = [] ↔ ((List.range n).map p).all id = true := by
  rw [List.filter_eq_nil_iff, List.all_map, List.all_eq_true]
  refine forall_congr' fun i => ?_
  constructor
  · intro z hi
    have := z hi
    rw [h i (List.mem_range.mp hi)] at this
    show p i = true
    cases q : p i with
    | true => rfl
    | false => rw [q] at this; exact absurd rfl this
  · intro z hi
    have q : p i = true := z hi
    rw [h i (List.mem_range.mp hi), q]
    decide
/-- a list of data beside the empty list -/
theorem eqv_nil (ds : List PyData) : PyData.eqv (.list ds) (.list []) = ds.isEmpty := by
  cases ds with
  | nil => rfl
  | cons d r => rfl
theorem dpAll_strs {K : PySem.W.Frag} {H : Hp} : ∀ (zs : List Str), DpAll K H (zs.map V.str) (zs.map PyData.str)
  | [] => .nil
  | z :: r => .cons (.str z) (dpAll_strs r)
theorem lay_strs : ∀ (zs : List Str), (∀ z ∈ zs, okS z) → PyData.canLayAll0 (zs.map PyData.str) = true ∧ PyData.depthAll (zs.map PyData.str) = 0
  | [], _ => ⟨rfl, rfl⟩
  | z :: r, h => by
    obtain ⟨h1, h2⟩ := lay_strs r fun y hy => h y (List.mem_cons_of_mem _ hy)
    have hz : PyData.strOk z = true := by
      unfold PyData.strOk
      rw [Array.all_eq_true']
      intro c hc
      exact decide_eq_true (h z List.mem_cons_self c (by simpa using hc))
    constructor
    · show (PyData.canLay0 (.str z) && PyData.canLayAll0 (r.map PyData.str)) = true
      rw [h1, Bool.and_true]
      exact hz
    · show max (PyData.depth (.str z)) (PyData.depthAll (r.map PyData.str)) = 0
      rw [h2]
      rfl
theorem shaped_strs {zs : List Str} (h : ∀ z ∈ zs, okS z) : PySem.SeqAt.shaped (.list (zs.map PyData.str)) = true := by
  obtain ⟨h1, h2⟩ := lay_strs zs h
  show (PyData.canLayAll0 (zs.map PyData.str) && decide (PyData.depthAll (zs.map PyData.str) + 1 ≤ 64)) = true
  rw [h1, h2]
  rfl
def spIsWord : Sp := fun vs H Q _ => ∃ z, vs = [.str z] ∧ z.length ≤ 1000 ∧ okS z ∧ ∀ H', Same H H' → Q (.bl (nameS z)) H'
structure T5 (K : PySem.W.Frag) (mg : Str → Option Value) : Prop where
  isi : mg "isinstance" = none
  len : mg "len" = none
  str : mg "str" = none
section
variable {P : Program} {w : World} {K : PySem.W.Frag} {mg : Str → Option Value} {base : Heap}
theorem scIsWord : FnScope ["_law_value", "_law_sign"] ["_law_value"] (defScope sIsWord) := ⟨rfl, rfl, rfl, by decide +kernel, rfl, by decide +kernel, by decide +kernel⟩
theorem ok_isWord {f : Addr} {fd : FuncData} (F : Fun K "_law_is_word" "_law_is_word" sIsWord f fd) (T : T5 K mg) : FnOk P w K mg base CX0 1 f fd ["_law_value"] spIsWord := by
  refine F.ok scIsWord (fun vs H Q E h => ?_) (fun cdv A outer s H vs Q E hr h => ?_)
  · obtain ⟨v, rfl, _⟩ := h
    rfl
  · obtain ⟨z, rfl, hz, ok, k⟩ := h
    refine ⟨_, pss_cons (ps_if (pw_or (pt_not (pt_val (pe_callB call_isi (by rfl) T.isi (by decide +kernel) (pa_cons (pv 0) (pa_cons (pe_bltn (v := .ty "str") (by rfl) T.str (by decide +kernel) rfl) pa_nil)))))
        (pw_or1 (pt_not (pt_chain op_le op_le pe_int (pe_callB call_len_str (by rfl) T.len PySem.boot_len (pa_cons (pv 0) pa_nil)) pe_int)))).pt
        (pss_one (ps_ret pe_bl)) pss_nil)
      (pss_one (ps_ret (pe_cmpR (op_eqD hr.units) (pe_lc (own := [("_law_sign", 1)]) (g := gName 1) (by rfl) scIsWord.nd (pi_str (pv 0))
        (blkOk_by (own := [("_law_sign", 1)]) (N := ["_law_value", "_law_sign"]) (sc := defScope sIsWord) (by decide +kernel)) (fun _ _ _ _ _ => pg_name (i := 1) scIsWord.nd rfl (Or.inl rfl)) (fun _ _ _ _ _ => pts_one (pt_cmpR op_notIn_sign (pv 1) pe_str rfl))
        (fun _ _ _ _ _ => pv 1)) (pe_lst pa_nil) (nomark _)))), ?_⟩
    refine ⟨_, rfl, _, _, _, _, true, rfl, .ty _, .base (.str z), kit_ty (by show kitB "str" "str" = some true; decide +kernel), true, rfl, ?_⟩
    refine if_neg_of rfl ⟨_, rfl, z, rfl, Nat.le_of_lt (small1000 hz), _, _, rfl, rfl, _, rfl, ?_⟩
    have en : nameS z = ((decide (1 ≤ z.length) && decide (z.length ≤ 8)) && z.cps.toList.all lowC) := rfl
    by_cases c1 : (1 : Int) ≤ z.length
    · have c1' : decide (1 ≤ z.length) = true := decide_eq_true (by omega)
      refine if_pos_of (decide_eq_true c1) ⟨_, _, rfl, rfl, _, rfl, ?_⟩
      by_cases c2 : (z.length : Int) ≤ 8
      · have c2' : decide (z.length ≤ 8) = true := decide_eq_true (by omega)
        rw [decide_eq_true c2]
        refine if_neg_of rfl ⟨_, rfl, _, rfl, fun D hD => lc_sieve (f := fun i => .str ⟨#[z.cps.getD i 0]⟩) (keep := fun i => !lowC (z.cps.getD i 0)) walk_str (small1000 hz) hD (fun _ _ => True.intro) ?_ gName_mono ?_⟩
        · rintro i x H2 H3 hi s2 ⟨rfl, c, hc, rfl⟩
          have ec : z.cps.getD i 0 = c := by simp [hc]
          refine ⟨rfl, fun R q => ?_, fun H4 Q' s4 q => ⟨_, rfl, ?_⟩⟩
          · refine ⟨_, rfl, c, alpha, rfl, rfl, _, rfl, ?_⟩
            have q0 := q _ (K0.Same.rfl')
            rw [ec, ← alpha_mem] at q0
            exact q0
          · have q0 := q _ (K0.Same.rfl')
            rw [ec] at q0
            exact q0
        · intro H2 s2 hD2
          refine ⟨Nat.zero_le _, fun q hq => ?_⟩
          have ndq : D ≠ q := ne_of_none hD2 hq
          refine ⟨.list ((((List.range z.cps.size).filter fun i => !lowC (z.cps.getD i 0)).map fun i => (⟨#[z.cps.getD i 0]⟩ : Str)).map PyData.str), .list [], .lst (SqL.of (by rw [upd_ne ndq]; exact hD2)) ?_, .lst (SqL.of upd_same) .nil, shaped_strs ?_, rfl, ?_⟩
          · have e6 : (((List.range z.cps.size).filter fun i => !lowC (z.cps.getD i 0)).map fun i => V.str ⟨#[z.cps.getD i 0]⟩) = ((((List.range z.cps.size).filter fun i => !lowC (z.cps.getD i 0)).map fun i => (⟨#[z.cps.getD i 0]⟩ : Str)).map V.str) := by rw [List.map_map]; rfl
            rw [e6]
            exact dpAll_strs _
          · intro y hy d hd
            obtain ⟨i, hi, rfl⟩ := List.mem_map.mp hy
            have hi' := List.mem_range.mp (List.mem_filter.mp hi).1
            have hd' : d ∈ [z.cps.getD i 0] := hd
            rw [List.mem_singleton.mp hd']
            refine ok _ ?_
            have e7 : z.cps.getD i 0 = z.cps[i] := by simp [hi']
            rw [e7]
            exact Array.getElem_mem_toList hi'
          · rw [eqv_nil, List.isEmpty_map, List.isEmpty_map]
            have k' := k (upd H2 q (.lst [])) (K0.Same.tr s2 (K0.Same.new _ hq))
            rw [en, c1', c2'] at k'
            have e5 : ((List.range z.cps.size).filter fun i => !lowC (z.cps.getD i 0)).isEmpty = z.cps.toList.all lowC := by
              rw [← all_range z lowC]
              have fn := filter_none (n := z.cps.size) (keep := fun i => !lowC (z.cps.getD i 0)) (p := fun i => lowC (z.cps.getD i 0)) fun _ _ => rfl
              cases h5 : ((List.range z.cps.size).map fun i => lowC (z.cps.getD i 0)).all id with
              | true => rw [fn.mpr h5]; rfl
              | false =>
                cases h6 : (List.range z.cps.size).filter fun i => !lowC (z.cps.getD i 0) with
                | nil => rw [fn.mp h6] at h5; cases h5
                | cons a b => rfl
            rw [e5]
            exact k'
      · rw [decide_eq_false c2]
        refine if_pos_of rfl ?_
        have k' := k H K0.Same.rfl'
        have c2' : decide (z.length ≤ 8) = false := decide_eq_false (by omega)
        rw [en, c2', Bool.and_false] at k'
        exact k'
    · have c1' : decide (1 ≤ z.length) = false := decide_eq_false (by omega)
      refine if_neg_of (decide_eq_false c1) ⟨_, rfl, ?_⟩
      refine if_pos_of rfl ?_
      have k' := k H K0.Same.rfl'
      rw [en, c1'] at k'
      exact k'
end
end K0

/-! ## A11 -/
set_option maxRecDepth 100000
set_option maxHeartbeats 2000000
namespace K0
open PySem L2
abbrev sNaming : Stmt := top 43
/-- an own class of errors, over one of Python's -/
structure XC (K : PySem.W.Frag) (mg : Str → Option Value) (x : Str) (C : Addr) : Prop where
  gC : mg x = some (.ref C)
  kC : PySem.W.keepIn K (.ref C) = true
  sB : PySem.W.subIn K (.ref C) (.type "BaseException") = some true
  tC : PySem.W.typeIn K (.ref C) = some (.type "type")
abbrev veM : List Value := [.type "ValueError", .type "Exception", .type "BaseException", .type "object"]
structure XV (K : PySem.W.Frag) (mg : Str → Option Value) (x : Str) (C : Addr) : Prop extends XC K mg x C where
  xC : PySem.W.excIn K C veM "ValueError.__new__" = true
/-- a dict's values are short texts -/
def Dv (H : Hp) (v : V) : Prop := ∀ a kvs, v = .ref a → H a = some (.dK kvs) → ∀ p ∈ kvs, ∃ z, p.2 = .str z ∧ z.length ≤ 1000
def vals (kvs : List (Key × V)) : List V := kvs.map (·.2)
def strV : V → Str
  | .str z => z
  | _ => Str.empty
def nmP (ks : List Str) (kvs : List (Key × V)) : Bool := fromP ks kvs && ((kvs.map fun p => strV p.2).all nameS && decide (kvs.map fun p => strV p.2).Nodup)
def ksOf (H : Hp) : V → List Str
  | .ref a => match H a with
    | some (.tup xs) => xs.map strV
    | _ => []
  | _ => []
def spNaming (C : Addr) : Sp := fun vs H Q E => ∃ (v0 v : V), vs = [v0, v] ∧ Da H v0 ∧ Tu H v0 ∧ Da H v ∧ Dk H v ∧ Dv H v ∧
  (onTup H (fun xs => xs.all nameV) v0 = true → ∀ H', Same H H' → Q (.bl (onDct H (nmP (ksOf H v0)) v)) H') ∧ (onTup H (fun xs => xs.all nameV) v0 = false → ∀ H', Same H H' → E (.ref C) none H')
structure TN (K : PySem.W.Frag) (mg : Str → Option Value) (fAn fDf fDi CI : Addr) : Prop where
  tup : mg "tuple" = none
  gAn : mg "are_names" = some (.ref fAn)
  kAn : PySem.W.keepIn K (.ref fAn) = true
  gDf : mg "is_dict_from" = some (.ref fDf)
  kDf : PySem.W.keepIn K (.ref fDf) = true
  gDi : mg "are_different" = some (.ref fDi)
  kDi : PySem.W.keepIn K (.ref fDi) = true
  io : XV K mg "InvalidOperation" CI
theorem same_at {H H1 : Hp} {b : Addr} {o : HO} (d : Da H (.ref b)) (s : Same H H1) (e : H1 b = some o) : H b = some o := by
  cases d with
  | lst h => rw [← e, s _ _ h, h]
  | tup h => rw [← e, s _ _ h, h]
  | dK h => rw [← e, s _ _ h, h]
theorem onDct_same {H H1 : Hp} {v : V} {p : List (Key × V) → Bool} (d : Da H v) (s : Same H H1) : onDct H1 p v = onDct H p v := by
  cases d with
  | non => rfl
  | bl b => rfl
  | int b => rfl
  | str b => rfl
  | lst h => simp only [onDct, h, s _ _ h]
  | tup h => simp only [onDct, h, s _ _ h]
  | dK h => simp only [onDct, h, s _ _ h]
theorem onDct_and {H : Hp} {v : V} {ks : List Str} (c : onDct H (fromP ks) v = false) : onDct H (nmP ks) v = false := by
  cases v with
  | ref a =>
    simp only [onDct] at c ⊢
    cases e : H a with
    | none => rfl
    | some o =>
      cases o <;> first | rfl | (simp only [e] at c; simp only [nmP, c, Bool.false_and])
  | _ => rfl
theorem names_strs : ∀ (xs : List V), xs.all nameV = true → xs = (xs.map strV).map V.str
  | [], _ => rfl
  | x :: r, h => by
    rw [List.all_cons, Bool.and_eq_true] at h
    cases x with
    | str z =>
      rw [List.map_cons, List.map_cons, ← names_strs r h.2]
      rfl
    | _ => cases h.1
section
variable {P : Program} {w : World} {K : PySem.W.Frag} {mg : Str → Option Value} {base : Heap} {fAn fDf fDi CI : Addr} {fdAn fdDf fdDi : FuncData}
theorem scNaming : FnScope ["names", "value", "given"] ["names", "value"] (defScope sNaming) := ⟨rfl, rfl, rfl, by decide +kernel, rfl, by decide +kernel, by decide +kernel⟩
theorem ok_naming {f : Addr} {fd : FuncData} (F : Fun K "is_naming" "is_naming" sNaming f fd) (T : TN K mg fAn fDf fDi CI)
    (GA : FnOk P w K mg base CX0 2 fAn fdAn ["value"] spAreNam) (bA : Binds K fdAn ["value"] []) (GF : FnOk P w K mg base CX0 1 fDf fdDf ["keys", "value"] (spDFrom K)) (bF : Binds K fdDf ["keys", "value"] [])
    (GD : FnOk P w K mg base CX0 1 fDi fdDi ["values"] (spDiff K)) (bD : Binds K fdDi ["values"] []) : FnOk P w K mg base (L2.CX P w) 3 f fd ["names", "value"] (spNaming CI) := by
  refine F.okX scNaming (fun vs H Q E h => ?_) (fun cdv A outer s H vs Q E hr h => ?_)
  · obtain ⟨v0, v, rfl, _⟩ := h
    rfl
  · obtain ⟨v0, v, rfl, d0, t0, d, dk, dv, k1, k2⟩ := h
    have hr1 : Room 1 _ := hr.mono (by decide)
    refine ⟨_, pss_cons (ps_if (pt_not (pt_val (pe_call GA hr (by rfl) T.gAn T.kAn bA .nil pass0 (pa_cons (pv 0) pa_nil)))) (pss_one (ps_raise rfl (takes_of rfl rfl rfl rfl) (pmk_own PySem.F.excBase_ValueError T.io.xC T.io.gC T.io.kC (raises_own T.io.sB T.io.tC) rfl))) pss_nil)
      (pss_cons (ps_if (pt_not (pt_val (pe_call GF hr1 (by rfl) T.gDf T.kDf bF .nil pass0 (pa_cons (pv 0) (pa_cons (pv 1) pa_nil))))) (pss_one (ps_ret pe_bl)) pss_nil)
      (pss_cons (ps_set (i := 2) scNaming.nd rfl (Or.inl rfl) (pe_callTy (call_tupleVals rfl) (by rfl) T.tup (by decide +kernel) (pa_cons (pe_bm0 PySem.F.plainAttrs_dict PySem.F.slot_dict_values PySem.F.type_dict_values mt_dvals (pv 1)) pa_nil)))
      (pss_one (ps_ret (pe_and (pe_call GA hr (by rfl) T.gAn T.kAn bA .nil pass0 (pa_cons (pv 2) pa_nil)) (pe_one (pe_call GD hr1 (by rfl) T.gDi T.kDi bD .nil pass0 (pa_cons (pv 2) pa_nil)))))))), ?_⟩
    refine ⟨_, rfl, v0, rfl, d0, t0, fun H1 s1 => ⟨_, rfl, ?_⟩⟩
    cases c0 : onTup H (fun xs => xs.all nameV) v0 with
    | false => exact if_pos_of rfl (k2 c0 H1 s1)
    | true =>
      have k1 := k1 c0
      obtain ⟨a, xs, rfl, ha, hall⟩ : ∃ a xs, v0 = .ref a ∧ H a = some (.tup xs) ∧ xs.all nameV = true := by
        have ct : isTupV H v0 = true := by
          cases q : isTupV H v0 with
          | true => rfl
          | false => rw [onTup_no q] at c0; cases c0
        obtain ⟨a, xs, rfl, ha⟩ := isTup_at ct
        simp only [onTup, ha] at c0
        exact ⟨a, xs, rfl, ha, c0⟩
      have ek : ksOf H (.ref a) = xs.map strV := by simp only [ksOf, ha]
      rw [ek] at k1
      have exs := names_strs xs hall
      have hl := (t0 a xs rfl ha).1
      generalize hks : xs.map strV = ks at k1 exs ek
      subst exs
      rw [List.length_map] at hl
      refine if_neg_of rfl ⟨_, rfl, _, rfl, a, ks, v, rfl, SqT.of (s1 _ _ ha), hl, d.same s1, fun b kvs e1 e2 => ?_, fun H2 s2 => ⟨_, rfl, ?_⟩⟩
      · subst e1
        exact dk b kvs rfl (same_at d s1 e2)
      · rw [onDct_same d s1]
        cases c1 : onDct H (fromP ks) v with
        | false =>
          refine if_pos_of rfl ?_
          have k' := k1 H2 (K0.Same.tr s1 s2)
          rw [onDct_and c1] at k'
          exact k'
        | true =>
          obtain ⟨dd, kvs, rfl, hd⟩ : ∃ dd kvs, v = .ref dd ∧ H dd = some (.dK kvs) := by
            cases q : isDctV H v with
            | true => exact isDct_at q
            | false => rw [onDct_no q] at c1; cases c1
          have c1' : fromP ks kvs = true := by simpa only [onDct, hd] using c1
          have k3 : ∀ H', Same H H' → Q (.bl (((kvs.map fun p => strV p.2).all nameS) && decide (kvs.map fun p => strV p.2).Nodup)) H' := fun H' s' => by
            have k' := k1 H' s'
            simp only [onDct, hd, nmP, c1', Bool.true_and] at k'
            exact k'
          have hkl := (dk dd kvs rfl hd).1
          have ev : kvs.map (·.2) = (kvs.map fun p => strV p.2).map V.str := by
            rw [List.map_map]
            refine List.map_congr_left fun q hq => ?_
            obtain ⟨z, hz, _⟩ := dv dd kvs rfl hd q hq
            show q.2 = V.str (strV q.2)
            rw [hz]
            rfl
          have hd2 := s2 _ _ (s1 _ _ hd)
          refine if_neg_of rfl ⟨_, rfl, .inr (.inr (.inl ⟨rfl, .inl ⟨kvs, hd2⟩⟩)), dd, kvs, rfl, rfl, hd2, fun p hp => ⟨p, dd, kvs, rfl, upd_same, ?_, fun t ht => ?_⟩⟩
          · rw [upd_ne (ne_of_none hd2 hp)]
            exact hd2
          · have s3 : Same H (upd (upd H2 p (ValO p dd)) t (.tup (kvs.map (·.2)))) := K0.Same.tr (K0.Same.tr (K0.Same.tr s1 s2) (K0.Same.new _ hp)) (K0.Same.new _ ht)
            rw [ev] at s3 ⊢
            refine ⟨_, rfl, _, rfl, .tup upd_same, fun b xs e1 e2 => ?_, fun H3 s4 => ⟨_, rfl, ?_⟩⟩
            · cases e1
              rw [upd_same] at e2
              cases e2
              refine ⟨by rw [List.length_map, List.length_map]; exact hkl, fun x hx => ?_⟩
              obtain ⟨z, hz, rfl⟩ := List.mem_map.mp hx
              obtain ⟨q, hq, rfl⟩ := List.mem_map.mp hz
              obtain ⟨z, e3, e4⟩ := dv dd kvs rfl hd q hq
              refine ⟨.str _, ?_⟩
              show (strV q.2).length ≤ 1000
              rw [e3]
              exact e4
            · have e5 : onTup (upd (upd H2 p (ValO p dd)) t (.tup ((kvs.map fun p => strV p.2).map V.str))) (fun xs => xs.all nameV) (.ref t) = (kvs.map fun p => strV p.2).all nameS := by
                simp only [onTup, upd_same]
                rw [List.all_map]
                rfl
              rw [e5]
              cases c2 : (kvs.map fun p => strV p.2).all nameS with
              | false =>
                refine if_neg_of rfl ?_
                have k' := k3 H3 (K0.Same.tr s3 s4)
                rw [c2] at k'
                exact k'
              | true =>
                refine if_pos_of rfl ⟨_, rfl, t, _, rfl, .inl (SqT.of (s4 _ _ upd_same)), by rw [List.length_map]; exact hkl, fun H4 s5 => ?_⟩
                have k' := k3 H4 (K0.Same.tr (K0.Same.tr s3 s4) s5)
                rw [c2] at k'
                exact k'
end
end K0

/-! ## C1 -/
set_option maxRecDepth 100000
set_option maxHeartbeats 2000000
namespace PySem
namespace KeepX
open PySem.W PySem.Calls PyProof.Rows PySem.HandSPX Builtin Builtin.ObjectAttr
section
variable {prog : Program} {w : World} {A : Around} {E : Value → Shared → Prop} {R : Result → Shared → Prop} {hp : Heap} {g : Array GenState} {d : Drawn} {t : Nat} {os : OsState}
/-- self.name = v on a new exception over any base -/
theorem osa2 {K : W.Frag} {name : Str} {tk : Tok} {v : Value} {x C : Addr} {fv : Array Value} {B : String} {bmB : List Value} (SF : StoreFacts B bmB "object.__setattr__" "object")
    (X : K.In hp) (hx : hp.get? x = some { cls := .ref C, data := .fields fv }) (hov : excOver K C bmB = true) (hhd : hasDictIn K C = true) (ha : W.findIn K (.ref C) name = some none)
    (hq : ∀ h' tk' dx, (∀ b o, b ≠ x → hp.get? b = some o → h'.get? b = some o) → hp.objs.size ≤ dx → dx ≠ x → h'.get? x = some { cls := .ref C, dict := some dx, data := .fields fv } →
      h'.Ns1 dx (fun y => if y = name then some v else none) → R (.ok (.ret .none)) ⟨h', g, d, tk', os⟩) :
    codeAny (model prog w) A (.call (.builtin "object.__setattr__") ⟨[.ref x, .str name tk, v], []⟩) R ⟨hp, g, d, t, os⟩ := by
  have I : W.InstAt hp x { cls := .ref C, data := .fields fv } C none := ⟨hx, rfl, rfl, trivial⟩
  obtain ⟨cd, hcd, ho⟩ := any_some hov
  obtain ⟨cd2, hcd2, hh⟩ := any_some hhd
  have ecd : cd2 = cd := Option.some.inj (hcd2.symm.trans hcd)
  subst ecd
  try dsimp only at ho
  obtain ⟨bm, hmr0, ht'⟩ : ∃ bm, cd2.mro = .ref C :: bm ∧ excTail bmB bm = true := by
    split at ho
    · rename_i C' bm hm
      rw [Bool.and_eq_true, beq_iff_eq] at ho
      obtain ⟨rfl, ho⟩ := ho
      exact ⟨bm, hm, ho⟩
    · cases ho
  have ne : cd2.mro.isEmpty = false := by rw [hmr0]; rfl
  have hob : cd2.mro.contains (.type "object") = true := by rw [hmr0, List.contains_cons, excTail_contains "object" _ ht', SF.hasOwner, Bool.or_true]
  have hxs : x ≠ hp.objs.size := Nat.ne_of_lt (Heap.lt_size hx)
  have sub : W.Looks (model prog w) hp (isInstance (.ref x) (.type "object")) true := I.type.andThen (W.looks_mroIn X (by unfold W.mroIn; rw [hcd, Option.bind_some, if_neg (by rw [ne]; decide), hob]))
  refine codeAny_call_builtin SF.slot.plain SF.entry (@W.check_slot (model prog w) _ _ ⟨hp, g, d, t, os⟩ "object.__setattr__" "object" "__setattr__" (.ref x) [.str name tk, v] [] _ SF.kind SF.split sub (SF.args (.ref x) (.str name tk) v) ?_)
  have hmr : W.Looks (model prog w) hp (mroOf (.ref C)) cd2.mro := (W.looks_clsIn X hcd).andThen .now
  have L3 : W.Looks (model prog w) hp (storeTaker? none) none := .now
  have hcls : W.Looks (model prog w) hp (classData C) cd2 := W.looks_clsIn X hcd
  rw [W.osa_eq, refuse_eq]
  refine wpAny_bind (wpAny_bind (I.type.at (wpAny_bind (hmr.at ?_))))
  rw [hmr0, refuseLoop_ref, excTail_pass _ (SF.passes _) _ ht']
  refine wpAny_pure (wpAny_bind (I.type.at (wpAny_bind ((W.looks_findIn X ha).at (wpAny_bind (L3.at ?_))))))
  show wpAny _ _ (storeInOwnDict (.ref x) (.ref C) (.str name tk) name v false) _ _ _
  clear hmr0 ho hov hhd hcd2
  obtain ⟨nm, bs, mro, ns, qn, hd, sn, sb, ab, col, del⟩ := cd2
  dsimp only at hh
  subst hh
  unfold storeInOwnDict ownDictForStores
  repeat (first | with_reducible refine store_in_new ?_ ?_ | with_reducible refine wpAny_loadPart_at hx ?_ | with_reducible refine hcls.at ?_ | wp_step)
  · exact ⟨_, #[], _, (Heap.get?_update_ne _ _ _ _ hxs.symm).trans (Heap.get?_push_at rfl rfl), rfl, fun e he => absurd he (by simp), fun _ => rfl⟩
  · intro h' tk' hn' hs
    have hx₁ : (hp.push { cls := .type "dict", data := .dict #[] }).get? x = some { cls := .ref C, data := .fields fv } := Heap.get?_push_of_some _ hx
    refine hq h' tk' hp.objs.size (fun b o hb ho => ?_) (Nat.le_refl _) hxs.symm ?_ hn'
    · exact (hs.2 b (Nat.ne_of_lt (Heap.lt_size ho))).trans ((Heap.get?_update_ne _ _ _ _ hb).trans (Heap.get?_push_of_some _ ho))
    · exact (hs.2 x hxs).trans (Heap.get?_update_self _ hx₁ rfl)
end
end KeepX
end PySem

/-! ## C2 -/
set_option maxRecDepth 100000
set_option maxHeartbeats 2000000
namespace PySem
namespace KeepX
open PySem.W PySem.Calls PyProof.Rows PySem.HandSPX
theorem one_size (v : Value) : [v].length ≤ sizeLine := by
  rw [sizeLine_eq]
  exact (by decide : 1 ≤ 16777216)
theorem ldC {M : Model} {s : Shared} {name : Str} {scope : Scope} {L a : Addr} {cd : Value} {m : Str → Option Value} {x : Str} {pos : Pos} {v : Value} {Q : Value → Shared → Prop} {A : Around} {E : Value → Shared → Prop} (hn : s.heap.Ns L m) (hv : m x = some v) (h : Q v s)
    (hk : scope.kind = .function := by rfl) (hl : (envOfC name scope L a cd).kindOf x = some .local := by rfl) (hd : (x == ("__debug__" : Str)) = false := by decide) :
    wpAny M A (eval (.Name x pos) (envOfC name scope L a cd)) Q E s := wpAny_Name (wpAny_loadName_local hk hl hn hv h) hd
/-- what the written part says of a class that keeps a value in f -/
structure Cls0 (K : Frag) (mg : Str → Option Value) (x : Str) (C : Addr) (f : Str) (bmB : List Value) (newId : String) : Prop where
  gC : mg x = some (.ref C)
  kC : keepIn K (.ref C) = true
  q : excInitIn K C bmB newId = true
  ov : excOver K C bmB = true
  hd : hasDictIn K C = true
  sa : findIn K (.ref C) "__setattr__" = some (some (.builtin "object.__setattr__"))
  noN : findIn K (.ref C) f = some none
  exC : subIn K (.ref C) (.type "BaseException") = some true
  tyC : typeIn K (.ref C) = some (.type "type")
/-- what __init__ leaves of a fresh exception at x -/
structure InitEnd (f : Str) (h h' : Heap) (x C dx t1 : Addr) (v : Value) : Prop where
  keep : ∀ b o, b ≠ x → h.get? b = some o → h'.get? b = some o
  obj : h'.get? x = some { cls := .ref C, dict := some dx, data := .fields #[.ref t1, .none, .none, .none, .bool false, .none] }
  dbig : h.objs.size ≤ dx
  dne : dx ≠ x
  ns : h'.Ns1 dx (fun y => if y = f then some v else none)
/-- a made one -/
structure OwnMade (f : Str) (h h' : Heap) (e C d : Addr) (v : Value) : Prop where
  keep : ∀ b o, h.get? b = some o → h'.get? b = some o
  new : h.objs.size ≤ e
  obj : ∃ t1 : Addr, h'.get? e = some { cls := .ref C, dict := some d, data := .fields #[.ref t1, .none, .none, .none, .bool false, .none] }
  dbig : h.objs.size ≤ d
  dne : d ≠ e
  ns : h'.Ns1 d (fun y => if y = f then some v else none)
section
variable {prog : Program} {w : World} {A : Around} {R : Result → Shared → Prop} {s : Shared} {K : Frag} {mg : Str → Option Value} {C fI : Addr}
theorem made0 {x f : Str} {bmB : List Value} {B newId initId : String} (F : ExcBaseFacts B newId initId bmB) (T : Cls0 K mg x C f bmB newId) (iC : findIn K (.ref C) "__init__" = some (some (.ref fI))) (tF : typeIn K (.ref fI) = some (.type "function")) {v : Value}
    (init : ∀ {A : Around} {s : Shared} (x t0 : Addr) (R : Result → Shared → Prop), K.In s.heap → s.heap.NoLimit → s.heap.get? x = some (excO C t0) → K.lookup x = none → A.depth < recursionLimit →
      (∀ h' tk dx, InitEnd f s.heap h' x C dx t0 v → R (.ok (.ret .none)) { s with heap := h', toks := tk }) → codeAny (model prog w) A (.call (.ref fI) ⟨[.ref x, v], []⟩) R s)
    (X : K.In s.heap) (hlim : s.heap.NoLimit) (hroom : A.depth + 1 < recursionLimit)
    (hq : ∀ h' tk e d, OwnMade f s.heap h' e C d v → R (.ok (.ret (.ref e))) { s with heap := h', toks := tk }) :
    codeAny (model prog w) A (.call (.ref C) ⟨[v], []⟩) R s := by
  obtain ⟨nm, N', qn, bs, bm, hdct, sn, sub, ab, col, dd, k0, k1, k2, k3, k5, hC, hT⟩ := excInit_of X T.q
  obtain ⟨hp, g, dr, tk, os⟩ := s
  have k : ∀ b o, hp.get? b = some o → ((hp.push (kdv_tup [v])).push (excO C hp.objs.size)).get? b = some o := fun b o e => Heap.get?_push_of_some _ (Heap.get?_push_of_some _ e)
  have hget : ((hp.push (kdv_tup [v])).push (excO C hp.objs.size)).get? (hp.objs.size + 1) = some (excO C hp.objs.size) := by heap_get
  have hnx : K.lookup (hp.objs.size + 1) = none := by
    cases e : K.lookup (hp.objs.size + 1) with
    | none => rfl
    | some o => exact absurd (Nat.lt_of_succ_lt (Heap.lt_size (X _ _ e))) (Nat.lt_irrefl _)
  refine call_own F hT hC (looks_findIn X iC) (fun self => bind_fn X self tF) (one_size v) ?_
  refine init (s := ⟨(hp.push (kdv_tup [v])).push (excO C hp.objs.size), g, dr, tk, os⟩) (hp.objs.size + 1) hp.objs.size _ (X.keeps k) (hlim.keeps k) hget hnx ?_ fun h' tk' dx ⟨k', hx, dn, dne, hns⟩ => ?_
  · show A.depth + 1 < recursionLimit
    exact hroom
  · have old : ∀ b o, hp.get? b = some o → h'.get? b = some o := fun b o e => k' b o (Nat.ne_of_lt (Nat.lt_succ_of_lt (Heap.lt_size e))) (k b o e)
    have z : hp.objs.size + 1 + 1 ≤ dx := by
      first
        | (simpa only [Heap.size_push] using dn)
        | exact dn
        | (have q := dn; rw [Heap.size_push, Heap.size_push] at q; exact q)
    exact ⟨rfl, hq h' tk' (hp.objs.size + 1) dx ⟨old, Nat.le_succ _, ⟨_, hx⟩, Nat.le_trans (Nat.le_trans (Nat.le_succ _) (Nat.le_succ _)) z, dne, hns⟩⟩
end
namespace Num
open PySem.W PySem.Calls PyProof.Rows PySem.HandSPX
def iA (p1 p2 : Pos) : Arguments := { posonlyargs := [], args := [{ arg := "self", annotation := none, pos := p1 }, { arg := "value", annotation := none, pos := p2 }], vararg := none, kwonlyargs := [], kw_defaults := [], kwarg := none, defaults := [] }
def iB (q1 q2 q3 q4 : Pos) : List Stmt := [.Assign [.Attribute (.Name "self" q1) "value" q2] (.Name "value" q3) q4]
def iS : Scope := { kind := .function, names := [(PySem.Str.ofString "self", .local), (PySem.Str.ofString "value", .local)], isGenerator := false, isCoroutine := false, more := [] }
def bmB : List Value := [.type "IndexError", .type "LookupError", .type "Exception", .type "BaseException", .type "object"]
/-- what the written part says of InvalidNumber, at C, and of its __init__, at fI -/
structure Txt (K : Frag) (mg : Str → Option Value) (C fI : Addr) : Prop extends Cls0 K mg "InvalidNumber" C "value" bmB "IndexError.__new__" where
  iC : findIn K (.ref C) "__init__" = some (some (.ref fI))
  tC2 : typeIn K (.ref fI) = some (.type "function")
  fn : ∃ (oc : Value) (od : Option Addr) (doc pm : Value) (an : Option Addr) (cdv ct : Value) (osl : Array (Option Value)) (p1 p2 q1 q2 q3 q4 : Pos),
    K.lookup fI = some ⟨oc, od, .func (fnOf "__init__" "InvalidNumber.__init__" (iA p1 p2) (iB q1 q2 q3 q4) iS .none .none doc pm an cdv ct), osl⟩ ∧ codeIn K cdv "InvalidNumber.__init__" = true
section
variable {prog : Program} {w : World} {A : Around} {E : Value → Shared → Prop} {R : Result → Shared → Prop} {s : Shared} {K : Frag} {mg : Str → Option Value} {C fI : Addr}
theorem init1 (T : Txt K mg C fI) {x t0 : Addr} {v : Value} (X : K.In s.heap) (hlim : s.heap.NoLimit) (hx : s.heap.get? x = some (excO C t0)) (hnx : K.lookup x = none) (hroom : A.depth < recursionLimit)
    (hq : ∀ h' tk dx, InitEnd "value" s.heap h' x C dx t0 v → R (.ok (.ret .none)) { s with heap := h', toks := tk }) :
    codeAny (model prog w) A (.call (.ref fI) ⟨[.ref x, v], []⟩) R s := by
  obtain ⟨oc, od, doc, pm, an, cdv, ct, osl, p1, p2, q1, q2, q3, q4, ho, hcd⟩ := T.fn
  refine Att.call_fn (binds := [("self", .ref x), ("value", v)]) X hlim ho hcd hroom (BindsTo.of_eq (by first | rfl | with_unfolding_all rfl)) (by first | rfl | decide | with_unfolding_all rfl) (fun s₁ IC => ?_) rfl rfl rfl
  obtain ⟨h₁, tk₁, rfl⟩ := IC.toInCall.same
  have k : ∀ b o, s.heap.get? b = some o → h₁.get? b = some o := IC.toInCall.keep
  have hn := IC.toInCall.ns
  have X₁ : K.In h₁ := X.keeps k
  have hx₁ := k _ _ hx
  show wpAny _ _ (execs _ _) _ _ _
  refine wpAny_execs_cons (plainObj_wpAny_Assign_Attribute ?_)
  refine ldC (v := v) hn (by first | rfl | with_unfolding_all rfl | kernel_rfl) (ldC (v := .ref x) hn (by first | rfl | with_unfolding_all rfl | kernel_rfl) ?_)
  refine set_plain X₁ (ox := excO C t0) (od := none) ⟨hx₁, rfl, rfl, trivial⟩ T.sa ?_
  refine osa2 PySem.F.store_IndexError X₁ hx₁ T.ov T.hd T.noN (fun h₃ tk₃ dx k₃ dn dne hx₃ hn₃ => ?_)
  show wpAny _ _ (execs _ _) _ _ _
  have z : s.heap.objs.size < h₁.objs.size := hn.lt
  exact wpAny_execs_nil (hq h₃ tk₃ dx ⟨fun b o hb e => k₃ b o hb (k b o e), hx₃, Nat.le_of_lt (Nat.lt_of_lt_of_le z dn), dne, hn₃⟩)
theorem made1 (T : Txt K mg C fI) {v : Value} (X : K.In s.heap) (hlim : s.heap.NoLimit) (hroom : A.depth + 1 < recursionLimit)
    (hq : ∀ h' tk e d, OwnMade "value" s.heap h' e C d v → R (.ok (.ret (.ref e))) { s with heap := h', toks := tk }) :
    codeAny (model prog w) A (.call (.ref C) ⟨[v], []⟩) R s :=
  made0 PySem.F.excBase_IndexError T.toCls0 T.iC T.tC2 (fun {A s} x t0 R X hlim hx hnx hroom hq => init1 T X hlim hx hnx hroom hq) X hlim hroom hq
end
end Num
end KeepX
end PySem

/-! ## C3 -/
set_option maxRecDepth 100000
set_option maxHeartbeats 2000000
namespace K0
open PySem PySem.Spec PyProof.Rows L2 PySem.KeepX
theorem relO_keep {v : V} {v' : Value} (r : RelV v v') (f g : Str) : RelO (List.lookup g [(f, v)]) (if g = f then some v' else none) := by
  by_cases hw : g = f
  · subst hw
    rw [if_pos rfl]
    have q : List.lookup g [(g, v)] = some v := by simp [List.lookup]
    rw [q]
    exact r
  · rw [if_neg hw]
    have qw : (g == f) = false := by simpa using hw
    have q2 : List.lookup g [(f, v)] = none := by simp [List.lookup, qw]
    rw [q2]
    trivial
/-- an own class that keeps a value in f can be called -/
def Makes (K : PySem.W.Frag) (P : Program) (w : World) (C : Addr) (f : Str) : Prop := ∀ {A : Around} {R : Result → Shared → Prop} {s : Shared} {v : Value}, K.In s.heap → s.heap.NoLimit → A.depth + 1 < recursionLimit →
  (∀ h' tk e d, OwnMade f s.heap h' e C d v → R (.ok (.ret (.ref e))) { s with heap := h', toks := tk }) → codeAny (model P w) A (.call (.ref C) ⟨[v], []⟩) R s
section
variable {X : Cx} {C : Addr} {x f : Str} {bmB : List Value} {newId : String}
/-- X(e) -/
def tMkKeep (C : Addr) (f : Str) (ta : TA) : L2.St → Hp → XK → Prop := fun σ H Q => ta σ H fun vs H1 => ∃ v, vs = [v] ∧ ∀ d, H1 d = none → Q (.ref C) (some d) (upd H1 d (.xd [(f, v)]))
theorem pmk_keep {a : Expr} {ta : TA} {p pos : Pos} {k : Nat} (T : Cls0 X.K X.mg x C f bmB newId) (mk : Makes X.K X.prog X.w C f) (hr : Room k X.A) (ha : PA X [a] ta) (hg : Gl X x := by rfl)
    (hdb : (x == ("__debug__" : Str)) = false := by decide)
    (he : starEach (a :: []) X.env = (false, eval a X.env) :: starEach [] X.env := by rfl) (hpl : (backTo pos (starEach [] X.env)).any (·.1) = false := by rfl) :
    PMk X (.Call (.Name x p) [a] [] pos) (tMkKeep C f ta) := by
  intro pins s σ H Q I h
  refine wpAny_Call_Name_kw (ld_glob I hg T.gC ?_ hdb)
  refine PySem.W.callWith_K (h₀ := X.base) I.ok.mod.kin T.kC (thn (ha.run pos pins s σ H _ I h) fun us s1 hh => ?_) he hpl
  obtain ⟨vs, H1, I1, r1, v, ev, q1⟩ := hh
  subst ev
  refine ⟨I1.kIn, ?_⟩
  obtain ⟨v', rfl, rv⟩ := vals1 r1
  show wpAny _ _ (call (.ref C) [v']) _ _ _
  have hlim := I1.nolimit
  obtain ⟨hp, g, dr, tk, os⟩ := s1
  refine wpAny_call (mk I1.kIn hlim (by have := hr.dp; omega) fun h' tk' e d M => ?_)
  show MkP X pins σ Q (.ref e) ⟨h', g, dr, tk', os⟩
  obtain ⟨t1, hoe⟩ := M.obj
  have hns := M.ns
  obtain ⟨G', g1, g2⟩ := restrict h' fun b => decide (b ≠ e)
  have gk : ∀ b, b ≠ e → G'.get? b = h'.get? b := fun b hb => g1 b (decide_eq_true hb)
  have ge : G'.get? e = none := g2 e (by simp)
  have old : ∀ b o, hp.get? b = some o → G'.get? b = some o := fun b o q => (gk b (Nat.ne_of_lt (Nat.lt_of_lt_of_le (Heap.lt_size q) M.new))).trans (M.keep b o q)
  have ob : ObjOk X.prog X.w (upd H1 d (.xd [(f, v)])) G' d (.xd [(f, v)]) := ⟨_, hns.at (fun o q => (gk d M.dne).trans q), fun g => relO_keep rv f g⟩
  have J : Inv X pins σ (upd H1 d (.xd [(f, v)])) ⟨G', g, dr, tk', os⟩ := I1.laid (t' := tk') old M.dbig ob
  refine ⟨e, _, _, ⟨G', g, dr, tk', os⟩, _, .ref C, some d, rfl, J, fun b o q => ?_, ge, hoe, ⟨rfl, rfl⟩, rfl, rfl, ?_, rfl, I1.bare, raises_own T.exC T.tyC, q1 d (I1.hok.fresh M.dbig)⟩
  · by_cases hb : b = e
    · have q' : G'.get? b = some o := q
      rw [hb, ge] at q'; cases q'
    · exact (gk b hb).symm.trans q
  · rw [upd_ne (Ne.symm M.dne)]
    exact I1.hok.fresh M.new
def tRaiseKeep (C : Addr) (f : Str) (W : WX) (ta : TA) : TS := fun _ σ H => tMkKeep C f ta σ H fun cls d H' => W cls d σ H'
theorem ps_raiseKeep {a : Expr} {ta : TA} {W : WX} {p pos pos2 : Pos} {k : Nat} (hc : X.calm = true) (T : Cls0 X.K X.mg x C f bmB newId) (mk : Makes X.K X.prog X.w C f) (hr : Room k X.A) (tk : Takes X W) (ha : PA X [a] ta) (hg : Gl X x := by rfl)
    (hdb : (x == ("__debug__" : Str)) = false := by decide)
    (he : starEach (a :: []) X.env = (false, eval a X.env) :: starEach [] X.env := by rfl) (hpl : (backTo pos (starEach [] X.env)).any (·.1) = false := by rfl) :
    PS X (.Raise (some (.Call (.Name x p) [a] [] pos)) none pos2) (tRaiseKeep C f W ta) := ps_raise hc tk (pmk_keep T mk hr ha hg hdb he hpl)
end
end K0

/-! ## A12 -/
set_option maxRecDepth 100000
set_option maxHeartbeats 2000000
namespace K0
open PySem L2
abbrev sCop : Stmt := top 44
/-- an own error with a field f that keeps v, out of H -/
def OutK (E : XK) (C : Addr) (f : Str) (v : V) (H : Hp) : Prop := ∀ d, H d = none → E (.ref C) (some d) (upd H d (.xd [(f, v)]))
def spCop (C : Addr) : Sp := fun vs H Q E => ∃ (v1 v2 : V), vs = [v1, v2] ∧ Da H v1 ∧ Da H v2 ∧ (isC v1 = false → OutK E C "value" v1 H) ∧ (isC v1 = true → isC v2 = false ∨ v2 = .int 0 → OutK E C "value" v2 H) ∧
  (∀ a b : Int, v1 = .int a → v2 = .int b → 0 ≤ a → a < big → 0 < b → b < big → ∀ t, H t = none → Q (.ref t) (upd H t (.tup [.int (a / ((Nat.gcd a.natAbs b.natAbs : Nat) : Int)), .int (b / ((Nat.gcd a.natAbs b.natAbs : Nat) : Int))])))
structure TC (K : PySem.W.Frag) (mg : Str → Option Value) (fC : Addr) : Prop where
  gC : mg "is_count" = some (.ref fC)
  kC : PySem.W.keepIn K (.ref fC) = true
  gcd : mg "gcd" = some (.builtin "math.gcd")
theorem isC_int {v : V} (h : isC v = true) : ∃ i, v = .int i ∧ 0 ≤ i ∧ i < big := by
  cases v with
  | int i =>
    have h1 : (isI (.int i) && decide (0 ≤ i)) = true := h
    rw [Bool.and_eq_true] at h1
    have h2 : (decide (-big < i) && decide (i < big)) = true := h1.1
    rw [Bool.and_eq_true] at h2
    exact ⟨i, rfl, of_decide_eq_true h1.2, of_decide_eq_true h2.2⟩
  | _ => cases h
theorem big_200 : big < 2 ^ 200 := by unfold big; decide +kernel
theorem gcd_ok {a b : Int} (hb : 0 < b) (hb2 : b < big) : CDivW a ((Nat.gcd a.natAbs b.natAbs : Nat) : Int) := by
  have h1 : 0 < Nat.gcd a.natAbs b.natAbs := Nat.gcd_pos_of_pos_right _ (by omega)
  have h2 : Nat.gcd a.natAbs b.natAbs ≤ b.natAbs := Nat.gcd_le_right _ (by omega)
  have h3 := big_200
  have h4 : Nat.gcd a.natAbs b.natAbs < 2 ^ 200 := by
    have h5 : ((2 : Int) ^ 200) = ((2 ^ 200 : Nat) : Int) := by simp
    rw [h5] at h3
    omega
  exact wide_div (b := 200) (by omega) (by rw [Int.natAbs_natCast]; exact h4) (by decide) (by decide)
section
variable {P : Program} {w : World} {K : PySem.W.Frag} {mg : Str → Option Value} {base : Heap} {fC CN : Addr} {fdC : FuncData}
theorem scCop : FnScope ["one", "other", "common"] ["one", "other"] (defScope sCop) := ⟨rfl, rfl, rfl, by decide +kernel, rfl, by decide +kernel, by decide +kernel⟩
theorem ok_cop {f : Addr} {fd : FuncData} {bmB : List Value} {newId : String} (F : Fun K "coprime" "coprime" sCop f fd) (T : TC K mg fC) (TN : PySem.KeepX.Cls0 K mg "InvalidNumber" CN "value" bmB newId) (mk : Makes K P w CN "value")
    (G : FnOk P w K mg base CX0 2 fC fdC ["value"] spIsCnt) (bC : Binds K fdC ["value"] []) : FnOk P w K mg base (L2.CX P w) 3 f fd ["one", "other"] (spCop CN) := by
  refine F.okX scCop (fun vs H Q E h => ?_) (fun cdv A outer s H vs Q E hr h => ?_)
  · obtain ⟨v1, v2, rfl, _⟩ := h
    rfl
  · obtain ⟨v1, v2, rfl, d1, d2, k1, k2, k3⟩ := h
    refine ⟨_, pss_cons (ps_if (pt_not (pt_val (pe_call G hr (by rfl) T.gC T.kC bC .nil pass0 (pa_cons (pv 0) pa_nil)))) (pss_one (ps_raiseKeep rfl TN mk hr (takes_of rfl rfl rfl rfl) (pa_cons (pv 0) pa_nil))) pss_nil)
      (pss_cons (ps_if (pw_or (pt_not (pt_val (pe_call G hr (by rfl) T.gC T.kC bC .nil pass0 (pa_cons (pv 1) pa_nil)))) (pw_or1 (pt_cmpR op_eq (pv 1) pe_int (nomark _)))).pt (pss_one (ps_raiseKeep rfl TN mk hr (takes_of rfl rfl rfl rfl) (pa_cons (pv 1) pa_nil))) pss_nil)
      (pss_cons (ps_set (i := 2) scCop.nd rfl (Or.inl rfl) (pe_callBfun cr_gcd (by rfl) T.gcd (pa_cons (pv 0) (pa_cons (pv 1) pa_nil))))
      (pss_one (ps_ret (pe_tup (pa_cons (pe_op op_fdivW (pv 0) (pv 2)) (pa_cons (pe_op op_fdivW (pv 1) (pv 2)) pa_nil))))))), ?_⟩
    refine ⟨_, rfl, v1, rfl, d1, ⟨_, rfl, ?_⟩⟩
    cases c1 : isC v1 with
    | false => exact if_pos_of rfl ⟨_, rfl, _, rfl, k1 c1⟩
    | true =>
      refine if_neg_of rfl ⟨_, rfl, v2, rfl, d2, ⟨_, rfl, ?_⟩⟩
      cases c2 : isC v2 with
      | false => exact if_pos_of rfl (if_pos_of rfl ⟨_, rfl, _, rfl, k2 c1 (.inl c2)⟩)
      | true =>
        obtain ⟨a, rfl, a0, a1⟩ := isC_int c1
        obtain ⟨b, rfl, b0, b1⟩ := isC_int c2
        refine if_neg_of rfl ⟨_, rfl, rfl, ?_⟩
        by_cases hb : b = 0
        · subst hb
          exact ⟨_, rfl, ite2 (fun _ => ⟨_, rfl, _, rfl, k2 c1 (.inr rfl)⟩) (fun z => absurd rfl z)⟩
        · refine ⟨_, rfl, ite2 (fun z => ?_) (fun _ => ?_)⟩
          · exfalso
            exact hb (V.int.inj (of_decide_eq_true z))
          · have bp : 0 < b := by omega
            refine ⟨_, rfl, _, rfl, a, b, rfl, ?_⟩
            refine ⟨_, rfl, _, rfl, _, _, rfl, rfl, gcd_ok bp b1, _, rfl, _, rfl, _, _, rfl, rfl, gcd_ok bp b1, ?_⟩
            exact ⟨by show 2 ≤ sizeLine; decide, fun t ht => k3 a b rfl rfl a0 a1 bp b1 t ht⟩
end
end K0

/-! ## CK -/
set_option maxRecDepth 100000
namespace PySem.F

theorem store_KeyError : StoreFacts "KeyError" [.type "KeyError", .type "LookupError", .type "Exception", .type "BaseException", .type "object"] "object.__setattr__" "object" where
  mro := by kernel_rfl
  slot := .of (owner := "object") (n := "__setattr__") (by rw [typeLookup_type, builtinLookup_eq_fast]; kernel_rfl) (by decide +kernel) (by decide +kernel) (by decide +kernel)
    (by first | exact .inl (by decide +kernel) | exact .inr (by decide +kernel)) (by rw [isSubtype_type]; kernel_rfl)
  entry := entry_object_sa
  kind := by decide +kernel
  split := by decide +kernel
  hasOwner := by decide +kernel
  args := fun a b c => by unfold argsOk; kernel_rfl
  passes := fun self => by kernel_rfl

example : Bind.madeBy (.type "KeyError") = pure (some "LookupError.__new__") := by kernel_rfl
end PySem.F
namespace PySem
namespace KeepX
open Builtin Builtin.ObjectAttr PySem.HandSPX
/-! an own class over KeyError: its maker is LookupError's -/
section
variable {M : Model} {A : Around} {E : Value → Shared → Prop} {h : Heap} {g : Array GenState} {d : Drawn} {t : Nat} {os : OsState} {bmB bm : List Value} {B newId initId : String}
/-- as much of a base's chain as its maker asks -/
structure Asks (B : String) (bm bmB : List Value) : Prop where
  b : bm.contains (.type B) = bmB.contains (.type B)
  a : bm.contains (.type "AttributeError") = bmB.contains (.type "AttributeError")
  n : bm.contains (.type "NameError") = bmB.contains (.type "NameError")
variable {nm q : Str} {C N : Addr} {bs : List Value} {hd ab : Bool} {sn : List Str} {sub : List Value} {col : Option Bool} {dd : Option Addr} {k0 k1 k2 k3 k5 : Option Value}
theorem check_newA (F : ExcBaseFacts B newId initId bmB) (a : Asks B bm bmB) {us : List Value} {Q : Unit → Shared → Prop}
    (hC : h.get? C = some (excClassObj nm q C N bs bm hd sn sub ab col dd k0 k1 k2 k3 k5 newId)) (z : Q () ⟨h, g, d, t, os⟩) : wpAny M A (checkBuiltinCall newId ⟨.ref C :: us, []⟩) Q E ⟨h, g, d, t, os⟩ := by
  have hB : (Value.ref C :: bm).contains (.type B) = true := by rw [List.contains_cons, a.b, F.hasB, Bool.or_true]
  have hS := F.noStar
  simp only [checkBuiltinCall, F.newKind, F.newSplit, F.newRow]
  repeat (first | refine wpAny_loadPart_at hC ?_ | (refine wpAny_isSubtype_exc hC ?_; rw [hB]) | refine wpAny_staticBase_exc hC ?_ | refine wpAny_madeBy_exc hC ?_ | simp only [bne_self_eq_false, Bool.false_eq_true, if_false] | wp_step)
  exact z
end
section
variable {prog : Program} {w : World} {A : Around} {E : Value → Shared → Prop} {R : Result → Shared → Prop} {h : Heap} {g : Array GenState} {d : Drawn} {t : Nat} {os : OsState} {bmB bm : List Value} {B newId initId : String}
variable {nm q : Str} {C N : Addr} {bs : List Value} {hd ab : Bool} {sn : List Str} {sub : List Value} {col : Option Bool} {dd : Option Addr} {k0 k1 k2 k3 k5 : Option Value}
theorem newA_ : True := True.intro
end
end KeepX
end PySem
namespace PySem
namespace KeepX
open PySem.W PySem.Calls PyProof.Rows PySem.HandSPX
section
variable {prog : Program} {w : World} {A : Around} {E : Value → Shared → Prop} {R : Result → Shared → Prop} {h : Heap} {g : Array GenState} {d : Drawn} {t : Nat} {os : OsState} {bmB bm : List Value} {B newId initId : String}
variable {nm q : Str} {C N : Addr} {bs : List Value} {hd ab : Bool} {sn : List Str} {sub : List Value} {col : Option Bool} {dd : Option Addr} {k0 k1 k2 k3 k5 : Option Value}
theorem newA (F : ExcBaseFacts B newId initId bmB) (a : Asks B bm bmB) {us : List Value} (hC : h.get? C = some (excClassObj nm q C N bs bm hd sn sub ab col dd k0 k1 k2 k3 k5 newId))
    (z : R (.ok (.ret (.ref (h.objs.size + 1)))) ⟨(h.push (kdv_tup us)).push (excO C h.objs.size), g, d, t, os⟩) (hl : us.length ≤ sizeLine) : codeAny (model prog w) A (.builtin newId ⟨.ref C :: us, []⟩) R ⟨h, g, d, t, os⟩ := by
  have hE := F.ends
  have hB : (Value.ref C :: bm).contains (.type B) = true := by rw [List.contains_cons, a.b, F.hasB, Bool.or_true]
  have hA : (Value.ref C :: bm).contains (.type "AttributeError") = false := by rw [List.contains_cons, a.a, F.noAttr]; rfl
  have hN : (Value.ref C :: bm).contains (.type "NameError") = false := by rw [List.contains_cons, a.n, F.noName]; rfl
  refine codeAny_builtinAt F.entry ?_
  unfold Builtin.«BaseException.__new__»
  refine wpAt_bind ?_
  show wpAt _ _ _ (stack >>= _) _ _ _
  refine wpAt_bind (wpAt_stack fun p below => wpAt_of_wpAny ?_)
  wp_walk
  refine wpAt_of_wpAny ?_
  rw [F.owner]
  repeat (first | with_reducible refine wpAny_madeHere_exc F.canon hC ?_ | with_reducible refine wpAny_loadPart_at hC ?_ | (with_reducible refine wpAny_isSubtype_exc hC ?_; first | rw [hB] | rw [hA] | rw [hN]) | wp_step)
  show R _ _
  rw [Heap.size_push]; exact z
theorem type_callA (F : ExcBaseFacts B newId initId bmB) (a : Asks B bm bmB) {us : List Value} {fI : Addr} {Q : Fin → Shared → Prop} (hC : h.get? C = some (excClassObj nm q C N bs bm hd sn sub ab col dd k0 k1 k2 k3 k5 newId))
    (hi : Looks (model prog w) h (typeLookup (.ref C) "__init__") (some (.ref fI))) (hb : ∀ self, Looks (model prog w) h (bindSpecial (.ref fI) self) (.ref fI, [self])) (hl : us.length ≤ sizeLine)
    (z : codeAny (model prog w) A (.call (.ref fI) ⟨.ref (h.objs.size + 1) :: us, []⟩) (fun r s' => match r with | .ok (.ret v) => v = .none ∧ Q (.done (.ret (.ref (h.objs.size + 1)))) s' | .ok _ => False | .error e => E e s')
      ⟨(h.push (kdv_tup us)).push (excO C h.objs.size), g, d, t, os⟩) : wpAny (model prog w) A (Builtin.«type.__call__» ⟨.ref C :: us, []⟩) Q E ⟨h, g, d, t, os⟩ := by
  repeat (first | with_reducible refine wpAny_loadPart_at hC ?_ | with_reducible refine wpAny_madeBy_exc hC ?_ | wp_step)
  refine codeAny_call_builtin_code (Code.quiet_builtin _ F.quiet) (check_newA F a hC (newA F a hC ?_ hl))
  show wpAny _ _ _ _ _ _
  have k : ∀ b o, h.get? b = some o → ((h.push (kdv_tup us)).push (excO C h.objs.size)).get? b = some o := fun b o e => Heap.get?_push_of_some _ (Heap.get?_push_of_some _ e)
  have hC2 := k _ _ hC
  have hx : ((h.push (kdv_tup us)).push (excO C h.objs.size)).get? (h.objs.size + 1) = some (excO C h.objs.size) := by heap_get
  have cC : (Value.ref C :: bm).contains (.ref C) = true := by simp
  have i2 := hi.keeps k
  have b2 := (hb (.ref (h.objs.size + 1))).keeps k
  unfold isInstance
  repeat (first | with_reducible refine wpAny_loadPart_at hx ?_ | (with_reducible refine wpAny_isSubtype_exc hC2 ?_; rw [cC]) | wp_step)
  show wpAny _ _ (typeLookup (.ref C) _) _ _ _
  refine i2.at (wpAny_holding (wpAny_bind (b2.at (wpAny_bind (wpAny_call (codeAny_mono z fun r s' y => ?_))))))
  rcases r with e | (v | _ | _ | _) <;> first | exact y | exact y.elim | skip
  obtain ⟨rfl, y⟩ := y
  first
    | exact wpAny_pure (wpAny_pure y)
    | (wp_walk; exact y)
theorem call_ownA (F : ExcBaseFacts B newId initId bmB) (a : Asks B bm bmB) {us : List Value} {fI : Addr} (hC : h.get? C = some (excClassObj nm q C N bs bm hd sn sub ab col dd k0 k1 k2 k3 k5 newId))
    (hi : Looks (model prog w) h (typeLookup (.ref C) "__init__") (some (.ref fI))) (hb : ∀ self, Looks (model prog w) h (bindSpecial (.ref fI) self) (.ref fI, [self])) (hl : us.length ≤ sizeLine)
    (z : codeAny (model prog w) (A.under (.builtin "type.__call__" ⟨.ref C :: us, []⟩)) (.call (.ref fI) ⟨.ref (h.objs.size + 1) :: us, []⟩) (InitBack (h.objs.size + 1) R) ⟨(h.push (kdv_tup us)).push (excO C h.objs.size), g, d, t, os⟩) :
    codeAny (model prog w) A (.call (.ref C) ⟨us, []⟩) R ⟨h, g, d, t, os⟩ := by
  have g1 := tc_lookup
  have g2 := tc_bind (.ref C)
  have g3 : (⟨h, g, d, t, os⟩ : Shared).TypeIs (.ref C) "type" := ⟨_, hC, rfl⟩
  refine codeAny_of_tree ?_
  show wpAny _ _ (callAny (.ref C) _) _ _ _
  repeat (any_goals (first | assumption | with_reducible refine wpAny_loadPart_at hC ?_ | wp_step))
  refine ⟨rfl, codeAny_call_builtin_at (Code.quiet_builtin _ (by decide +kernel)) entry_typeCall (wpAny_check_type_call_sub hC (type_callA F a hC hi hb hl (codeAny_mono z fun r s' y => ?_)))⟩
  rcases r with e | (v | _ | _ | _) <;> exact y
end
end KeepX
end PySem

/-! ## C4 -/
set_option maxRecDepth 100000
set_option maxHeartbeats 2000000
namespace PySem
namespace KeepX
open PySem.W PySem.Calls PyProof.Rows PySem.HandSPX
section
variable {prog : Program} {w : World} {A : Around} {R : Result → Shared → Prop} {s : Shared} {K : Frag} {mg : Str → Option Value} {C fI : Addr}
theorem made0A {x f : Str} {bmB bmC : List Value} {B newId initId : String} (F : ExcBaseFacts B newId initId bmC) (T : Cls0 K mg x C f bmB newId) (aB : bmB.contains (.type B) = bmC.contains (.type B)) (aA : bmB.contains (.type "AttributeError") = bmC.contains (.type "AttributeError")) (aN : bmB.contains (.type "NameError") = bmC.contains (.type "NameError"))
    (iC : findIn K (.ref C) "__init__" = some (some (.ref fI))) (tF : typeIn K (.ref fI) = some (.type "function")) {v : Value}
    (init : ∀ {A : Around} {s : Shared} (x t0 : Addr) (R : Result → Shared → Prop), K.In s.heap → s.heap.NoLimit → s.heap.get? x = some (excO C t0) → K.lookup x = none → A.depth < recursionLimit →
      (∀ h' tk dx, InitEnd f s.heap h' x C dx t0 v → R (.ok (.ret .none)) { s with heap := h', toks := tk }) → codeAny (model prog w) A (.call (.ref fI) ⟨[.ref x, v], []⟩) R s)
    (X : K.In s.heap) (hlim : s.heap.NoLimit) (hroom : A.depth + 1 < recursionLimit)
    (hq : ∀ h' tk e d, OwnMade f s.heap h' e C d v → R (.ok (.ret (.ref e))) { s with heap := h', toks := tk }) :
    codeAny (model prog w) A (.call (.ref C) ⟨[v], []⟩) R s := by
  obtain ⟨nm, N', qn, bs, bm, hdct, sn, sub, ab, col, dd, k0, k1, k2, k3, k5, hC, hT⟩ := excInit_of X T.q
  obtain ⟨hp, g, dr, tk, os⟩ := s
  have k : ∀ b o, hp.get? b = some o → ((hp.push (kdv_tup [v])).push (excO C hp.objs.size)).get? b = some o := fun b o e => Heap.get?_push_of_some _ (Heap.get?_push_of_some _ e)
  have hget : ((hp.push (kdv_tup [v])).push (excO C hp.objs.size)).get? (hp.objs.size + 1) = some (excO C hp.objs.size) := by heap_get
  have hnx : K.lookup (hp.objs.size + 1) = none := by
    cases e : K.lookup (hp.objs.size + 1) with
    | none => rfl
    | some o => exact absurd (Nat.lt_of_succ_lt (Heap.lt_size (X _ _ e))) (Nat.lt_irrefl _)
  refine call_ownA F ⟨(hT _).trans aB, (hT _).trans aA, (hT _).trans aN⟩ hC (looks_findIn X iC) (fun self => bind_fn X self tF) (one_size v) ?_
  refine init (s := ⟨(hp.push (kdv_tup [v])).push (excO C hp.objs.size), g, dr, tk, os⟩) (hp.objs.size + 1) hp.objs.size _ (X.keeps k) (hlim.keeps k) hget hnx ?_ fun h' tk' dx ⟨k', hx, dn, dne, hns⟩ => ?_
  · show A.depth + 1 < recursionLimit
    exact hroom
  · have old : ∀ b o, hp.get? b = some o → h'.get? b = some o := fun b o e => k' b o (Nat.ne_of_lt (Nat.lt_succ_of_lt (Heap.lt_size e))) (k b o e)
    have z : hp.objs.size + 1 + 1 ≤ dx := by
      first
        | (simpa only [Heap.size_push] using dn)
        | exact dn
        | (have q := dn; rw [Heap.size_push, Heap.size_push] at q; exact q)
    exact ⟨rfl, hq h' tk' (hp.objs.size + 1) dx ⟨old, Nat.le_succ _, ⟨_, hx⟩, Nat.le_trans (Nat.le_trans (Nat.le_succ _) (Nat.le_succ _)) z, dne, hns⟩⟩
end
namespace Par
open PySem.W PySem.Calls PyProof.Rows PySem.HandSPX
def iA (p1 p2 : Pos) : Arguments := { posonlyargs := [], args := [{ arg := "self", annotation := none, pos := p1 }, { arg := "number", annotation := none, pos := p2 }], vararg := none, kwonlyargs := [], kw_defaults := [], kwarg := none, defaults := [] }
def iB (q1 q2 q3 q4 : Pos) : List Stmt := [.Assign [.Attribute (.Name "self" q1) "number" q2] (.Name "number" q3) q4]
def iS : Scope := { kind := .function, names := [(PySem.Str.ofString "self", .local), (PySem.Str.ofString "number", .local)], isGenerator := false, isCoroutine := false, more := [] }
def bmB : List Value := [.type "ValueError", .type "Exception", .type "BaseException", .type "object"]
/-- what the written part says of ParseError, at C, and of its __init__, at fI -/
structure Txt (K : Frag) (mg : Str → Option Value) (C fI : Addr) : Prop extends Cls0 K mg "ParseError" C "number" bmB "ValueError.__new__" where
  iC : findIn K (.ref C) "__init__" = some (some (.ref fI))
  tC2 : typeIn K (.ref fI) = some (.type "function")
  fn : ∃ (oc : Value) (od : Option Addr) (doc pm : Value) (an : Option Addr) (cdv ct : Value) (osl : Array (Option Value)) (p1 p2 q1 q2 q3 q4 : Pos),
    K.lookup fI = some ⟨oc, od, .func (fnOf "__init__" "ParseError.__init__" (iA p1 p2) (iB q1 q2 q3 q4) iS .none .none doc pm an cdv ct), osl⟩ ∧ codeIn K cdv "ParseError.__init__" = true
section
variable {prog : Program} {w : World} {A : Around} {E : Value → Shared → Prop} {R : Result → Shared → Prop} {s : Shared} {K : Frag} {mg : Str → Option Value} {C fI : Addr}
theorem init1 (T : Txt K mg C fI) {x t0 : Addr} {v : Value} (X : K.In s.heap) (hlim : s.heap.NoLimit) (hx : s.heap.get? x = some (excO C t0)) (hnx : K.lookup x = none) (hroom : A.depth < recursionLimit)
    (hq : ∀ h' tk dx, InitEnd "number" s.heap h' x C dx t0 v → R (.ok (.ret .none)) { s with heap := h', toks := tk }) :
    codeAny (model prog w) A (.call (.ref fI) ⟨[.ref x, v], []⟩) R s := by
  obtain ⟨oc, od, doc, pm, an, cdv, ct, osl, p1, p2, q1, q2, q3, q4, ho, hcd⟩ := T.fn
  refine Att.call_fn (binds := [("self", .ref x), ("number", v)]) X hlim ho hcd hroom (BindsTo.of_eq (by first | rfl | with_unfolding_all rfl)) (by first | rfl | decide | with_unfolding_all rfl) (fun s₁ IC => ?_) rfl rfl rfl
  obtain ⟨h₁, tk₁, rfl⟩ := IC.toInCall.same
  have k : ∀ b o, s.heap.get? b = some o → h₁.get? b = some o := IC.toInCall.keep
  have hn := IC.toInCall.ns
  have X₁ : K.In h₁ := X.keeps k
  have hx₁ := k _ _ hx
  show wpAny _ _ (execs _ _) _ _ _
  refine wpAny_execs_cons (plainObj_wpAny_Assign_Attribute ?_)
  refine ldC (v := v) hn (by first | rfl | with_unfolding_all rfl | kernel_rfl) (ldC (v := .ref x) hn (by first | rfl | with_unfolding_all rfl | kernel_rfl) ?_)
  refine set_plain X₁ (ox := excO C t0) (od := none) ⟨hx₁, rfl, rfl, trivial⟩ T.sa ?_
  refine osa2 PySem.F.store_ValueError X₁ hx₁ T.ov T.hd T.noN (fun h₃ tk₃ dx k₃ dn dne hx₃ hn₃ => ?_)
  show wpAny _ _ (execs _ _) _ _ _
  have z : s.heap.objs.size < h₁.objs.size := hn.lt
  exact wpAny_execs_nil (hq h₃ tk₃ dx ⟨fun b o hb e => k₃ b o hb (k b o e), hx₃, Nat.le_of_lt (Nat.lt_of_lt_of_le z dn), dne, hn₃⟩)
theorem made1 (T : Txt K mg C fI) {v : Value} (X : K.In s.heap) (hlim : s.heap.NoLimit) (hroom : A.depth + 1 < recursionLimit)
    (hq : ∀ h' tk e d, OwnMade "number" s.heap h' e C d v → R (.ok (.ret (.ref e))) { s with heap := h', toks := tk }) :
    codeAny (model prog w) A (.call (.ref C) ⟨[v], []⟩) R s :=
  made0 PySem.F.excBase_ValueError T.toCls0 T.iC T.tC2 (fun {A s} x t0 R X hlim hx hnx hroom hq => init1 T X hlim hx hnx hroom hq) X hlim hroom hq
end
end Par
namespace Lay
open PySem.W PySem.Calls PyProof.Rows PySem.HandSPX
def iA (p1 p2 : Pos) : Arguments := { posonlyargs := [], args := [{ arg := "self", annotation := none, pos := p1 }, { arg := "reason", annotation := none, pos := p2 }], vararg := none, kwonlyargs := [], kw_defaults := [], kwarg := none, defaults := [] }
def iB (q1 q2 q3 q4 : Pos) : List Stmt := [.Assign [.Attribute (.Name "self" q1) "reason" q2] (.Name "reason" q3) q4]
def iS : Scope := { kind := .function, names := [(PySem.Str.ofString "self", .local), (PySem.Str.ofString "reason", .local)], isGenerator := false, isCoroutine := false, more := [] }
def bmB : List Value := [.type "LookupError", .type "Exception", .type "BaseException", .type "object"]
/-- what the written part says of NotLayered, at C, and of its __init__, at fI -/
structure Txt (K : Frag) (mg : Str → Option Value) (C fI : Addr) : Prop extends Cls0 K mg "NotLayered" C "reason" bmB "LookupError.__new__" where
  iC : findIn K (.ref C) "__init__" = some (some (.ref fI))
  tC2 : typeIn K (.ref fI) = some (.type "function")
  fn : ∃ (oc : Value) (od : Option Addr) (doc pm : Value) (an : Option Addr) (cdv ct : Value) (osl : Array (Option Value)) (p1 p2 q1 q2 q3 q4 : Pos),
    K.lookup fI = some ⟨oc, od, .func (fnOf "__init__" "NotLayered.__init__" (iA p1 p2) (iB q1 q2 q3 q4) iS .none .none doc pm an cdv ct), osl⟩ ∧ codeIn K cdv "NotLayered.__init__" = true
section
variable {prog : Program} {w : World} {A : Around} {E : Value → Shared → Prop} {R : Result → Shared → Prop} {s : Shared} {K : Frag} {mg : Str → Option Value} {C fI : Addr}
theorem init1 (T : Txt K mg C fI) {x t0 : Addr} {v : Value} (X : K.In s.heap) (hlim : s.heap.NoLimit) (hx : s.heap.get? x = some (excO C t0)) (hnx : K.lookup x = none) (hroom : A.depth < recursionLimit)
    (hq : ∀ h' tk dx, InitEnd "reason" s.heap h' x C dx t0 v → R (.ok (.ret .none)) { s with heap := h', toks := tk }) :
    codeAny (model prog w) A (.call (.ref fI) ⟨[.ref x, v], []⟩) R s := by
  obtain ⟨oc, od, doc, pm, an, cdv, ct, osl, p1, p2, q1, q2, q3, q4, ho, hcd⟩ := T.fn
  refine Att.call_fn (binds := [("self", .ref x), ("reason", v)]) X hlim ho hcd hroom (BindsTo.of_eq (by first | rfl | with_unfolding_all rfl)) (by first | rfl | decide | with_unfolding_all rfl) (fun s₁ IC => ?_) rfl rfl rfl
  obtain ⟨h₁, tk₁, rfl⟩ := IC.toInCall.same
  have k : ∀ b o, s.heap.get? b = some o → h₁.get? b = some o := IC.toInCall.keep
  have hn := IC.toInCall.ns
  have X₁ : K.In h₁ := X.keeps k
  have hx₁ := k _ _ hx
  show wpAny _ _ (execs _ _) _ _ _
  refine wpAny_execs_cons (plainObj_wpAny_Assign_Attribute ?_)
  refine ldC (v := v) hn (by first | rfl | with_unfolding_all rfl | kernel_rfl) (ldC (v := .ref x) hn (by first | rfl | with_unfolding_all rfl | kernel_rfl) ?_)
  refine set_plain X₁ (ox := excO C t0) (od := none) ⟨hx₁, rfl, rfl, trivial⟩ T.sa ?_
  refine osa2 PySem.F.store_LookupError X₁ hx₁ T.ov T.hd T.noN (fun h₃ tk₃ dx k₃ dn dne hx₃ hn₃ => ?_)
  show wpAny _ _ (execs _ _) _ _ _
  have z : s.heap.objs.size < h₁.objs.size := hn.lt
  exact wpAny_execs_nil (hq h₃ tk₃ dx ⟨fun b o hb e => k₃ b o hb (k b o e), hx₃, Nat.le_of_lt (Nat.lt_of_lt_of_le z dn), dne, hn₃⟩)
theorem made1 (T : Txt K mg C fI) {v : Value} (X : K.In s.heap) (hlim : s.heap.NoLimit) (hroom : A.depth + 1 < recursionLimit)
    (hq : ∀ h' tk e d, OwnMade "reason" s.heap h' e C d v → R (.ok (.ret (.ref e))) { s with heap := h', toks := tk }) :
    codeAny (model prog w) A (.call (.ref C) ⟨[v], []⟩) R s :=
  made0 PySem.F.excBase_LookupError T.toCls0 T.iC T.tC2 (fun {A s} x t0 R X hlim hx hnx hroom hq => init1 T X hlim hx hnx hroom hq) X hlim hroom hq
end
end Lay
namespace Und
open PySem.W PySem.Calls PyProof.Rows PySem.HandSPX
def iA (p1 p2 : Pos) : Arguments := { posonlyargs := [], args := [{ arg := "self", annotation := none, pos := p1 }, { arg := "many", annotation := none, pos := p2 }], vararg := none, kwonlyargs := [], kw_defaults := [], kwarg := none, defaults := [] }
def iB (q1 q2 q3 q4 : Pos) : List Stmt := [.Assign [.Attribute (.Name "self" q1) "many" q2] (.Name "many" q3) q4]
def iS : Scope := { kind := .function, names := [(PySem.Str.ofString "self", .local), (PySem.Str.ofString "many", .local)], isGenerator := false, isCoroutine := false, more := [] }
def bmB : List Value := [.type "RuntimeError", .type "Exception", .type "BaseException", .type "object"]
/-- what the written part says of NothingToUndo, at C, and of its __init__, at fI -/
structure Txt (K : Frag) (mg : Str → Option Value) (C fI : Addr) : Prop extends Cls0 K mg "NothingToUndo" C "many" bmB "RuntimeError.__new__" where
  iC : findIn K (.ref C) "__init__" = some (some (.ref fI))
  tC2 : typeIn K (.ref fI) = some (.type "function")
  fn : ∃ (oc : Value) (od : Option Addr) (doc pm : Value) (an : Option Addr) (cdv ct : Value) (osl : Array (Option Value)) (p1 p2 q1 q2 q3 q4 : Pos),
    K.lookup fI = some ⟨oc, od, .func (fnOf "__init__" "NothingToUndo.__init__" (iA p1 p2) (iB q1 q2 q3 q4) iS .none .none doc pm an cdv ct), osl⟩ ∧ codeIn K cdv "NothingToUndo.__init__" = true
section
variable {prog : Program} {w : World} {A : Around} {E : Value → Shared → Prop} {R : Result → Shared → Prop} {s : Shared} {K : Frag} {mg : Str → Option Value} {C fI : Addr}
theorem init1 (T : Txt K mg C fI) {x t0 : Addr} {v : Value} (X : K.In s.heap) (hlim : s.heap.NoLimit) (hx : s.heap.get? x = some (excO C t0)) (hnx : K.lookup x = none) (hroom : A.depth < recursionLimit)
    (hq : ∀ h' tk dx, InitEnd "many" s.heap h' x C dx t0 v → R (.ok (.ret .none)) { s with heap := h', toks := tk }) :
    codeAny (model prog w) A (.call (.ref fI) ⟨[.ref x, v], []⟩) R s := by
  obtain ⟨oc, od, doc, pm, an, cdv, ct, osl, p1, p2, q1, q2, q3, q4, ho, hcd⟩ := T.fn
  refine Att.call_fn (binds := [("self", .ref x), ("many", v)]) X hlim ho hcd hroom (BindsTo.of_eq (by first | rfl | with_unfolding_all rfl)) (by first | rfl | decide | with_unfolding_all rfl) (fun s₁ IC => ?_) rfl rfl rfl
  obtain ⟨h₁, tk₁, rfl⟩ := IC.toInCall.same
  have k : ∀ b o, s.heap.get? b = some o → h₁.get? b = some o := IC.toInCall.keep
  have hn := IC.toInCall.ns
  have X₁ : K.In h₁ := X.keeps k
  have hx₁ := k _ _ hx
  show wpAny _ _ (execs _ _) _ _ _
  refine wpAny_execs_cons (plainObj_wpAny_Assign_Attribute ?_)
  refine ldC (v := v) hn (by first | rfl | with_unfolding_all rfl | kernel_rfl) (ldC (v := .ref x) hn (by first | rfl | with_unfolding_all rfl | kernel_rfl) ?_)
  refine set_plain X₁ (ox := excO C t0) (od := none) ⟨hx₁, rfl, rfl, trivial⟩ T.sa ?_
  refine osa2 PySem.F.store_RuntimeError X₁ hx₁ T.ov T.hd T.noN (fun h₃ tk₃ dx k₃ dn dne hx₃ hn₃ => ?_)
  show wpAny _ _ (execs _ _) _ _ _
  have z : s.heap.objs.size < h₁.objs.size := hn.lt
  exact wpAny_execs_nil (hq h₃ tk₃ dx ⟨fun b o hb e => k₃ b o hb (k b o e), hx₃, Nat.le_of_lt (Nat.lt_of_lt_of_le z dn), dne, hn₃⟩)
theorem made1 (T : Txt K mg C fI) {v : Value} (X : K.In s.heap) (hlim : s.heap.NoLimit) (hroom : A.depth + 1 < recursionLimit)
    (hq : ∀ h' tk e d, OwnMade "many" s.heap h' e C d v → R (.ok (.ret (.ref e))) { s with heap := h', toks := tk }) :
    codeAny (model prog w) A (.call (.ref C) ⟨[v], []⟩) R s :=
  made0 PySem.F.excBase_RuntimeError T.toCls0 T.iC T.tC2 (fun {A s} x t0 R X hlim hx hnx hroom hq => init1 T X hlim hx hnx hroom hq) X hlim hroom hq
end
end Und
namespace Too
open PySem.W PySem.Calls PyProof.Rows PySem.HandSPX
def iA (p1 p2 : Pos) : Arguments := { posonlyargs := [], args := [{ arg := "self", annotation := none, pos := p1 }, { arg := "limit", annotation := none, pos := p2 }], vararg := none, kwonlyargs := [], kw_defaults := [], kwarg := none, defaults := [] }
def iB (q1 q2 q3 q4 : Pos) : List Stmt := [.Assign [.Attribute (.Name "self" q1) "limit" q2] (.Name "limit" q3) q4]
def iS : Scope := { kind := .function, names := [(PySem.Str.ofString "self", .local), (PySem.Str.ofString "limit", .local)], isGenerator := false, isCoroutine := false, more := [] }
def bmB : List Value := [.type "OverflowError", .type "ArithmeticError", .type "Exception", .type "BaseException", .type "object"]
/-- what the written part says of TooMany, at C, and of its __init__, at fI -/
structure Txt (K : Frag) (mg : Str → Option Value) (C fI : Addr) : Prop extends Cls0 K mg "TooMany" C "limit" bmB "OverflowError.__new__" where
  iC : findIn K (.ref C) "__init__" = some (some (.ref fI))
  tC2 : typeIn K (.ref fI) = some (.type "function")
  fn : ∃ (oc : Value) (od : Option Addr) (doc pm : Value) (an : Option Addr) (cdv ct : Value) (osl : Array (Option Value)) (p1 p2 q1 q2 q3 q4 : Pos),
    K.lookup fI = some ⟨oc, od, .func (fnOf "__init__" "TooMany.__init__" (iA p1 p2) (iB q1 q2 q3 q4) iS .none .none doc pm an cdv ct), osl⟩ ∧ codeIn K cdv "TooMany.__init__" = true
section
variable {prog : Program} {w : World} {A : Around} {E : Value → Shared → Prop} {R : Result → Shared → Prop} {s : Shared} {K : Frag} {mg : Str → Option Value} {C fI : Addr}
theorem init1 (T : Txt K mg C fI) {x t0 : Addr} {v : Value} (X : K.In s.heap) (hlim : s.heap.NoLimit) (hx : s.heap.get? x = some (excO C t0)) (hnx : K.lookup x = none) (hroom : A.depth < recursionLimit)
    (hq : ∀ h' tk dx, InitEnd "limit" s.heap h' x C dx t0 v → R (.ok (.ret .none)) { s with heap := h', toks := tk }) :
    codeAny (model prog w) A (.call (.ref fI) ⟨[.ref x, v], []⟩) R s := by
  obtain ⟨oc, od, doc, pm, an, cdv, ct, osl, p1, p2, q1, q2, q3, q4, ho, hcd⟩ := T.fn
  refine Att.call_fn (binds := [("self", .ref x), ("limit", v)]) X hlim ho hcd hroom (BindsTo.of_eq (by first | rfl | with_unfolding_all rfl)) (by first | rfl | decide | with_unfolding_all rfl) (fun s₁ IC => ?_) rfl rfl rfl
  obtain ⟨h₁, tk₁, rfl⟩ := IC.toInCall.same
  have k : ∀ b o, s.heap.get? b = some o → h₁.get? b = some o := IC.toInCall.keep
  have hn := IC.toInCall.ns
  have X₁ : K.In h₁ := X.keeps k
  have hx₁ := k _ _ hx
  show wpAny _ _ (execs _ _) _ _ _
  refine wpAny_execs_cons (plainObj_wpAny_Assign_Attribute ?_)
  refine ldC (v := v) hn (by first | rfl | with_unfolding_all rfl | kernel_rfl) (ldC (v := .ref x) hn (by first | rfl | with_unfolding_all rfl | kernel_rfl) ?_)
  refine set_plain X₁ (ox := excO C t0) (od := none) ⟨hx₁, rfl, rfl, trivial⟩ T.sa ?_
  refine osa2 PySem.F.store_OverflowError X₁ hx₁ T.ov T.hd T.noN (fun h₃ tk₃ dx k₃ dn dne hx₃ hn₃ => ?_)
  show wpAny _ _ (execs _ _) _ _ _
  have z : s.heap.objs.size < h₁.objs.size := hn.lt
  exact wpAny_execs_nil (hq h₃ tk₃ dx ⟨fun b o hb e => k₃ b o hb (k b o e), hx₃, Nat.le_of_lt (Nat.lt_of_lt_of_le z dn), dne, hn₃⟩)
theorem made1 (T : Txt K mg C fI) {v : Value} (X : K.In s.heap) (hlim : s.heap.NoLimit) (hroom : A.depth + 1 < recursionLimit)
    (hq : ∀ h' tk e d, OwnMade "limit" s.heap h' e C d v → R (.ok (.ret (.ref e))) { s with heap := h', toks := tk }) :
    codeAny (model prog w) A (.call (.ref C) ⟨[v], []⟩) R s :=
  made0 PySem.F.excBase_OverflowError T.toCls0 T.iC T.tC2 (fun {A s} x t0 R X hlim hx hnx hroom hq => init1 T X hlim hx hnx hroom hq) X hlim hroom hq
end
end Too
namespace Ref
open PySem.W PySem.Calls PyProof.Rows PySem.HandSPX
def iA (p1 p2 : Pos) : Arguments := { posonlyargs := [], args := [{ arg := "self", annotation := none, pos := p1 }, { arg := "pledge", annotation := none, pos := p2 }], vararg := none, kwonlyargs := [], kw_defaults := [], kwarg := none, defaults := [] }
def iB (q1 q2 q3 q4 : Pos) : List Stmt := [.Assign [.Attribute (.Name "self" q1) "pledge" q2] (.Name "pledge" q3) q4]
def iS : Scope := { kind := .function, names := [(PySem.Str.ofString "self", .local), (PySem.Str.ofString "pledge", .local)], isGenerator := false, isCoroutine := false, more := [] }
def bmB : List Value := [.type "ArithmeticError", .type "Exception", .type "BaseException", .type "object"]
/-- what the written part says of Refused, at C, and of its __init__, at fI -/
structure Txt (K : Frag) (mg : Str → Option Value) (C fI : Addr) : Prop extends Cls0 K mg "Refused" C "pledge" bmB "ArithmeticError.__new__" where
  iC : findIn K (.ref C) "__init__" = some (some (.ref fI))
  tC2 : typeIn K (.ref fI) = some (.type "function")
  fn : ∃ (oc : Value) (od : Option Addr) (doc pm : Value) (an : Option Addr) (cdv ct : Value) (osl : Array (Option Value)) (p1 p2 q1 q2 q3 q4 : Pos),
    K.lookup fI = some ⟨oc, od, .func (fnOf "__init__" "Refused.__init__" (iA p1 p2) (iB q1 q2 q3 q4) iS .none .none doc pm an cdv ct), osl⟩ ∧ codeIn K cdv "Refused.__init__" = true
section
variable {prog : Program} {w : World} {A : Around} {E : Value → Shared → Prop} {R : Result → Shared → Prop} {s : Shared} {K : Frag} {mg : Str → Option Value} {C fI : Addr}
theorem init1 (T : Txt K mg C fI) {x t0 : Addr} {v : Value} (X : K.In s.heap) (hlim : s.heap.NoLimit) (hx : s.heap.get? x = some (excO C t0)) (hnx : K.lookup x = none) (hroom : A.depth < recursionLimit)
    (hq : ∀ h' tk dx, InitEnd "pledge" s.heap h' x C dx t0 v → R (.ok (.ret .none)) { s with heap := h', toks := tk }) :
    codeAny (model prog w) A (.call (.ref fI) ⟨[.ref x, v], []⟩) R s := by
  obtain ⟨oc, od, doc, pm, an, cdv, ct, osl, p1, p2, q1, q2, q3, q4, ho, hcd⟩ := T.fn
  refine Att.call_fn (binds := [("self", .ref x), ("pledge", v)]) X hlim ho hcd hroom (BindsTo.of_eq (by first | rfl | with_unfolding_all rfl)) (by first | rfl | decide | with_unfolding_all rfl) (fun s₁ IC => ?_) rfl rfl rfl
  obtain ⟨h₁, tk₁, rfl⟩ := IC.toInCall.same
  have k : ∀ b o, s.heap.get? b = some o → h₁.get? b = some o := IC.toInCall.keep
  have hn := IC.toInCall.ns
  have X₁ : K.In h₁ := X.keeps k
  have hx₁ := k _ _ hx
  show wpAny _ _ (execs _ _) _ _ _
  refine wpAny_execs_cons (plainObj_wpAny_Assign_Attribute ?_)
  refine ldC (v := v) hn (by first | rfl | with_unfolding_all rfl | kernel_rfl) (ldC (v := .ref x) hn (by first | rfl | with_unfolding_all rfl | kernel_rfl) ?_)
  refine set_plain X₁ (ox := excO C t0) (od := none) ⟨hx₁, rfl, rfl, trivial⟩ T.sa ?_
  refine osa2 PySem.F.store_ArithmeticError X₁ hx₁ T.ov T.hd T.noN (fun h₃ tk₃ dx k₃ dn dne hx₃ hn₃ => ?_)
  show wpAny _ _ (execs _ _) _ _ _
  have z : s.heap.objs.size < h₁.objs.size := hn.lt
  exact wpAny_execs_nil (hq h₃ tk₃ dx ⟨fun b o hb e => k₃ b o hb (k b o e), hx₃, Nat.le_of_lt (Nat.lt_of_lt_of_le z dn), dne, hn₃⟩)
theorem made1 (T : Txt K mg C fI) {v : Value} (X : K.In s.heap) (hlim : s.heap.NoLimit) (hroom : A.depth + 1 < recursionLimit)
    (hq : ∀ h' tk e d, OwnMade "pledge" s.heap h' e C d v → R (.ok (.ret (.ref e))) { s with heap := h', toks := tk }) :
    codeAny (model prog w) A (.call (.ref C) ⟨[v], []⟩) R s :=
  made0 PySem.F.excBase_ArithmeticError T.toCls0 T.iC T.tC2 (fun {A s} x t0 R X hlim hx hnx hroom hq => init1 T X hlim hx hnx hroom hq) X hlim hroom hq
end
end Ref
namespace Unk
open PySem.W PySem.Calls PyProof.Rows PySem.HandSPX
def iA (p1 p2 : Pos) : Arguments := { posonlyargs := [], args := [{ arg := "self", annotation := none, pos := p1 }, { arg := "word", annotation := none, pos := p2 }], vararg := none, kwonlyargs := [], kw_defaults := [], kwarg := none, defaults := [] }
def iB (q1 q2 q3 q4 : Pos) : List Stmt := [.Assign [.Attribute (.Name "self" q1) "word" q2] (.Name "word" q3) q4]
def iS : Scope := { kind := .function, names := [(PySem.Str.ofString "self", .local), (PySem.Str.ofString "word", .local)], isGenerator := false, isCoroutine := false, more := [] }
def bmB : List Value := [.type "KeyError", .type "LookupError", .type "Exception", .type "BaseException", .type "object"]
/-- what the written part says of UnknownName, at C, and of its __init__, at fI -/
structure Txt (K : Frag) (mg : Str → Option Value) (C fI : Addr) : Prop extends Cls0 K mg "UnknownName" C "word" bmB "LookupError.__new__" where
  iC : findIn K (.ref C) "__init__" = some (some (.ref fI))
  tC2 : typeIn K (.ref fI) = some (.type "function")
  fn : ∃ (oc : Value) (od : Option Addr) (doc pm : Value) (an : Option Addr) (cdv ct : Value) (osl : Array (Option Value)) (p1 p2 q1 q2 q3 q4 : Pos),
    K.lookup fI = some ⟨oc, od, .func (fnOf "__init__" "UnknownName.__init__" (iA p1 p2) (iB q1 q2 q3 q4) iS .none .none doc pm an cdv ct), osl⟩ ∧ codeIn K cdv "UnknownName.__init__" = true
section
variable {prog : Program} {w : World} {A : Around} {E : Value → Shared → Prop} {R : Result → Shared → Prop} {s : Shared} {K : Frag} {mg : Str → Option Value} {C fI : Addr}
theorem init1 (T : Txt K mg C fI) {x t0 : Addr} {v : Value} (X : K.In s.heap) (hlim : s.heap.NoLimit) (hx : s.heap.get? x = some (excO C t0)) (hnx : K.lookup x = none) (hroom : A.depth < recursionLimit)
    (hq : ∀ h' tk dx, InitEnd "word" s.heap h' x C dx t0 v → R (.ok (.ret .none)) { s with heap := h', toks := tk }) :
    codeAny (model prog w) A (.call (.ref fI) ⟨[.ref x, v], []⟩) R s := by
  obtain ⟨oc, od, doc, pm, an, cdv, ct, osl, p1, p2, q1, q2, q3, q4, ho, hcd⟩ := T.fn
  refine Att.call_fn (binds := [("self", .ref x), ("word", v)]) X hlim ho hcd hroom (BindsTo.of_eq (by first | rfl | with_unfolding_all rfl)) (by first | rfl | decide | with_unfolding_all rfl) (fun s₁ IC => ?_) rfl rfl rfl
  obtain ⟨h₁, tk₁, rfl⟩ := IC.toInCall.same
  have k : ∀ b o, s.heap.get? b = some o → h₁.get? b = some o := IC.toInCall.keep
  have hn := IC.toInCall.ns
  have X₁ : K.In h₁ := X.keeps k
  have hx₁ := k _ _ hx
  show wpAny _ _ (execs _ _) _ _ _
  refine wpAny_execs_cons (plainObj_wpAny_Assign_Attribute ?_)
  refine ldC (v := v) hn (by first | rfl | with_unfolding_all rfl | kernel_rfl) (ldC (v := .ref x) hn (by first | rfl | with_unfolding_all rfl | kernel_rfl) ?_)
  refine set_plain X₁ (ox := excO C t0) (od := none) ⟨hx₁, rfl, rfl, trivial⟩ T.sa ?_
  refine osa2 PySem.F.store_KeyError X₁ hx₁ T.ov T.hd T.noN (fun h₃ tk₃ dx k₃ dn dne hx₃ hn₃ => ?_)
  show wpAny _ _ (execs _ _) _ _ _
  have z : s.heap.objs.size < h₁.objs.size := hn.lt
  exact wpAny_execs_nil (hq h₃ tk₃ dx ⟨fun b o hb e => k₃ b o hb (k b o e), hx₃, Nat.le_of_lt (Nat.lt_of_lt_of_le z dn), dne, hn₃⟩)
theorem made1 (T : Txt K mg C fI) {v : Value} (X : K.In s.heap) (hlim : s.heap.NoLimit) (hroom : A.depth + 1 < recursionLimit)
    (hq : ∀ h' tk e d, OwnMade "word" s.heap h' e C d v → R (.ok (.ret (.ref e))) { s with heap := h', toks := tk }) :
    codeAny (model prog w) A (.call (.ref C) ⟨[v], []⟩) R s :=
  made0A PySem.F.excBase_LookupError T.toCls0 (by decide +kernel) (by decide +kernel) (by decide +kernel) T.iC T.tC2 (fun {A s} x t0 R X hlim hx hnx hroom hq => init1 T X hlim hx hnx hroom hq) X hlim hroom hq
end
end Unk
end KeepX
end PySem

/-! ## G1 -/
set_option maxRecDepth 100000
set_option maxHeartbeats 2000000
namespace K0
open PySem PySem.Spec PyProof.Rows L2
/-! ### try with several clauses, each with a name or without -/
abbrev Cl : Type := Value × Option Nat × (Addr → Value → Option Addr → TS)
def unS (D : Ends) (i : Nat) : Ends := { nx := fun σ' H' => D.nx (σ'.set i none) H', rt := D.rt, bk := fun σ' H' => D.bk (σ'.set i none) H', ct := fun σ' H' => D.ct (σ'.set i none) H' }
def wCl (K : PySem.W.Frag) (Wo : WX) (D : Ends) : List Cl → WX
  | [] => Wo
  | (c, none, ts) :: r => fun cls d σ H => ∃ b, PySem.W.exmOne K cls c = some b ∧ (b = true → ∀ a, H a = none → ts a cls d D σ H) ∧ (b = false → wCl K Wo D r cls d σ H)
  | (c, some i, ts) :: r => fun cls d σ H => ∃ b, PySem.W.exmOne K cls c = some b ∧ (b = true → ∀ a, H a = none → ts a cls d (unS D i) (σ.set i (some (.ref a))) H) ∧ (b = false → wCl K Wo D r cls d σ H)
inductive ClOk (X : Cx) : List ExceptHandler → List Cl → Prop
  | nil : ClOk X [] []
  | plain {x : Str} {c : Value} {ts : Addr → Value → Option Addr → TS} {b₀ : Stmt} {suite : List Stmt} {np pos' : Pos} {hs : List ExceptHandler} {l : List Cl} (hc : Names X x c)
      (hu : ∀ (a : Addr) (oe : Obj) (cls : Value) (d : Option Addr) (pn : List (Addr × Obj)), Zc cls d oe → (∃ vs, oe.data = .fields vs) → PSs (X.suite a ((a, oe) :: pn)) (b₀ :: suite) (ts a cls d)) (r : ClOk X hs l) :
      ClOk X (.ExceptHandler (some (.Name x np)) none (b₀ :: suite) pos' :: hs) ((c, none, ts) :: l)
  | named {x n : Str} {i : Nat} {c : Value} {ts : Addr → Value → Option Addr → TS} {b₀ : Stmt} {suite : List Stmt} {np pos' : Pos} {hs : List ExceptHandler} {l : List Cl} (hc : Names X x c) (hN : X.N.Nodup) (hi : X.N[i]? = some n) (hln : X.env.kindOf n = some .local)
      (hu : ∀ (a : Addr) (oe : Obj) (cls : Value) (d : Option Addr) (pn : List (Addr × Obj)), Zc cls d oe → (∃ vs, oe.data = .fields vs) → PSs (X.suite a ((a, oe) :: pn)) (b₀ :: suite) (ts a cls d)) (r : ClOk X hs l) :
      ClOk X (.ExceptHandler (some (.Name x np)) (some n) (b₀ :: suite) pos' :: hs) ((c, some i, ts) :: l)
section
variable {X : Cx} {body : List Stmt} {h₀ : ExceptHandler} {hs : List ExceptHandler} {l : List Cl} {pos : Pos} {tb : WX → TS} {Wo : WX}
theorem ps_tryC (hst : X.stack = X.env :: X.outer) (hf : X.env.frame = some X.env.locals) (tk : Takes X Wo)
    (hb : ∀ (W : WX) (pn : List (Addr × Obj)) (xe : Value → Shared → Prop), Takes (X.tr pn xe) W → PassesOwn (model X.prog X.w) X.A X.env xe → PSs (X.tr pn xe) body (tb W))
    (hh : ClOk X (h₀ :: hs) l) : PS X (.Try body (h₀ :: hs) [] [] pos) (fun D σ H => tb (wCl X.K Wo D l) D σ H) := by
  refine ⟨fun pins s σ H D I h => ?_⟩
  have ok := I.ok
  have fr1 : X.A.frames = some (X.env :: X.outer) := by rw [ok.frames, hst]
  refine wpAny_Try_except (wpAny_mono ((hb (wCl X.K Wo D l) (X.pn ++ pins) (fun e y1 => wpAny (model X.prog X.w) X.A (noteFrame e X.env) (fun _ y2 => wpAny (model X.prog X.w) X.A (setFlight e none) (fun _ y3 =>
    wpAny (model X.prog X.w) X.A (handleBy e X.env (h₀ :: hs)) (SP X pins D) X.xe y3) X.xe y2) X.xe y1) (fun u s' xx => ?_) PassesOwn.looking).run [] s σ H D (I.toTry _) h) (fun f s1 hsp => ?_) (fun e s1 he => he))
  · obtain ⟨a, B, sI, pins', σ', H', cls, d, rfl, J', nb, up, sky, na, os, ag, w⟩ := xx
    have J : Inv X pins σ' H' sI := J'.ofTry ok
    have sk : Sky B (X.env :: X.outer) a (Zc cls d) X.env.locals s'.heap := by rw [← hst]; exact sky
    show wpAny (model X.prog X.w) X.A (noteFrame (.ref a) X.env) _ _ _
    refine Sky.land Zc.steady fr1 hf sk fun h3 fl3 up3 => ?_
    have J3 : Inv X pins σ' H' { s' with heap := h3 } := J.landed nb fl3.1 (up.trans up3) os ag
    obtain ⟨oe3, vs3, he3, hz3, hd3⟩ := fl3.there
    have nofrm : ∀ {h : Heap} {o : Obj} {vs : Array Value}, h.FunFrames B (X.env :: X.outer) → h.get? a = some o → o.data = .fields vs → a ∉ frs (X.env :: X.outer) := fun {h o vs} ff e dd hm => by
      obtain ⟨_, o', e', hnf⟩ := ff.mem hm
      rw [e] at e'
      cases e'
      exact hnf _ dd
    have nf0 := nofrm fl3.2.2.1 he3 hd3
    have nL : a ≠ X.env.locals := fun z => nf0 (List.mem_filterMap.mpr ⟨X.env, List.mem_cons_self, by rw [hf, z]⟩)
    have nF : a ∉ X.fs := fun hm => by
      obtain ⟨e, he, q⟩ := List.mem_filterMap.mp hm
      exact nf0 (List.mem_filterMap.mpr ⟨e, List.mem_cons_of_mem _ he, q⟩)
    have S3 := J3.suite he3 hd3 na nL nF
    have LT : PySem.W.Looks (model X.prog X.w) h3 (typeOf (.ref a)) cls := fun A Q E s k q => wpAny_typeOf_ref (k _ _ he3) (by rw [hz3.1]; exact q)
    have tst : ∀ {x : Str} {c : Value} {np : Pos} {Q : Value → Shared → Prop} {E : Value → Shared → Prop}, Names X x c → Q c { s' with heap := h3 } → wpAny (model X.prog X.w) (X.A.mark (some (.ref a))) (eval (.Name x np) X.env) Q E { s' with heap := h3 } := fun {x c np Q E} hc q => by
      obtain ⟨hg, hdbg, hm | ⟨hm, hv, hnn⟩⟩ := hc
      · exact ld_glob (X := X.suite a ((a, oe3) :: (X.pn ++ pins))) S3 hg hm q hdbg
      · exact ld_blt (X := X.suite a ((a, oe3) :: (X.pn ++ pins))) S3 hg hm hv q hnn hdbg
    have go : ∀ {hs2 : List ExceptHandler} {l2 : List Cl}, ClOk X hs2 l2 → wCl X.K Wo D l2 cls d σ' H' → wpAny (model X.prog X.w) X.A (handleBy (.ref a) X.env hs2) (SP X pins D) X.xe { s' with heap := h3 } := by
      intro hs2 l2 hk
      induction hk with
      | nil =>
        intro w
        refine wpAny_handleBy_nil ?_
        obtain ⟨k1, k2, k3, oe, vs, T, oT, ts', he, hz, hd, h1, hr⟩ := id fl3
        unfold PySem.passOn
        refine wpAny_bind (wpAny_field he hd h1 ?_)
        rw [if_neg (show ¬ ((Value.ref T == Value.none) = true) from by simp)]
        have fin : wpAny (model X.prog X.w) X.A (setFlight (.ref a) X.env.frame) (fun _ y4 => wpAny (model X.prog X.w) X.A (throw (.ref a) : Sem Flow) (SP X pins D) X.xe y4) X.xe { s' with heap := h3 } := by
          rw [hf]
          refine HandSPX.setFlight_upZ fl3 fun h4 hh4 up4 => wpAny_throw (tk _ _ ?_)
          exact ⟨a, B, sI, pins, σ', H', cls, d, rfl, J, nb, (up.trans up3).trans up4, .inr (.inr (by rw [hst]; exact hh4)), na, os, ag, w⟩
        first
          | exact wpAny_bind (wpAny_pure (wpAny_bind fin))
          | exact wpAny_bind fin
      | @plain x c ts b₀ suite np pos' hs3 l3 hc hu r ih =>
        intro w
        obtain ⟨b, e1, yes, no⟩ := w
        refine wpAny_handleBy_cons (codeAny_handlers_test ?_) (by intro q; cases q)
        have LM := PySem.W.exm_one (M := model X.prog X.w) (J3.kIn) LT e1
        refine tst hc (LM.here ?_)
        cases b with
        | true =>
          refine codeAny_handlers_suite (HandSPX.lands_againZ fl3 fun h4 fl4 up4 => ?_)
          have J4 : Inv X pins σ' H' { s' with heap := h4 } := J.landed nb fl4.1 ((up.trans up3).trans up4) os ag
          obtain ⟨oe4, vs4, he4, hz4, hd4⟩ := fl4.there
          have S4 := J4.suite he4 hd4 na nL nF
          refine wpAny_mono ((hu a oe4 cls d (X.pn ++ pins) hz4 ⟨_, hd4⟩).run [] _ _ H' _ S4 (yes rfl a na)) (fun f s6 hsp => ?_) (fun _ _ z => False.elim z)
          rcases f with _ | _ | _ | u
          · obtain ⟨σ6, H6, S6, q6⟩ := hsp
            exact ⟨_, _, S6.unsuite ok, q6⟩
          · obtain ⟨σ6, H6, S6, q6⟩ := hsp
            exact ⟨_, _, S6.unsuite ok, q6⟩
          · obtain ⟨σ6, H6, S6, q6⟩ := hsp
            exact ⟨_, _, S6.unsuite ok, q6⟩
          · obtain ⟨v6, σ6, H6, S6, r6, q6⟩ := hsp
            exact ⟨_, _, _, S6.unsuite ok, r6, q6⟩
        | false =>
          show wpAny _ X.A (handleBy (.ref a) X.env hs3) _ _ _
          exact ih (no rfl)
      | @named x n i c ts b₀ suite np pos' hs3 l3 hc hN hi hln hu r ih =>
        intro w
        obtain ⟨b, e1, yes, no⟩ := w
        have hloc : Loc X.env.scope n := .inl hln
        refine wpAny_handleBy_cons (codeAny_handlers_test ?_) (by intro q; cases q)
        have LM := PySem.W.exm_one (M := model X.prog X.w) (J3.kIn) LT e1
        refine tst hc (LM.here ?_)
        cases b with
        | true =>
          refine codeAny_handlers_suite_as (HandSPX.lands_againZ fl3 fun h4 fl4 up4 => ?_)
          have J4 : Inv X pins σ' H' { s' with heap := h4 } := J.landed nb fl4.1 ((up.trans up3).trans up4) os ag
          obtain ⟨oe4, vs4, he4, hz4, hd4⟩ := fl4.there
          have S4 := J4.suite he4 hd4 na nL nF
          refine store_ok (X := X.suite a ((a, oe4) :: (X.pn ++ pins))) (v := .ref a) S4 hN hi hloc rfl (fun s5 S5 => ?_) (.inr hln)
          refine wpAny_mono ((hu a oe4 cls d (X.pn ++ pins) hz4 ⟨_, hd4⟩).run [] s5 _ H' _ S5 (yes rfl a na)) (fun f s6 hsp => ?_) (fun _ _ z => False.elim z)
          have off : ∀ {σ6 : L2.St} {H6 : Hp} {Q : Shared → Prop}, Inv (X.suite a ((a, oe4) :: (X.pn ++ pins))) [] σ6 H6 s6 → (∀ s7, Inv X pins (σ6.set i none) H6 s7 → Q s7) →
              wpAny (model X.prog X.w) X.A (do bindName X.env n .none; unbindBehindTheSuite X.env n pos') (fun _ s7 => Q s7) X.xe s6 := fun {σ6 H6 Q} S6 hq => gone_ok (S6.unsuite ok) hN hi hln hq
          rcases f with _ | _ | _ | u
          · obtain ⟨σ6, H6, S6, q6⟩ := hsp
            exact off S6 fun s7 J7 => ⟨_, _, J7, q6⟩
          · obtain ⟨σ6, H6, S6, q6⟩ := hsp
            exact off S6 fun s7 J7 => ⟨_, _, J7, q6⟩
          · obtain ⟨σ6, H6, S6, q6⟩ := hsp
            exact off S6 fun s7 J7 => ⟨_, _, J7, q6⟩
          · obtain ⟨v6, σ6, H6, S6, r6, q6⟩ := hsp
            exact off S6 fun s7 J7 => ⟨_, _, _, J7, r6, q6⟩
        | false =>
          show wpAny _ X.A (handleBy (.ref a) X.env hs3) _ _ _
          exact ih (no rfl)
    exact go hh w
  · rcases f with _ | _ | _ | u
    · obtain ⟨σ', H', J', q⟩ := hsp
      exact wpAny_execs_nil ⟨σ', H', J'.ofTry ok, q⟩
    · obtain ⟨σ', H', J', q⟩ := hsp
      exact ⟨σ', H', J'.ofTry ok, q⟩
    · obtain ⟨σ', H', J', q⟩ := hsp
      exact ⟨σ', H', J'.ofTry ok, q⟩
    · obtain ⟨v, σ', H', J', r, q⟩ := hsp
      exact ⟨v, σ', H', J'.ofTry ok, r, q⟩
end
end K0

/-! ## G2 -/
set_option maxRecDepth 100000
set_option maxHeartbeats 2000000
namespace K0
open PySem L2
abbrev sMet : Stmt := top 53
structure TMe (K : PySem.W.Frag) (mg : Str → Option Value) (CN CO : Addr) : Prop where
  repr : mg "repr" = none
  gN : mg "InvalidNumber" = some (.ref CN)
  gO : mg "InvalidOperation" = some (.ref CO)
  xf : XfC K CN
  noN : PySem.W.findIn K (.ref CN) "value" = some none
  eNN : PySem.W.exmOne K (.ref CN) (.ref CN) = some true
  eON : PySem.W.exmOne K (.ref CO) (.ref CN) = some false
  eOO : PySem.W.exmOne K (.ref CO) (.ref CO) = some true
theorem pss_len {X : Cx} {b : List Stmt} {t : TS} (n : Nat) (hn : X.N.length = n) (h : PSs X b t) : PSs X b (fun D σ H => σ.length = n → t D σ H) := ⟨fun pins s σ H D I z => h.run pins s σ H D I (z (I.len.trans hn))⟩
theorem set_at {σ : L2.St} {i : Nat} {x : Option V} (h : i < σ.length) : (σ.set i x)[i]? = some x := by rw [List.getElem?_set_self h]
/-- what met makes of an error -/
def wMet (K : PySem.W.Frag) (CN CO : Addr) (Q : VK) : XK := fun cls d H =>
  (∃ dd v pd, cls = .ref CN ∧ d = some dd ∧ H dd = some (.xd [("value", v)]) ∧ Dq K H v pd ∧ pd.showable = true ∧ pd.depth ≤ 20 ∧ pd.shown.length ≤ 900 ∧ Q (.str (("number " : Str) ++ pd.shown)) H) ∨ (cls = .ref CO ∧ Q (.str "operation") H)
def TTmet (K : PySem.W.Frag) (CN CO : Addr) : (XK → Hp → VK → Prop) → Hp → VK → Prop := fun tl H Q => tl (wMet K CN CO Q) H (fun _ H' => Q (.str "") H')
theorem scMet : FnScope ["_law_call", "e"] ["_law_call"] (defScope sMet) := ⟨rfl, rfl, rfl, by decide +kernel, rfl, by decide +kernel, by decide +kernel⟩
theorem met_gives {X : Cx} {g CN CO : Addr} {cdg : Value} {q : Str} (T : TMe X.K X.mg CN CO) (hgd : X.A.guards = some []) (hu : X.A.units + 200 < cLine) :
    LamX.GivesTo X ["_law_call", "e"] "_law_met" (defScope sMet) g cdg (defBody sMet) "_law_call" q (TTmet X.K CN CO) := by
  intro f c' s H Q tl act hc h
  refine ⟨_, pss_cons (ps_tryC (X := (cxOf C8.CX0 X.prog X.w X.K X.mg X.base ["_law_call", "e"] "_law_met" (defScope sMet) g cdg X.A X.stack s H C8.E0).nox)
      (tb := fun W D σ H => ∃ Ech : XK, (∀ cls d σ' H', Ech cls d H' → W cls d σ' H') ∧ σ[0]? = some (some (.ref f)) ∧ H c' = some (LamX.CodeO c' q) ∧ tl Ech H (fun _ H2 => D.nx σ H2))
      rfl rfl LamX.takes0 (fun W pn xe tk _ => ?_)
      (ClOk.named (i := 1) ⟨rfl, by decide, .inl T.gN⟩ scMet.nd rfl rfl (fun a oe cls d pn hz hf => pss_len 2 rfl (pss_one (ps_ret (pe_op op_add_str pe_str (pe_callB (id := "repr") (r := rRepr X.K) (cr_repr hgd (by show X.A.units + 3 + 64 < cLine; omega)) (by rfl) T.repr (by decide +kernel) (pa_cons (pe_xf T.xf T.noN hz hf (pv 1)) pa_nil))))))
      (ClOk.plain ⟨rfl, by decide, .inl T.gO⟩ (fun a oe cls d pn hz hf => pss_one (ps_ret pe_str)) .nil)))
    (pss_one (ps_ret pe_str)), ?_⟩
  · refine ⟨fun pins s' σ H' D I h' => ?_⟩
    obtain ⟨Ech, hW, h1, h2, h3⟩ := h'
    have hp := act W pn xe Ech ⟨146, 8, 146, 17⟩ ⟨146, 8, 146, 19⟩ tk hW
    exact (pss_one (ps_expr (pos := ⟨146, 8, 146, 19⟩) hp)).run pins s' σ H' D I ⟨h1, h2, h3⟩
  · refine ⟨wMet X.K CN CO Q, fun cls d σ' H' hw => ?_, rfl, hc, h⟩
    rcases hw with ⟨dd, v, pd, rfl, rfl, e1, e2, e3, e4, e5, e6⟩ | ⟨rfl, e6⟩
    · refine ⟨true, T.eNN, fun _ a _ => ?_, fun z => nomatch z⟩
      intro hlen
      have hl2 : 1 < σ'.length := by
        rw [List.length_set] at hlen
        omega
      refine ⟨V.ref a, set_at hl2, rfl, rfl, dd, _, v, rfl, e1, rfl, v, pd, rfl, e2, e3, e4, by omega, _, _, rfl, rfl, ?_, e6⟩
      have z : ("number " : Str).length = 7 := by decide
      rw [z]
      exact Nat.le_of_lt (small1000 (by omega))
    · exact ⟨false, T.eON, (fun z => by cases z), fun _ => ⟨true, T.eOO, fun _ a _ => e6, fun z => by cases z⟩⟩
end K0

/-! ## G3 -/
set_option maxRecDepth 100000
set_option maxHeartbeats 2000000
namespace K0
open PySem PySem.Spec PyProof.Rows L2
/-- z, or nothing -/
def rep (b : Bool) (z : Str) : Str := if b = true then z else Str.empty
theorem rep_len (b : Bool) (z : Str) : (rep b z).length ≤ z.length := by
  cases b with
  | true => exact Nat.le_refl _
  | false => exact Nat.zero_le _
theorem app_len (x y : Str) : (x ++ y).length = x.length + y.length := by
  show (x.cps ++ y.cps).size = _
  rw [Array.size_append]
  rfl
theorem mul_rep (b : Bool) (z : Str) : Txt.mul z (if b = true then 1 else 0) = rep b z := by
  cases b with
  | true => rfl
  | false => rfl
section
variable {X : Cx}
theorem op_mulB : OpR X (binaryOp .Mult) (fun x y H Q => ∃ (z : Str) (b : Bool), x = .str z ∧ y = .int (if b = true then 1 else 0) ∧ Q (.str (rep b z)) H) := by
  intro pins s σ H x y v u Q I rx ry h
  obtain ⟨z, b, rfl, rfl, q⟩ := h
  obtain ⟨t, rfl⟩ := rx
  obtain ⟨t2, rfl⟩ := ry
  refine SB.mul ⟨?_, fun h1 h2 => ?_, fun h1 h2 => ?_⟩ fun t' k => ⟨.str (rep b z), H, I.tok _, ⟨t', by rw [mul_rep]⟩, q⟩
  · cases b <;> decide
  · cases b with
    | true => exact Bool.noConfusion h2
    | false => exact absurd (by decide) h1
  · cases b with
    | true => exact Bool.noConfusion h2
    | false => exact absurd (by decide) h1
/-- the value at a is an exception of the own class D -/
def IsE (X : Cx) (a D : Addr) (H : Hp) : Prop := ∀ (pins : List (Addr × Obj)) (σ : L2.St) (s : Shared), Inv X pins σ H s → ∃ ox od, PySem.W.InstAt s.heap a ox D od
def rIsV (X : Cx) : List V → Hp → VK → Prop := fun xs H Q => ∃ (a D : Addr) (c : V) (cv : Value) (b : Bool), xs = [.ref a, c] ∧ IsE X a D H ∧ ExcC X.K D ∧ (∀ u, RelV c u → u = cv) ∧ PySem.W.kitOne X.K (.ref D) cv = some b ∧ Q (.bl b) H
theorem call_isV : CallR X (.builtin "isinstance") (rIsV X) := by
  intro pins s σ H xs us Q I r h
  obtain ⟨a, D, c, cv, b, rfl, hi, C, hcv, e, q⟩ := h
  obtain ⟨ox, od, J⟩ := hi pins σ s I
  cases r with
  | cons rx rr =>
    cases rr with
    | cons rt rr =>
      cases rr
      cases rx
      have ec := hcv _ rt
      subst ec
      have hcl : (PySem.W.clsIn X.K D).isSome = true := by
        obtain ⟨cd, hc, _⟩ := PySem.W.any_some C.hd
        rw [hc]
        rfl
      exact PySem.W.kia_one (PySem.W.kitx_exc hcl C.hg C.hk C.hs C.ha C.hn C.ht C.hm) I.kIn J e (fun z => nomatch z) fun tk => ⟨.bl b, H, I.kept (t' := tk) fun _ _ z => z, rfl, q⟩
end
/-- the reading of one letter -/
def tLet (X : Cx) (z : Str) (cv : Value) : TE := fun σ H Q => ∃ (a D : Addr) (b : Bool), σ[0]? = some (some (.ref a)) ∧ IsE X a D H ∧ ExcC X.K D ∧ PySem.W.kitOne X.K (.ref D) cv = some b ∧ Q (.str (rep b z)) H
theorem pe_mono {X : Cx} {e : Expr} {t u : TE} (h : PE X e t) (i : ∀ σ H Q, u σ H Q → t σ H Q) : PE X e u := ⟨fun pins s σ H Q I z => h.run pins s σ H Q I (i σ H Q z)⟩
section
variable {X : Cx} {e0 x : Str} {z : Str} {j : Nat} {p1 p2 p3 p4 p5 p6 p7 p8 : Pos} {C : Addr} {T : String}
theorem pe_let (hN : X.N[0]? = some e0) (hv : Vis X.env.scope e0) (gI : Gl X "isinstance") (mI : X.mg "isinstance" = none) (gi : Gl X "int") (mi : X.mg "int" = none) (hx : Gl X x) (hm : X.mg x = some (.ref C)) (hd : (e0 == ("__debug__" : Str)) = false := by decide)
    (hcd : (e0 == ("__classdict__" : Str)) = false := by decide) (hdb : (x == ("__debug__" : Str)) = false := by decide) :
    PE X (.BinOp (.Constant (.str z) j p1) .Mult (.Call (.Name "int" p2) [.Call (.Name "isinstance" p3) [.Name e0 p4, .Name x p5] [] p6] [] p7) p8) (tLet X z (.ref C)) := by
  have P : PE X (.BinOp (.Constant (.str z) j p1) .Mult (.Call (.Name "int" p2) [.Call (.Name "isinstance" p3) [.Name e0 p4, .Name x p5] [] p6] [] p7) p8) _ :=
    pe_op op_mulB pe_str (pe_callTy call_int1 gi mi (by decide +kernel) (pa_cons (pe_callB (id := "isinstance") (r := rIsV X) call_isV gI mI (by decide +kernel) (pa_cons (pe_var (i := 0) hN hv hd hcd) (pa_cons (pe_glob (v := .ref C) hx hm rfl hdb) pa_nil))) pa_nil))
  exact pe_mono P fun σ H Q ⟨a, D, b, e1, e2, e3, e4, e5⟩ => ⟨_, e1, a, D, _, _, b, rfl, e2, e3, fun u r => r, e4, .inr ⟨b, rfl, z, b, rfl, rfl, e5⟩⟩
theorem pe_letT (hN : X.N[0]? = some e0) (hv : Vis X.env.scope e0) (gI : Gl X "isinstance") (mI : X.mg "isinstance" = none) (gi : Gl X "int") (mi : X.mg "int" = none) (hx : Gl X x) (hm : X.mg x = none) (hb : bootBuiltins x = some (.type T)) (hd : (e0 == ("__debug__" : Str)) = false := by decide)
    (hcd : (e0 == ("__classdict__" : Str)) = false := by decide) (hdb : (x == ("__debug__" : Str)) = false := by decide) (hn : x ≠ "__name__" := by decide) :
    PE X (.BinOp (.Constant (.str z) j p1) .Mult (.Call (.Name "int" p2) [.Call (.Name "isinstance" p3) [.Name e0 p4, .Name x p5] [] p6] [] p7) p8) (tLet X z (.type T)) := by
  have P : PE X (.BinOp (.Constant (.str z) j p1) .Mult (.Call (.Name "int" p2) [.Call (.Name "isinstance" p3) [.Name e0 p4, .Name x p5] [] p6] [] p7) p8) _ :=
    pe_op op_mulB pe_str (pe_callTy call_int1 gi mi (by decide +kernel) (pa_cons (pe_callB (id := "isinstance") (r := rIsV X) call_isV gI mI (by decide +kernel) (pa_cons (pe_var (i := 0) hN hv hd hcd) (pa_cons (pe_bltn (v := .ty T) hx hm hb rfl hn hdb) pa_nil))) pa_nil))
  exact pe_mono P fun σ H Q ⟨a, D, b, e1, e2, e3, e4, e5⟩ => ⟨_, e1, a, D, _, _, b, rfl, e2, e3, fun u r => r, e4, .inr ⟨b, rfl, z, b, rfl, rfl, e5⟩⟩
end
end K0

/-! ## G4 -/
set_option maxRecDepth 100000
set_option maxHeartbeats 4000000
namespace K0
open PySem PySem.Spec PyProof.Rows L2
abbrev sFst : Stmt := top 58
abbrev sSnd : Stmt := top 59
abbrev sKin : Stmt := top 60
abbrev sAll : Stmt := top 61
/-- which of the classes is over which: 0 to 19 those with a message, 20 to 26 those that keep something, 27 the base -/
def tabE (i j : Nat) : Bool := i == j || (j == 27 && i < 21)
/-- Python's own: ValueError, KeyError, IndexError, LookupError, RuntimeError, OverflowError, ArithmeticError -/
def tabT (i j : Nat) : Bool := (j == 0 && (i < 21 || i == 27)) || (j == 1 && i == 21) || (j == 2 && i == 23) || (j == 3 && (i == 21 || i == 22 || i == 23)) || (j == 4 && i == 24) || (j == 5 && i == 25) || (j == 6 && (i == 25 || i == 26))
def btn (j : Nat) : String := match j with
  | 0 => "ValueError"
  | 1 => "KeyError"
  | 2 => "IndexError"
  | 3 => "LookupError"
  | 4 => "RuntimeError"
  | 5 => "OverflowError"
  | 6 => "ArithmeticError"
  | _ => "object"
structure EC (K : PySem.W.Frag) (mg : Str → Option Value) (ca : Nat → Addr) : Prop where
  isi : mg "isinstance" = none
  int : mg "int" = none
  g0 : mg "InvalidQuestion" = some (.ref (ca 0))
  g1 : mg "InvalidClause" = some (.ref (ca 1))
  g2 : mg "InvalidStore" = some (.ref (ca 2))
  g3 : mg "InvalidTable" = some (.ref (ca 3))
  g4 : mg "InvalidRow" = some (.ref (ca 4))
  g5 : mg "InvalidReading" = some (.ref (ca 5))
  g6 : mg "InvalidMap" = some (.ref (ca 6))
  g7 : mg "InvalidKnot" = some (.ref (ca 7))
  g8 : mg "InvalidProgram" = some (.ref (ca 8))
  g9 : mg "InvalidOrder" = some (.ref (ca 9))
  g10 : mg "InvalidBags" = some (.ref (ca 10))
  g11 : mg "InvalidLine" = some (.ref (ca 11))
  g12 : mg "InvalidScheme" = some (.ref (ca 12))
  g13 : mg "InvalidRule" = some (.ref (ca 13))
  g14 : mg "InvalidSplit" = some (.ref (ca 14))
  g15 : mg "InvalidForest" = some (.ref (ca 15))
  g16 : mg "InvalidSizes" = some (.ref (ca 16))
  g17 : mg "InvalidKeys" = some (.ref (ca 17))
  g18 : mg "InvalidWeights" = some (.ref (ca 18))
  g19 : mg "InvalidOperation" = some (.ref (ca 19))
  g20 : mg "ParseError" = some (.ref (ca 20))
  g21 : mg "UnknownName" = some (.ref (ca 21))
  g22 : mg "NotLayered" = some (.ref (ca 22))
  g23 : mg "InvalidNumber" = some (.ref (ca 23))
  g24 : mg "NothingToUndo" = some (.ref (ca 24))
  g25 : mg "TooMany" = some (.ref (ca 25))
  g26 : mg "Refused" = some (.ref (ca 26))
  g27 : mg "JoinError" = some (.ref (ca 27))
  b0 : mg "ValueError" = none
  b1 : mg "KeyError" = none
  b2 : mg "IndexError" = none
  b3 : mg "LookupError" = none
  b4 : mg "RuntimeError" = none
  b5 : mg "OverflowError" = none
  b6 : mg "ArithmeticError" = none
  exc : ∀ i, i < 28 → ExcC K (ca i)
  kE : ∀ i j, i < 28 → j < 28 → PySem.W.kitOne K (.ref (ca i)) (.ref (ca j)) = some (tabE i j)
  kT : ∀ i j, i < 28 → j < 7 → PySem.W.kitOne K (.ref (ca i)) (.type (btn j)) = some (tabT i j)
def txF (i : Nat) : Str := rep (tabE i 0) "a" ++ rep (tabE i 1) "b" ++ rep (tabE i 2) "c" ++ rep (tabE i 3) "d" ++ rep (tabE i 4) "e" ++ rep (tabE i 5) "f" ++ rep (tabE i 6) "g" ++ rep (tabE i 7) "h" ++ rep (tabE i 8) "i" ++ rep (tabE i 9) "j"
def txS (i : Nat) : Str := rep (tabE i 10) "k" ++ rep (tabE i 11) "l" ++ rep (tabE i 12) "m" ++ rep (tabE i 13) "n" ++ rep (tabE i 14) "o" ++ rep (tabE i 15) "p" ++ rep (tabE i 16) "q" ++ rep (tabE i 17) "r" ++ rep (tabE i 18) "s" ++ rep (tabE i 19) "t"
def txK (i : Nat) : Str := rep (tabE i 20) "P" ++ rep (tabE i 21) "U" ++ rep (tabE i 22) "L" ++ rep (tabE i 23) "N" ++ rep (tabE i 24) "Z" ++ rep (tabE i 25) "M" ++ rep (tabE i 26) "R" ++ rep (tabE i 27) " join" ++ rep (tabT i 0) " value" ++ rep (tabT i 1) " key" ++ rep (tabT i 2) " index" ++ rep (tabT i 3) " lookup" ++ rep (tabT i 4) " runtime" ++ rep (tabT i 5) " overflow" ++ rep (tabT i 6) " arithmetic"
def txA (i : Nat) : Str := txF i ++ txS i ++ txK i
/-- an own exception, held as a value, that keeps something in its dict d -/
def ExD (C d a : Addr) : HO := .ext fun h => ∃ t1 : Addr, h.get? a = some { cls := .ref C, dict := some d, data := .fields #[.ref t1, .none, .none, .none, .bool false, .none] }
theorem exD_ok {P : Program} {w : World} {H : Hp} {h : Heap} {a C d t1 : Addr} (e : h.get? a = some { cls := .ref C, dict := some d, data := .fields #[.ref t1, .none, .none, .none, .bool false, .none] }) : ObjOk P w H h a (ExD C d a) :=
  ⟨⟨t1, e⟩, ⟨_, e⟩, fun _ _ ⟨t, q⟩ k => ⟨t, k _ q⟩⟩
def EvH (H : Hp) (a D : Addr) : Prop := H a = some (ExO (.ref D) a) ∨ ∃ (d : Addr) (fs : List (Str × V)), H a = some (ExD D d a) ∧ H d = some (.xd fs)
theorem EvH.same {H H' : Hp} {a D : Addr} (h : EvH H a D) (s : Same H H') : EvH H' a D := by
  rcases h with h | ⟨d, fs, h1, h2⟩
  · exact .inl (s _ _ h)
  · exact .inr ⟨d, fs, s _ _ h1, s _ _ h2⟩
theorem isE_of {X : Cx} {a D : Addr} {H : Hp} (h : EvH H a D) : IsE X a D H := by
  intro pins σ s I
  rcases h with h | ⟨d, fs, h1, h2⟩
  · obtain ⟨⟨oe, vs, hg, hz, hd, _⟩, _, _⟩ := I.hok a _ h
    refine ⟨oe, none, ?_⟩
    obtain ⟨oc, od, oda, osl⟩ := oe
    obtain ⟨z1, z2⟩ := hz
    dsimp only at z1 z2 hd
    subst z1 z2 hd
    exact ⟨hg, rfl, rfl, trivial⟩
  · obtain ⟨⟨t1, hg⟩, _, _⟩ := I.hok a _ h1
    have hx : ObjOk X.prog X.w H s.heap d (.xd fs) := I.hok d _ h2
    obtain ⟨mA, hns, _⟩ := hx
    obtain ⟨od, ho, _⟩ := lookIn_ns hns
    exact ⟨_, some od, hg, rfl, rfl, ho⟩
def spErr (tx : Nat → Str) (ca : Nat → Addr) : Sp := fun vs H Q _ => ∃ (a : Addr) (i : Nat), vs = [.ref a] ∧ i < 28 ∧ EvH H a (ca i) ∧ Q (.str (tx i)) H
section
variable {P : Program} {w : World} {K : PySem.W.Frag} {mg : Str → Option Value} {base : Heap} {ca : Nat → Addr}
theorem scFst : FnScope ["_law_error", "_law_found"] ["_law_error"] (defScope sFst) := ⟨rfl, rfl, rfl, by decide +kernel, rfl, by decide +kernel, by decide +kernel⟩
theorem scSnd : FnScope ["_law_error", "_law_found"] ["_law_error"] (defScope sSnd) := ⟨rfl, rfl, rfl, by decide +kernel, rfl, by decide +kernel, by decide +kernel⟩
theorem scKin : FnScope ["_law_error", "_law_found"] ["_law_error"] (defScope sKin) := ⟨rfl, rfl, rfl, by decide +kernel, rfl, by decide +kernel, by decide +kernel⟩
theorem ok_fst {f : Addr} {fd : FuncData} (F : Fun K "_law_first_half" "_law_first_half" sFst f fd) (T : EC K mg ca) : FnOk P w K mg base CX0 1 f fd ["_law_error"] (spErr txF ca) := by
  refine F.ok scFst (fun vs H Q E h => ?_) (fun cdv A outer s H vs Q E hr h => ?_)
  · obtain ⟨a, i, rfl, _⟩ := h
    rfl
  · obtain ⟨a, i, rfl, h28, ev, k⟩ := h
    have he := T.exc i h28
    have hi : ∀ {X : Cx}, IsE X a (ca i) H := isE_of ev
    refine ⟨_, pss_cons (ps_set (i := 1) scFst.nd rfl (Or.inl rfl) (pe_op op_add_str (pe_let (x := "InvalidQuestion") rfl (.inl rfl) rfl T.isi rfl T.int rfl (T.g0)) (pe_let (x := "InvalidClause") rfl (.inl rfl) rfl T.isi rfl T.int rfl (T.g1))))
      (pss_cons (ps_set (i := 1) scFst.nd rfl (Or.inl rfl) (pe_op op_add_str (pe_op op_add_str (pv 1) (pe_let (x := "InvalidStore") rfl (.inl rfl) rfl T.isi rfl T.int rfl (T.g2))) (pe_let (x := "InvalidTable") rfl (.inl rfl) rfl T.isi rfl T.int rfl (T.g3))))
      (pss_cons (ps_set (i := 1) scFst.nd rfl (Or.inl rfl) (pe_op op_add_str (pe_op op_add_str (pv 1) (pe_let (x := "InvalidRow") rfl (.inl rfl) rfl T.isi rfl T.int rfl (T.g4))) (pe_let (x := "InvalidReading") rfl (.inl rfl) rfl T.isi rfl T.int rfl (T.g5))))
      (pss_cons (ps_set (i := 1) scFst.nd rfl (Or.inl rfl) (pe_op op_add_str (pe_op op_add_str (pv 1) (pe_let (x := "InvalidMap") rfl (.inl rfl) rfl T.isi rfl T.int rfl (T.g6))) (pe_let (x := "InvalidKnot") rfl (.inl rfl) rfl T.isi rfl T.int rfl (T.g7))))
      (pss_one (ps_ret (pe_op op_add_str (pe_op op_add_str (pv 1) (pe_let (x := "InvalidProgram") rfl (.inl rfl) rfl T.isi rfl T.int rfl (T.g8))) (pe_let (x := "InvalidOrder") rfl (.inl rfl) rfl T.isi rfl T.int rfl (T.g9)))))))), ?_⟩
    have l0 : (rep (tabE i 0) "a").length ≤ 1 := rep_len _ _
    have l1 : (rep (tabE i 1) "b").length ≤ 1 := rep_len _ _
    have l2 : (rep (tabE i 2) "c").length ≤ 1 := rep_len _ _
    have l3 : (rep (tabE i 3) "d").length ≤ 1 := rep_len _ _
    have l4 : (rep (tabE i 4) "e").length ≤ 1 := rep_len _ _
    have l5 : (rep (tabE i 5) "f").length ≤ 1 := rep_len _ _
    have l6 : (rep (tabE i 6) "g").length ≤ 1 := rep_len _ _
    have l7 : (rep (tabE i 7) "h").length ≤ 1 := rep_len _ _
    have l8 : (rep (tabE i 8) "i").length ≤ 1 := rep_len _ _
    have l9 : (rep (tabE i 9) "j").length ≤ 1 := rep_len _ _
    refine ⟨a, _, _, rfl, hi, he, (T.kE i 0 h28 (by decide)), a, _, _, rfl, hi, he, (T.kE i 1 h28 (by decide)), _, _, rfl, rfl, Nat.le_of_lt (small1000 (by first | omega | (simp only [app_len]; omega))), ?_⟩
    refine ⟨_, rfl, a, _, _, rfl, hi, he, (T.kE i 2 h28 (by decide)), _, _, rfl, rfl, Nat.le_of_lt (small1000 (by first | omega | (simp only [app_len]; omega))), ?_⟩
    refine ⟨a, _, _, rfl, hi, he, (T.kE i 3 h28 (by decide)), _, _, rfl, rfl, Nat.le_of_lt (small1000 (by first | omega | (simp only [app_len]; omega))), ?_⟩
    refine ⟨_, rfl, a, _, _, rfl, hi, he, (T.kE i 4 h28 (by decide)), _, _, rfl, rfl, Nat.le_of_lt (small1000 (by first | omega | (simp only [app_len]; omega))), ?_⟩
    refine ⟨a, _, _, rfl, hi, he, (T.kE i 5 h28 (by decide)), _, _, rfl, rfl, Nat.le_of_lt (small1000 (by first | omega | (simp only [app_len]; omega))), ?_⟩
    refine ⟨_, rfl, a, _, _, rfl, hi, he, (T.kE i 6 h28 (by decide)), _, _, rfl, rfl, Nat.le_of_lt (small1000 (by first | omega | (simp only [app_len]; omega))), ?_⟩
    refine ⟨a, _, _, rfl, hi, he, (T.kE i 7 h28 (by decide)), _, _, rfl, rfl, Nat.le_of_lt (small1000 (by first | omega | (simp only [app_len]; omega))), ?_⟩
    refine ⟨_, rfl, a, _, _, rfl, hi, he, (T.kE i 8 h28 (by decide)), _, _, rfl, rfl, Nat.le_of_lt (small1000 (by first | omega | (simp only [app_len]; omega))), ?_⟩
    refine ⟨a, _, _, rfl, hi, he, (T.kE i 9 h28 (by decide)), _, _, rfl, rfl, Nat.le_of_lt (small1000 (by first | omega | (simp only [app_len]; omega))), ?_⟩
    exact k
theorem ok_snd {f : Addr} {fd : FuncData} (F : Fun K "_law_second_half" "_law_second_half" sSnd f fd) (T : EC K mg ca) : FnOk P w K mg base CX0 1 f fd ["_law_error"] (spErr txS ca) := by
  refine F.ok scSnd (fun vs H Q E h => ?_) (fun cdv A outer s H vs Q E hr h => ?_)
  · obtain ⟨a, i, rfl, _⟩ := h
    rfl
  · obtain ⟨a, i, rfl, h28, ev, k⟩ := h
    have he := T.exc i h28
    have hi : ∀ {X : Cx}, IsE X a (ca i) H := isE_of ev
    refine ⟨_, pss_cons (ps_set (i := 1) scSnd.nd rfl (Or.inl rfl) (pe_op op_add_str (pe_let (x := "InvalidBags") rfl (.inl rfl) rfl T.isi rfl T.int rfl (T.g10)) (pe_let (x := "InvalidLine") rfl (.inl rfl) rfl T.isi rfl T.int rfl (T.g11))))
      (pss_cons (ps_set (i := 1) scSnd.nd rfl (Or.inl rfl) (pe_op op_add_str (pe_op op_add_str (pv 1) (pe_let (x := "InvalidScheme") rfl (.inl rfl) rfl T.isi rfl T.int rfl (T.g12))) (pe_let (x := "InvalidRule") rfl (.inl rfl) rfl T.isi rfl T.int rfl (T.g13))))
      (pss_cons (ps_set (i := 1) scSnd.nd rfl (Or.inl rfl) (pe_op op_add_str (pe_op op_add_str (pv 1) (pe_let (x := "InvalidSplit") rfl (.inl rfl) rfl T.isi rfl T.int rfl (T.g14))) (pe_let (x := "InvalidForest") rfl (.inl rfl) rfl T.isi rfl T.int rfl (T.g15))))
      (pss_cons (ps_set (i := 1) scSnd.nd rfl (Or.inl rfl) (pe_op op_add_str (pe_op op_add_str (pv 1) (pe_let (x := "InvalidSizes") rfl (.inl rfl) rfl T.isi rfl T.int rfl (T.g16))) (pe_let (x := "InvalidKeys") rfl (.inl rfl) rfl T.isi rfl T.int rfl (T.g17))))
      (pss_one (ps_ret (pe_op op_add_str (pe_op op_add_str (pv 1) (pe_let (x := "InvalidWeights") rfl (.inl rfl) rfl T.isi rfl T.int rfl (T.g18))) (pe_let (x := "InvalidOperation") rfl (.inl rfl) rfl T.isi rfl T.int rfl (T.g19)))))))), ?_⟩
    have l0 : (rep (tabE i 10) "k").length ≤ 1 := rep_len _ _
    have l1 : (rep (tabE i 11) "l").length ≤ 1 := rep_len _ _
    have l2 : (rep (tabE i 12) "m").length ≤ 1 := rep_len _ _
    have l3 : (rep (tabE i 13) "n").length ≤ 1 := rep_len _ _
    have l4 : (rep (tabE i 14) "o").length ≤ 1 := rep_len _ _
    have l5 : (rep (tabE i 15) "p").length ≤ 1 := rep_len _ _
    have l6 : (rep (tabE i 16) "q").length ≤ 1 := rep_len _ _
    have l7 : (rep (tabE i 17) "r").length ≤ 1 := rep_len _ _
    have l8 : (rep (tabE i 18) "s").length ≤ 1 := rep_len _ _
    have l9 : (rep (tabE i 19) "t").length ≤ 1 := rep_len _ _
    refine ⟨a, _, _, rfl, hi, he, (T.kE i 10 h28 (by decide)), a, _, _, rfl, hi, he, (T.kE i 11 h28 (by decide)), _, _, rfl, rfl, Nat.le_of_lt (small1000 (by first | omega | (simp only [app_len]; omega))), ?_⟩
    refine ⟨_, rfl, a, _, _, rfl, hi, he, (T.kE i 12 h28 (by decide)), _, _, rfl, rfl, Nat.le_of_lt (small1000 (by first | omega | (simp only [app_len]; omega))), ?_⟩
    refine ⟨a, _, _, rfl, hi, he, (T.kE i 13 h28 (by decide)), _, _, rfl, rfl, Nat.le_of_lt (small1000 (by first | omega | (simp only [app_len]; omega))), ?_⟩
    refine ⟨_, rfl, a, _, _, rfl, hi, he, (T.kE i 14 h28 (by decide)), _, _, rfl, rfl, Nat.le_of_lt (small1000 (by first | omega | (simp only [app_len]; omega))), ?_⟩
    refine ⟨a, _, _, rfl, hi, he, (T.kE i 15 h28 (by decide)), _, _, rfl, rfl, Nat.le_of_lt (small1000 (by first | omega | (simp only [app_len]; omega))), ?_⟩
    refine ⟨_, rfl, a, _, _, rfl, hi, he, (T.kE i 16 h28 (by decide)), _, _, rfl, rfl, Nat.le_of_lt (small1000 (by first | omega | (simp only [app_len]; omega))), ?_⟩
    refine ⟨a, _, _, rfl, hi, he, (T.kE i 17 h28 (by decide)), _, _, rfl, rfl, Nat.le_of_lt (small1000 (by first | omega | (simp only [app_len]; omega))), ?_⟩
    refine ⟨_, rfl, a, _, _, rfl, hi, he, (T.kE i 18 h28 (by decide)), _, _, rfl, rfl, Nat.le_of_lt (small1000 (by first | omega | (simp only [app_len]; omega))), ?_⟩
    refine ⟨a, _, _, rfl, hi, he, (T.kE i 19 h28 (by decide)), _, _, rfl, rfl, Nat.le_of_lt (small1000 (by first | omega | (simp only [app_len]; omega))), ?_⟩
    exact k
theorem ok_kin {f : Addr} {fd : FuncData} (F : Fun K "_law_kinds" "_law_kinds" sKin f fd) (T : EC K mg ca) : FnOk P w K mg base CX0 1 f fd ["_law_error"] (spErr txK ca) := by
  refine F.ok scKin (fun vs H Q E h => ?_) (fun cdv A outer s H vs Q E hr h => ?_)
  · obtain ⟨a, i, rfl, _⟩ := h
    rfl
  · obtain ⟨a, i, rfl, h28, ev, k⟩ := h
    have he := T.exc i h28
    have hi : ∀ {X : Cx}, IsE X a (ca i) H := isE_of ev
    refine ⟨_, pss_cons (ps_set (i := 1) scKin.nd rfl (Or.inl rfl) (pe_op op_add_str (pe_let (x := "ParseError") rfl (.inl rfl) rfl T.isi rfl T.int rfl (T.g20)) (pe_let (x := "UnknownName") rfl (.inl rfl) rfl T.isi rfl T.int rfl (T.g21))))
      (pss_cons (ps_set (i := 1) scKin.nd rfl (Or.inl rfl) (pe_op op_add_str (pe_op op_add_str (pv 1) (pe_let (x := "NotLayered") rfl (.inl rfl) rfl T.isi rfl T.int rfl (T.g22))) (pe_let (x := "InvalidNumber") rfl (.inl rfl) rfl T.isi rfl T.int rfl (T.g23))))
      (pss_cons (ps_set (i := 1) scKin.nd rfl (Or.inl rfl) (pe_op op_add_str (pe_op op_add_str (pv 1) (pe_let (x := "NothingToUndo") rfl (.inl rfl) rfl T.isi rfl T.int rfl (T.g24))) (pe_let (x := "TooMany") rfl (.inl rfl) rfl T.isi rfl T.int rfl (T.g25))))
      (pss_cons (ps_set (i := 1) scKin.nd rfl (Or.inl rfl) (pe_op op_add_str (pe_op op_add_str (pv 1) (pe_let (x := "Refused") rfl (.inl rfl) rfl T.isi rfl T.int rfl (T.g26))) (pe_let (x := "JoinError") rfl (.inl rfl) rfl T.isi rfl T.int rfl (T.g27))))
      (pss_cons (ps_set (i := 1) scKin.nd rfl (Or.inl rfl) (pe_op op_add_str (pe_op op_add_str (pv 1) (pe_letT (x := "ValueError") (T := "ValueError") rfl (.inl rfl) rfl T.isi rfl T.int rfl T.b0 (by decide +kernel))) (pe_letT (x := "KeyError") (T := "KeyError") rfl (.inl rfl) rfl T.isi rfl T.int rfl T.b1 (by decide +kernel))))
      (pss_cons (ps_set (i := 1) scKin.nd rfl (Or.inl rfl) (pe_op op_add_str (pe_op op_add_str (pv 1) (pe_letT (x := "IndexError") (T := "IndexError") rfl (.inl rfl) rfl T.isi rfl T.int rfl T.b2 (by decide +kernel))) (pe_letT (x := "LookupError") (T := "LookupError") rfl (.inl rfl) rfl T.isi rfl T.int rfl T.b3 (by decide +kernel))))
      (pss_cons (ps_set (i := 1) scKin.nd rfl (Or.inl rfl) (pe_op op_add_str (pe_op op_add_str (pv 1) (pe_letT (x := "RuntimeError") (T := "RuntimeError") rfl (.inl rfl) rfl T.isi rfl T.int rfl T.b4 (by decide +kernel))) (pe_letT (x := "OverflowError") (T := "OverflowError") rfl (.inl rfl) rfl T.isi rfl T.int rfl T.b5 (by decide +kernel))))
      (pss_one (ps_ret (pe_op op_add_str (pv 1) (pe_letT (x := "ArithmeticError") (T := "ArithmeticError") rfl (.inl rfl) rfl T.isi rfl T.int rfl T.b6 (by decide +kernel))))))))))), ?_⟩
    have l0 : (rep (tabE i 20) "P").length ≤ 1 := rep_len _ _
    have l1 : (rep (tabE i 21) "U").length ≤ 1 := rep_len _ _
    have l2 : (rep (tabE i 22) "L").length ≤ 1 := rep_len _ _
    have l3 : (rep (tabE i 23) "N").length ≤ 1 := rep_len _ _
    have l4 : (rep (tabE i 24) "Z").length ≤ 1 := rep_len _ _
    have l5 : (rep (tabE i 25) "M").length ≤ 1 := rep_len _ _
    have l6 : (rep (tabE i 26) "R").length ≤ 1 := rep_len _ _
    have l7 : (rep (tabE i 27) " join").length ≤ 5 := rep_len _ _
    have l8 : (rep (tabT i 0) " value").length ≤ 6 := rep_len _ _
    have l9 : (rep (tabT i 1) " key").length ≤ 4 := rep_len _ _
    have l10 : (rep (tabT i 2) " index").length ≤ 6 := rep_len _ _
    have l11 : (rep (tabT i 3) " lookup").length ≤ 7 := rep_len _ _
    have l12 : (rep (tabT i 4) " runtime").length ≤ 8 := rep_len _ _
    have l13 : (rep (tabT i 5) " overflow").length ≤ 9 := rep_len _ _
    have l14 : (rep (tabT i 6) " arithmetic").length ≤ 11 := rep_len _ _
    refine ⟨a, _, _, rfl, hi, he, (T.kE i 20 h28 (by decide)), a, _, _, rfl, hi, he, (T.kE i 21 h28 (by decide)), _, _, rfl, rfl, Nat.le_of_lt (small1000 (by first | omega | (simp only [app_len]; omega))), ?_⟩
    refine ⟨_, rfl, a, _, _, rfl, hi, he, (T.kE i 22 h28 (by decide)), _, _, rfl, rfl, Nat.le_of_lt (small1000 (by first | omega | (simp only [app_len]; omega))), ?_⟩
    refine ⟨a, _, _, rfl, hi, he, (T.kE i 23 h28 (by decide)), _, _, rfl, rfl, Nat.le_of_lt (small1000 (by first | omega | (simp only [app_len]; omega))), ?_⟩
    refine ⟨_, rfl, a, _, _, rfl, hi, he, (T.kE i 24 h28 (by decide)), _, _, rfl, rfl, Nat.le_of_lt (small1000 (by first | omega | (simp only [app_len]; omega))), ?_⟩
    refine ⟨a, _, _, rfl, hi, he, (T.kE i 25 h28 (by decide)), _, _, rfl, rfl, Nat.le_of_lt (small1000 (by first | omega | (simp only [app_len]; omega))), ?_⟩
    refine ⟨_, rfl, a, _, _, rfl, hi, he, (T.kE i 26 h28 (by decide)), _, _, rfl, rfl, Nat.le_of_lt (small1000 (by first | omega | (simp only [app_len]; omega))), ?_⟩
    refine ⟨a, _, _, rfl, hi, he, (T.kE i 27 h28 (by decide)), _, _, rfl, rfl, Nat.le_of_lt (small1000 (by first | omega | (simp only [app_len]; omega))), ?_⟩
    refine ⟨_, rfl, a, _, _, rfl, hi, he, (T.kT i 0 h28 (by decide)), _, _, rfl, rfl, Nat.le_of_lt (small1000 (by first | omega | (simp only [app_len]; omega))), ?_⟩
    refine ⟨a, _, _, rfl, hi, he, (T.kT i 1 h28 (by decide)), _, _, rfl, rfl, Nat.le_of_lt (small1000 (by first | omega | (simp only [app_len]; omega))), ?_⟩
    refine ⟨_, rfl, a, _, _, rfl, hi, he, (T.kT i 2 h28 (by decide)), _, _, rfl, rfl, Nat.le_of_lt (small1000 (by first | omega | (simp only [app_len]; omega))), ?_⟩
    refine ⟨a, _, _, rfl, hi, he, (T.kT i 3 h28 (by decide)), _, _, rfl, rfl, Nat.le_of_lt (small1000 (by first | omega | (simp only [app_len]; omega))), ?_⟩
    refine ⟨_, rfl, a, _, _, rfl, hi, he, (T.kT i 4 h28 (by decide)), _, _, rfl, rfl, Nat.le_of_lt (small1000 (by first | omega | (simp only [app_len]; omega))), ?_⟩
    refine ⟨a, _, _, rfl, hi, he, (T.kT i 5 h28 (by decide)), _, _, rfl, rfl, Nat.le_of_lt (small1000 (by first | omega | (simp only [app_len]; omega))), ?_⟩
    refine ⟨_, rfl, a, _, _, rfl, hi, he, (T.kT i 6 h28 (by decide)), _, _, rfl, rfl, Nat.le_of_lt (small1000 (by first | omega | (simp only [app_len]; omega))), ?_⟩
    exact k
end
end K0

/-! ## G5 -/
set_option maxRecDepth 100000
set_option maxHeartbeats 4000000
namespace K0
open PySem PySem.Spec PyProof.Rows L2
abbrev sMade : Stmt := top 57
structure EM (K : PySem.W.Frag) (ca : Nat → Addr) : Prop where
  xi : ∀ i, i < 20 ∨ i = 27 → PySem.W.excIn K (ca i) veM "ValueError.__new__" = true
  kp : ∀ i, i < 28 → PySem.W.keepIn K (.ref (ca i)) = true
theorem lenF : ∀ i, i < 28 → (txF i).length ≤ 20 := by decide +kernel
theorem lenS : ∀ i, i < 28 → (txS i).length ≤ 20 := by decide +kernel
theorem lenK : ∀ i, i < 28 → (txK i).length ≤ 40 := by decide +kernel
theorem lenA (i : Nat) (h : i < 28) : (txA i).length ≤ 80 := by
  have h1 := lenF i h
  have h2 := lenS i h
  have h3 := lenK i h
  unfold txA
  rw [app_len, app_len]
  omega
def spMade (ca : Nat → Addr) : Sp := fun vs H Q _ => vs = [] ∧ ∀ (H' : Hp) (l : Addr) (as : List Addr), Same H H' → H l = none → H' l = some (.lst (as.map V.ref)) → as.length = 20 → (∀ i a, as[i]? = some a → H' a = some (ExO (.ref (ca i)) a)) → Q (.ref l) H'
section
variable {P : Program} {w : World} {K : PySem.W.Frag} {mg : Str → Option Value} {base : Heap} {ca : Nat → Addr} {f1 f2 f3 : Addr} {fd1 fd2 fd3 : FuncData}
structure TAl (K : PySem.W.Frag) (mg : Str → Option Value) (f1 f2 f3 : Addr) : Prop where
  g1 : mg "_law_first_half" = some (.ref f1)
  k1 : PySem.W.keepIn K (.ref f1) = true
  g2 : mg "_law_second_half" = some (.ref f2)
  k2 : PySem.W.keepIn K (.ref f2) = true
  g3 : mg "_law_kinds" = some (.ref f3)
  k3 : PySem.W.keepIn K (.ref f3) = true
theorem scAll : FnScope ["_law_error"] ["_law_error"] (defScope sAll) := ⟨rfl, rfl, rfl, by decide +kernel, rfl, by decide +kernel, by decide +kernel⟩
theorem ok_all {f : Addr} {fd : FuncData} (F : Fun K "_law_all" "_law_all" sAll f fd) (T : TAl K mg f1 f2 f3) (G1 : FnOk P w K mg base CX0 1 f1 fd1 ["_law_error"] (spErr txF ca)) (b1 : Binds K fd1 ["_law_error"] []) (G2 : FnOk P w K mg base CX0 1 f2 fd2 ["_law_error"] (spErr txS ca)) (b2 : Binds K fd2 ["_law_error"] [])
    (G3 : FnOk P w K mg base CX0 1 f3 fd3 ["_law_error"] (spErr txK ca)) (b3 : Binds K fd3 ["_law_error"] []) : FnOk P w K mg base CX0 2 f fd ["_law_error"] (spErr txA ca) := by
  refine F.ok scAll (fun vs H Q E h => ?_) (fun cdv A outer s H vs Q E hr h => ?_)
  · obtain ⟨a, i, rfl, _⟩ := h
    rfl
  · obtain ⟨a, i, rfl, h28, ev, k⟩ := h
    refine ⟨_, pss_one (ps_ret (pe_op op_add_str (pe_op op_add_str (pe_call G1 hr (by rfl) T.g1 T.k1 b1 .nil pass0 (pa_cons (pv 0) pa_nil)) (pe_call G2 hr (by rfl) T.g2 T.k2 b2 .nil pass0 (pa_cons (pv 0) pa_nil))) (pe_call G3 hr (by rfl) T.g3 T.k3 b3 .nil pass0 (pa_cons (pv 0) pa_nil)))), ?_⟩
    have l1 := lenF i h28
    have l2 := lenS i h28
    have l3 := lenK i h28
    exact ⟨_, rfl, a, i, rfl, h28, ev, _, rfl, a, i, rfl, h28, ev, _, _, rfl, rfl, Nat.le_of_lt (small1000 (by omega)), _, rfl, a, i, rfl, h28, ev, _, _, rfl, rfl, Nat.le_of_lt (small1000 (by rw [app_len]; omega)), k⟩
theorem scMade : FnScope ["_law_found"] [] (defScope sMade) := ⟨rfl, rfl, rfl, by decide +kernel, rfl, by decide +kernel, by decide +kernel⟩
/-- five new exceptions -/
theorem five {H : Hp} {a b c d e : Addr} {A B C D E : HO} (ha : H a = none) (hb : upd H a A b = none) (hc : upd (upd H a A) b B c = none) (hd : upd (upd (upd H a A) b B) c C d = none) (he : upd (upd (upd (upd H a A) b B) c C) d D e = none) :
    Same H (upd (upd (upd (upd (upd H a A) b B) c C) d D) e E) ∧ (upd (upd (upd (upd (upd H a A) b B) c C) d D) e E) a = some A ∧ (upd (upd (upd (upd (upd H a A) b B) c C) d D) e E) b = some B ∧ (upd (upd (upd (upd (upd H a A) b B) c C) d D) e E) c = some C ∧
      (upd (upd (upd (upd (upd H a A) b B) c C) d D) e E) d = some D ∧ (upd (upd (upd (upd (upd H a A) b B) c C) d D) e E) e = some E := by
  have s1 := K0.Same.new A ha
  have s2 := K0.Same.new B hb
  have s3 := K0.Same.new C hc
  have s4 := K0.Same.new D hd
  have s5 := K0.Same.new E he
  have t4 := K0.Same.tr s4 s5
  have t3 := K0.Same.tr s3 t4
  have t2 := K0.Same.tr s2 t3
  exact ⟨K0.Same.tr s1 t2, t2 _ _ upd_same, t3 _ _ upd_same, t4 _ _ upd_same, s5 _ _ upd_same, upd_same⟩
/-- the errors from i on -/
def AtEx (ca : Nat → Addr) (H : Hp) : Nat → List Addr → Prop
  | _, [] => True
  | i, a :: r => H a = some (ExO (.ref (ca i)) a) ∧ AtEx ca H (i + 1) r
theorem AtEx.same {ca : Nat → Addr} {H H' : Hp} (s : Same H H') : ∀ {i : Nat} {as : List Addr}, AtEx ca H i as → AtEx ca H' i as
  | _, [], _ => True.intro
  | _, _ :: _, h => ⟨s _ _ h.1, AtEx.same s h.2⟩
theorem AtEx.app {ca : Nat → Addr} {H : Hp} : ∀ {i : Nat} {as bs : List Addr}, AtEx ca H i as → AtEx ca H (i + as.length) bs → AtEx ca H i (as ++ bs)
  | _, [], _, _, h => h
  | i, a :: r, bs, h, g => ⟨h.1, AtEx.app h.2 (by rw [List.length_cons] at g; rw [show i + 1 + r.length = i + (r.length + 1) by omega]; exact g)⟩
theorem AtEx.get {ca : Nat → Addr} {H : Hp} : ∀ {i : Nat} {as : List Addr}, AtEx ca H i as → ∀ j a, as[j]? = some a → H a = some (ExO (.ref (ca (i + j))) a)
  | i, x :: r, h, 0, a, e => by cases e; exact h.1
  | i, x :: r, h, j + 1, a, e => by
    have z := AtEx.get h.2 j a e
    rw [show i + 1 + j = i + (j + 1) by omega] at z
    exact z
theorem none_of {H H' : Hp} (s : Same H H') {a : Addr} (h : H' a = none) : H a = none := by
  cases q : H a with
  | none => rfl
  | some o =>
    rw [s _ _ q] at h
    cases h
structure MadeTo (ca : Nat → Addr) (H H' : Hp) (l : Addr) (as : List Addr) (n : Nat) : Prop where
  s : Same H H'
  new : H l = none
  at_ : H' l = some (.lst (as.map V.ref))
  n : as.length = n
  x : AtEx ca H' 0 as
theorem made_step {H H1 : Hp} {l : Addr} {as : List Addr} {n : Nat} {a b c d e m : Addr} (M : MadeTo ca H H1 l as n) (ha : H1 a = none) (hb : upd H1 a (ExO (.ref (ca n)) a) b = none) (hc : upd (upd H1 a (ExO (.ref (ca n)) a)) b (ExO (.ref (ca (n + 1))) b) c = none)
    (hd : upd (upd (upd H1 a (ExO (.ref (ca n)) a)) b (ExO (.ref (ca (n + 1))) b)) c (ExO (.ref (ca (n + 2))) c) d = none) (he : upd (upd (upd (upd H1 a (ExO (.ref (ca n)) a)) b (ExO (.ref (ca (n + 1))) b)) c (ExO (.ref (ca (n + 2))) c)) d (ExO (.ref (ca (n + 3))) d) e = none)
    (hm : upd (upd (upd (upd (upd H1 a (ExO (.ref (ca n)) a)) b (ExO (.ref (ca (n + 1))) b)) c (ExO (.ref (ca (n + 2))) c)) d (ExO (.ref (ca (n + 3))) d)) e (ExO (.ref (ca (n + 4))) e) m = none) :
    (upd (upd (upd (upd (upd (upd H1 a (ExO (.ref (ca n)) a)) b (ExO (.ref (ca (n + 1))) b)) c (ExO (.ref (ca (n + 2))) c)) d (ExO (.ref (ca (n + 3))) d)) e (ExO (.ref (ca (n + 4))) e)) m (.lst [.ref a, .ref b, .ref c, .ref d, .ref e])) l = some (.lst (as.map V.ref)) ∧
    ∀ l2, (upd (upd (upd (upd (upd (upd H1 a (ExO (.ref (ca n)) a)) b (ExO (.ref (ca (n + 1))) b)) c (ExO (.ref (ca (n + 2))) c)) d (ExO (.ref (ca (n + 3))) d)) e (ExO (.ref (ca (n + 4))) e)) m (.lst [.ref a, .ref b, .ref c, .ref d, .ref e])) l2 = none →
      MadeTo ca H (upd (upd (upd (upd (upd (upd (upd H1 a (ExO (.ref (ca n)) a)) b (ExO (.ref (ca (n + 1))) b)) c (ExO (.ref (ca (n + 2))) c)) d (ExO (.ref (ca (n + 3))) d)) e (ExO (.ref (ca (n + 4))) e)) m (.lst [.ref a, .ref b, .ref c, .ref d, .ref e])) l2 (.lst (as.map V.ref ++ [.ref a, .ref b, .ref c, .ref d, .ref e]))) l2 (as ++ [a, b, c, d, e]) (n + 5) := by
  obtain ⟨s0, e0, e1, e2, e3, e4⟩ := five ha hb hc hd he
  have z := K0.Same.new (.lst [.ref a, .ref b, .ref c, .ref d, .ref e]) hm
  have w := K0.Same.tr s0 z
  refine ⟨w _ _ M.at_, fun l2 hl2 => ?_⟩
  have z2 := K0.Same.new (.lst (as.map V.ref ++ [.ref a, .ref b, .ref c, .ref d, .ref e])) hl2
  refine ⟨K0.Same.tr M.s (K0.Same.tr w z2), none_of (K0.Same.tr M.s w) hl2, ?_, ?_, ?_⟩
  · rw [upd_same, List.map_append]
    rfl
  · rw [List.length_append, M.n]
    rfl
  · refine AtEx.app (AtEx.same (K0.Same.tr w z2) M.x) ?_
    rw [M.n, Nat.zero_add]
    exact AtEx.same (K0.Same.tr z z2) ⟨e0, e1, e2, e3, e4, True.intro⟩
theorem ok_made {f : Addr} {fd : FuncData} (F : Fun K "_law_made_all" "_law_made_all" sMade f fd) (T : EC K mg ca) (M : EM K ca) : FnOk P w K mg base CX0 1 f fd [] (spMade ca) := by
  refine F.ok scMade (fun vs H Q E h => ?_) (fun cdv A outer s H vs Q E hr h => ?_)
  · obtain ⟨rfl, _⟩ := h
    rfl
  · obtain ⟨rfl, k⟩ := h
    refine ⟨_, C8.pss_cut (ps_set (i := 0) scMade.nd rfl (Or.inl rfl) (pe_lst (pa_cons (pe_exc1 (x := "InvalidQuestion") PySem.F.excBase_ValueError (M.xi 0 (.inl (by decide))) T.g0 (M.kp 0 (by decide)) (by rfl) pe_str) (pa_cons (pe_exc1 (x := "InvalidClause") PySem.F.excBase_ValueError (M.xi 1 (.inl (by decide))) T.g1 (M.kp 1 (by decide)) (by rfl) pe_str) (pa_cons (pe_exc1 (x := "InvalidStore") PySem.F.excBase_ValueError (M.xi 2 (.inl (by decide))) T.g2 (M.kp 2 (by decide)) (by rfl) pe_str) (pa_cons (pe_exc1 (x := "InvalidTable") PySem.F.excBase_ValueError (M.xi 3 (.inl (by decide))) T.g3 (M.kp 3 (by decide)) (by rfl) pe_str) (pa_cons (pe_exc1 (x := "InvalidRow") PySem.F.excBase_ValueError (M.xi 4 (.inl (by decide))) T.g4 (M.kp 4 (by decide)) (by rfl) pe_str) pa_nil)))))))
      (C8.pss_cut (ps_set (i := 0) scMade.nd rfl (Or.inl rfl) (pe_op op_cat (pv 0) (pe_lst (pa_cons (pe_exc1 (x := "InvalidReading") PySem.F.excBase_ValueError (M.xi 5 (.inl (by decide))) T.g5 (M.kp 5 (by decide)) (by rfl) pe_str) (pa_cons (pe_exc1 (x := "InvalidMap") PySem.F.excBase_ValueError (M.xi 6 (.inl (by decide))) T.g6 (M.kp 6 (by decide)) (by rfl) pe_str) (pa_cons (pe_exc1 (x := "InvalidKnot") PySem.F.excBase_ValueError (M.xi 7 (.inl (by decide))) T.g7 (M.kp 7 (by decide)) (by rfl) pe_str) (pa_cons (pe_exc1 (x := "InvalidProgram") PySem.F.excBase_ValueError (M.xi 8 (.inl (by decide))) T.g8 (M.kp 8 (by decide)) (by rfl) pe_str) (pa_cons (pe_exc1 (x := "InvalidOrder") PySem.F.excBase_ValueError (M.xi 9 (.inl (by decide))) T.g9 (M.kp 9 (by decide)) (by rfl) pe_str) pa_nil))))))))
      (C8.pss_cut (ps_set (i := 0) scMade.nd rfl (Or.inl rfl) (pe_op op_cat (pv 0) (pe_lst (pa_cons (pe_exc1 (x := "InvalidBags") PySem.F.excBase_ValueError (M.xi 10 (.inl (by decide))) T.g10 (M.kp 10 (by decide)) (by rfl) pe_str) (pa_cons (pe_exc1 (x := "InvalidLine") PySem.F.excBase_ValueError (M.xi 11 (.inl (by decide))) T.g11 (M.kp 11 (by decide)) (by rfl) pe_str) (pa_cons (pe_exc1 (x := "InvalidScheme") PySem.F.excBase_ValueError (M.xi 12 (.inl (by decide))) T.g12 (M.kp 12 (by decide)) (by rfl) pe_str) (pa_cons (pe_exc1 (x := "InvalidRule") PySem.F.excBase_ValueError (M.xi 13 (.inl (by decide))) T.g13 (M.kp 13 (by decide)) (by rfl) pe_str) (pa_cons (pe_exc1 (x := "InvalidSplit") PySem.F.excBase_ValueError (M.xi 14 (.inl (by decide))) T.g14 (M.kp 14 (by decide)) (by rfl) pe_str) pa_nil))))))))
      (pss_one (ps_ret (pe_op op_cat (pv 0) (pe_lst (pa_cons (pe_exc1 (x := "InvalidForest") PySem.F.excBase_ValueError (M.xi 15 (.inl (by decide))) T.g15 (M.kp 15 (by decide)) (by rfl) pe_str) (pa_cons (pe_exc1 (x := "InvalidSizes") PySem.F.excBase_ValueError (M.xi 16 (.inl (by decide))) T.g16 (M.kp 16 (by decide)) (by rfl) pe_str) (pa_cons (pe_exc1 (x := "InvalidKeys") PySem.F.excBase_ValueError (M.xi 17 (.inl (by decide))) T.g17 (M.kp 17 (by decide)) (by rfl) pe_str) (pa_cons (pe_exc1 (x := "InvalidWeights") PySem.F.excBase_ValueError (M.xi 18 (.inl (by decide))) T.g18 (M.kp 18 (by decide)) (by rfl) pe_str) (pa_cons (pe_exc1 (x := "InvalidOperation") PySem.F.excBase_ValueError (M.xi 19 (.inl (by decide))) T.g19 (M.kp 19 (by decide)) (by rfl) pe_str) pa_nil))))))))))), ?_⟩
    refine ⟨fun σ H' => ∃ l as, σ = [some (.ref l)] ∧ MadeTo ca H H' l as 5, ?_, ?_⟩
    · intro a0 h0 a1 h1 a2 h2 a3 h3 a4 h4
      refine ⟨by show 5 ≤ sizeLine; decide, fun l hl => ⟨l, [a0, a1, a2, a3, a4], rfl, ?_⟩⟩
      obtain ⟨s0, e0, e1, e2, e3, e4⟩ := five (A := ExO (.ref (ca 0)) a0) (B := ExO (.ref (ca 1)) a1) (C := ExO (.ref (ca 2)) a2) (D := ExO (.ref (ca 3)) a3) (E := ExO (.ref (ca 4)) a4) h0 h1 h2 h3 h4
      have z0 := K0.Same.new (.lst ([a0, a1, a2, a3, a4].map V.ref)) hl
      exact ⟨K0.Same.tr s0 z0, none_of s0 hl, upd_same, rfl, AtEx.same z0 ⟨e0, e1, e2, e3, e4, True.intro⟩⟩
    rintro σ H1 ⟨l, as, rfl, m1⟩
    refine ⟨fun σ H' => ∃ l as, σ = [some (.ref l)] ∧ MadeTo ca H H' l as 10, ?_, ?_⟩
    · refine ⟨_, rfl, fun a0 h0 a1 h1 a2 h2 a3 h3 a4 h4 => ⟨by show 5 ≤ sizeLine; decide, fun m hm => ?_⟩⟩
      obtain ⟨p1, p2⟩ := made_step m1 h0 h1 h2 h3 h4 hm
      refine ⟨l, m, _, [.ref a0, .ref a1, .ref a2, .ref a3, .ref a4], rfl, rfl, p1, upd_same, by rw [List.length_map, m1.n]; show 5 + 5 ≤ sizeLine; decide, fun l2 hl2 => ⟨l2, _, rfl, p2 l2 hl2⟩⟩
    rintro σ H2 ⟨l2, as2, rfl, m2⟩
    refine ⟨fun σ H' => ∃ l as, σ = [some (.ref l)] ∧ MadeTo ca H H' l as 15, ?_, ?_⟩
    · refine ⟨_, rfl, fun a0 h0 a1 h1 a2 h2 a3 h3 a4 h4 => ⟨by show 5 ≤ sizeLine; decide, fun m hm => ?_⟩⟩
      obtain ⟨p1, p2⟩ := made_step m2 h0 h1 h2 h3 h4 hm
      refine ⟨l2, m, _, [.ref a0, .ref a1, .ref a2, .ref a3, .ref a4], rfl, rfl, p1, upd_same, by rw [List.length_map, m2.n]; show 10 + 5 ≤ sizeLine; decide, fun l3 hl3 => ⟨l3, _, rfl, p2 l3 hl3⟩⟩
    rintro σ H3 ⟨l3, as3, rfl, m3⟩
    refine ⟨_, rfl, fun a0 h0 a1 h1 a2 h2 a3 h3 a4 h4 => ⟨by show 5 ≤ sizeLine; decide, fun m hm => ?_⟩⟩
    obtain ⟨p1, p2⟩ := made_step m3 h0 h1 h2 h3 h4 hm
    refine ⟨l3, m, _, [.ref a0, .ref a1, .ref a2, .ref a3, .ref a4], rfl, rfl, p1, upd_same, by rw [List.length_map, m3.n]; show 15 + 5 ≤ sizeLine; decide, fun l4 hl4 => ?_⟩
    have m4 := p2 l4 hl4
    exact k _ l4 _ m4.s m4.new m4.at_ m4.n fun i a e => by
      have z := AtEx.get m4.x i a e
      rw [Nat.zero_add] at z
      exact z
end
end K0

/-! ## H1 -/
set_option maxRecDepth 100000
set_option maxHeartbeats 0
namespace K0
open PySem L2
/-! ### the head: what is looked at when the top has run -/
def meth0 (i : Nat) : Stmt := match top i with
  | .ClassDef _ _ _ (s :: _) _ _ _ _ _ _ _ => s
  | _ => top 0
def eNsa : List PySem.Str := [("InvalidQuestion" : PySem.Str), ("InvalidClause" : PySem.Str), ("InvalidStore" : PySem.Str), ("InvalidTable" : PySem.Str), ("InvalidRow" : PySem.Str), ("InvalidReading" : PySem.Str), ("InvalidMap" : PySem.Str), ("InvalidKnot" : PySem.Str), ("InvalidProgram" : PySem.Str), ("InvalidOrder" : PySem.Str), ("InvalidBags" : PySem.Str), ("InvalidLine" : PySem.Str), ("InvalidScheme" : PySem.Str), ("InvalidRule" : PySem.Str)]
def eNsb : List PySem.Str := [("InvalidSplit" : PySem.Str), ("InvalidForest" : PySem.Str), ("InvalidSizes" : PySem.Str), ("InvalidKeys" : PySem.Str), ("InvalidWeights" : PySem.Str), ("InvalidOperation" : PySem.Str), ("ParseError" : PySem.Str), ("UnknownName" : PySem.Str), ("NotLayered" : PySem.Str), ("InvalidNumber" : PySem.Str), ("NothingToUndo" : PySem.Str), ("TooMany" : PySem.Str), ("Refused" : PySem.Str), ("JoinError" : PySem.Str)]
def eNs : List PySem.Str := eNsa ++ eNsb
def lNsa : List PySem.Str := [("MAX_LETTERS" : PySem.Str), ("MAX_FIGURES" : PySem.Str), ("MAX_WIDTH" : PySem.Str), ("_TOO_LONG" : PySem.Str), ("is_integer" : PySem.Str), ("is_count" : PySem.Str), ("is_width" : PySem.Str), ("is_name" : PySem.Str), ("are_names" : PySem.Str), ("is_row" : PySem.Str), ("are_different" : PySem.Str), ("is_dict_from" : PySem.Str), ("is_naming" : PySem.Str), ("coprime" : PySem.Str)]
def lNsb : List PySem.Str := [("_law_dice" : PySem.Str), ("_law_roll" : PySem.Str), ("_law_pick" : PySem.Str), ("_law_mixed" : PySem.Str), ("_law_is_word" : PySem.Str), ("_law_word" : PySem.Str), ("_law_number" : PySem.Str), ("_law_met" : PySem.Str), ("_law_judged_right" : PySem.Str), ("_law_namings_right" : PySem.Str), ("_law_coprime_right" : PySem.Str), ("_law_made_all" : PySem.Str), ("_law_first_half" : PySem.Str), ("_law_second_half" : PySem.Str)]
def lNsc : List PySem.Str := [("_law_kinds" : PySem.Str), ("_law_all" : PySem.Str), ("_law_kept" : PySem.Str), ("_law_caught" : PySem.Str), ("_law_errors_right" : PySem.Str)]
def lNs : List PySem.Str := lNsa ++ lNsb ++ lNsc
def loose0 : List PySem.Str := eNs ++ lNs
def faGa : List He.Fa := [.glo ("InvalidQuestion" : PySem.Str), .glo ("InvalidClause" : PySem.Str), .glo ("InvalidStore" : PySem.Str), .glo ("InvalidTable" : PySem.Str), .glo ("InvalidRow" : PySem.Str), .glo ("InvalidReading" : PySem.Str), .glo ("InvalidMap" : PySem.Str), .glo ("InvalidKnot" : PySem.Str), .glo ("InvalidProgram" : PySem.Str), .glo ("InvalidOrder" : PySem.Str)]
def faGb : List He.Fa := [.glo ("InvalidBags" : PySem.Str), .glo ("InvalidLine" : PySem.Str), .glo ("InvalidScheme" : PySem.Str), .glo ("InvalidRule" : PySem.Str), .glo ("InvalidSplit" : PySem.Str), .glo ("InvalidForest" : PySem.Str), .glo ("InvalidSizes" : PySem.Str), .glo ("InvalidKeys" : PySem.Str), .glo ("InvalidWeights" : PySem.Str), .glo ("InvalidOperation" : PySem.Str)]
def faGc : List He.Fa := [.glo ("ParseError" : PySem.Str), .glo ("UnknownName" : PySem.Str), .glo ("NotLayered" : PySem.Str), .glo ("InvalidNumber" : PySem.Str), .glo ("NothingToUndo" : PySem.Str), .glo ("TooMany" : PySem.Str), .glo ("Refused" : PySem.Str), .glo ("JoinError" : PySem.Str), .glo ("is_integer" : PySem.Str), .glo ("is_count" : PySem.Str)]
def faGd : List He.Fa := [.glo ("is_width" : PySem.Str), .glo ("is_name" : PySem.Str), .glo ("are_names" : PySem.Str), .glo ("is_row" : PySem.Str), .glo ("are_different" : PySem.Str), .glo ("is_dict_from" : PySem.Str), .glo ("is_naming" : PySem.Str), .glo ("coprime" : PySem.Str), .glo ("_law_dice" : PySem.Str), .glo ("_law_roll" : PySem.Str)]
def faGe : List He.Fa := [.glo ("_law_pick" : PySem.Str), .glo ("_law_mixed" : PySem.Str), .glo ("_law_is_word" : PySem.Str), .glo ("_law_word" : PySem.Str), .glo ("_law_number" : PySem.Str), .glo ("_law_met" : PySem.Str), .glo ("_law_judged_right" : PySem.Str), .glo ("_law_namings_right" : PySem.Str), .glo ("_law_coprime_right" : PySem.Str), .glo ("_law_made_all" : PySem.Str)]
def faGf : List He.Fa := [.glo ("_law_first_half" : PySem.Str), .glo ("_law_second_half" : PySem.Str), .glo ("_law_kinds" : PySem.Str), .glo ("_law_all" : PySem.Str), .glo ("_law_kept" : PySem.Str), .glo ("_law_caught" : PySem.Str), .glo ("_law_errors_right" : PySem.Str), .glo ("law" : PySem.Str)]
def faG : List He.Fa := faGa ++ faGb ++ faGc ++ faGd ++ faGe ++ faGf
def faFa : List He.Fa := [.free ("isinstance" : PySem.Str), .free ("int" : PySem.Str), .free ("bool" : PySem.Str), .free ("len" : PySem.Str), .free ("str" : PySem.Str), .free ("tuple" : PySem.Str), .free ("dict" : PySem.Str), .free ("all" : PySem.Str), .free ("any" : PySem.Str), .free ("abs" : PySem.Str)]
def faFb : List He.Fa := [.free ("max" : PySem.Str), .free ("min" : PySem.Str), .free ("list" : PySem.Str), .free ("range" : PySem.Str), .free ("set" : PySem.Str), .free ("repr" : PySem.Str), .free ("sorted" : PySem.Str), .free ("ValueError" : PySem.Str), .free ("KeyError" : PySem.Str), .free ("IndexError" : PySem.Str)]
def faFc : List He.Fa := [.free ("LookupError" : PySem.Str), .free ("RuntimeError" : PySem.Str), .free ("OverflowError" : PySem.Str), .free ("ArithmeticError" : PySem.Str)]
def faF : List He.Fa := faFa ++ faFb ++ faFc
def faI : List He.Fa := [.int "MAX_LETTERS" 8, .int "MAX_FIGURES" 60, .int "MAX_WIDTH" 8, .int "_TOO_LONG" big]
def fa0 : List He.Fa := faG ++ faF ++ faI
def d35 : He.DefD := ⟨("is_integer", none), "is_integer", "is_integer", defArgs (top 35), defBody (top 35), defScope (top 35), [], []⟩
def d36 : He.DefD := ⟨("is_count", none), "is_count", "is_count", defArgs (top 36), defBody (top 36), defScope (top 36), [], []⟩
def d37 : He.DefD := ⟨("is_width", none), "is_width", "is_width", defArgs (top 37), defBody (top 37), defScope (top 37), [], []⟩
def d38 : He.DefD := ⟨("is_name", none), "is_name", "is_name", defArgs (top 38), defBody (top 38), defScope (top 38), [], []⟩
def d39 : He.DefD := ⟨("are_names", none), "are_names", "are_names", defArgs (top 39), defBody (top 39), defScope (top 39), [], []⟩
def d40 : He.DefD := ⟨("is_row", none), "is_row", "is_row", defArgs (top 40), defBody (top 40), defScope (top 40), [], []⟩
def d41 : He.DefD := ⟨("are_different", none), "are_different", "are_different", defArgs (top 41), defBody (top 41), defScope (top 41), [], []⟩
def d42 : He.DefD := ⟨("is_dict_from", none), "is_dict_from", "is_dict_from", defArgs (top 42), defBody (top 42), defScope (top 42), [], []⟩
def d43 : He.DefD := ⟨("is_naming", none), "is_naming", "is_naming", defArgs (top 43), defBody (top 43), defScope (top 43), [], []⟩
def d44 : He.DefD := ⟨("coprime", none), "coprime", "coprime", defArgs (top 44), defBody (top 44), defScope (top 44), [], []⟩
def d46 : He.DefD := ⟨("_law_dice", none), "_law_dice", "_law_dice", defArgs (top 46), defBody (top 46), defScope (top 46), [], []⟩
def d47 : He.DefD := ⟨("_law_roll", none), "_law_roll", "_law_roll", defArgs (top 47), defBody (top 47), defScope (top 47), [], []⟩
def d48 : He.DefD := ⟨("_law_pick", none), "_law_pick", "_law_pick", defArgs (top 48), defBody (top 48), defScope (top 48), [], []⟩
def d49 : He.DefD := ⟨("_law_mixed", none), "_law_mixed", "_law_mixed", defArgs (top 49), defBody (top 49), defScope (top 49), [], []⟩
def d50 : He.DefD := ⟨("_law_is_word", none), "_law_is_word", "_law_is_word", defArgs (top 50), defBody (top 50), defScope (top 50), [], []⟩
def d51 : He.DefD := ⟨("_law_word", none), "_law_word", "_law_word", defArgs (top 51), defBody (top 51), defScope (top 51), [], []⟩
def d52 : He.DefD := ⟨("_law_number", none), "_law_number", "_law_number", defArgs (top 52), defBody (top 52), defScope (top 52), [], []⟩
def d53 : He.DefD := ⟨("_law_met", none), "_law_met", "_law_met", defArgs (top 53), defBody (top 53), defScope (top 53), [], []⟩
def d54 : He.DefD := ⟨("_law_judged_right", none), "_law_judged_right", "_law_judged_right", defArgs (top 54), defBody (top 54), defScope (top 54), [], []⟩
def d55 : He.DefD := ⟨("_law_namings_right", none), "_law_namings_right", "_law_namings_right", defArgs (top 55), defBody (top 55), defScope (top 55), [], []⟩
def d56 : He.DefD := ⟨("_law_coprime_right", none), "_law_coprime_right", "_law_coprime_right", defArgs (top 56), defBody (top 56), defScope (top 56), [], []⟩
def d57 : He.DefD := ⟨("_law_made_all", none), "_law_made_all", "_law_made_all", defArgs (top 57), defBody (top 57), defScope (top 57), [], []⟩
def d58 : He.DefD := ⟨("_law_first_half", none), "_law_first_half", "_law_first_half", defArgs (top 58), defBody (top 58), defScope (top 58), [], []⟩
def d59 : He.DefD := ⟨("_law_second_half", none), "_law_second_half", "_law_second_half", defArgs (top 59), defBody (top 59), defScope (top 59), [], []⟩
def d60 : He.DefD := ⟨("_law_kinds", none), "_law_kinds", "_law_kinds", defArgs (top 60), defBody (top 60), defScope (top 60), [], []⟩
def d61 : He.DefD := ⟨("_law_all", none), "_law_all", "_law_all", defArgs (top 61), defBody (top 61), defScope (top 61), [], []⟩
def d62 : He.DefD := ⟨("_law_kept", none), "_law_kept", "_law_kept", defArgs (top 62), defBody (top 62), defScope (top 62), [], []⟩
def d63 : He.DefD := ⟨("_law_caught", none), "_law_caught", "_law_caught", defArgs (top 63), defBody (top 63), defScope (top 63), [], []⟩
def d64 : He.DefD := ⟨("_law_errors_right", none), "_law_errors_right", "_law_errors_right", defArgs (top 64), defBody (top 64), defScope (top 64), [], []⟩
def d65 : He.DefD := ⟨("law", none), "law", "law", defArgs (top 65), defBody (top 65), defScope (top 65), [], []⟩
def dc20 : He.DefD := ⟨("ParseError", some "__init__"), "__init__", "ParseError.__init__", defArgs (meth0 23), defBody (meth0 23), defScope (meth0 23), [], []⟩
def dc21 : He.DefD := ⟨("UnknownName", some "__init__"), "__init__", "UnknownName.__init__", defArgs (meth0 24), defBody (meth0 24), defScope (meth0 24), [], []⟩
def dc22 : He.DefD := ⟨("NotLayered", some "__init__"), "__init__", "NotLayered.__init__", defArgs (meth0 25), defBody (meth0 25), defScope (meth0 25), [], []⟩
def dc23 : He.DefD := ⟨("InvalidNumber", some "__init__"), "__init__", "InvalidNumber.__init__", defArgs (meth0 26), defBody (meth0 26), defScope (meth0 26), [], []⟩
def dc24 : He.DefD := ⟨("NothingToUndo", some "__init__"), "__init__", "NothingToUndo.__init__", defArgs (meth0 27), defBody (meth0 27), defScope (meth0 27), [], []⟩
def dc25 : He.DefD := ⟨("TooMany", some "__init__"), "__init__", "TooMany.__init__", defArgs (meth0 28), defBody (meth0 28), defScope (meth0 28), [], []⟩
def dc26 : He.DefD := ⟨("Refused", some "__init__"), "__init__", "Refused.__init__", defArgs (meth0 29), defBody (meth0 29), defScope (meth0 29), [], []⟩
def fna : List He.DefD := [d35, d36, d37, d38, d39, d40, d41, d42, d43, d44, d46, d47]
def fnb : List He.DefD := [d48, d49, d50, d51, d52, d53, d54, d55, d56, d57, d58, d59]
def fnc : List He.DefD := [d60, d61, d62, d63, d64, d65, dc20, dc21, dc22, dc23, dc24, dc25]
def fnd : List He.DefD := [dc26]
def fn : List He.DefD := fna ++ fnb ++ fnc ++ fnd
def caK (K : PySem.W.Frag) (i : Nat) : Addr := He.ga K ((eNs[i]?).getD Str.empty)
/-- class i: how its instances are looked at, over which it stands -/
def exA (K : PySem.W.Frag) (i : Nat) : Bool :=
  decide (PySem.W.findIn K (.ref (caK K i)) "__getattribute__" = some (some (.builtin "BaseException.__getattribute__"))) && (decide (PySem.W.findIn K (.ref (caK K i)) "__getattr__" = some none) && (decide (PySem.W.subIn K (.ref (caK K i)) (.type "BaseException") = some true) && (PySem.W.hasDictIn K (caK K i) &&
  (decide (PySem.W.findIn K (.ref (caK K i)) "__class__" = some (some (.builtin "object.__class__"))) && (decide (PySem.W.mroIn K (caK K i) (.type "object") = some true) && (PySem.W.keepIn K (.ref (caK K i)) && (decide (PySem.W.typeIn K (.ref (caK K i)) = some (.type "type")) &&
  (PySem.W.clsIn K (caK K i)).isSome)))))))
def exM (K : PySem.W.Frag) (i : Nat) : Bool := match PySem.W.clsIn K (caK K i) with
  | some cd => !cd.mro.isEmpty && (((List.range 28).all fun j => cd.mro.contains (.ref (caK K j)) == tabE i j) && ((List.range 7).all fun j => cd.mro.contains (.type (btn j)) == tabT i j))
  | none => false
def exI (K : PySem.W.Frag) (i : Nat) : Bool := PySem.W.excIn K (caK K i) veM "ValueError.__new__"
def exKp (K : PySem.W.Frag) (i : Nat) (f : Str) (bm : List Value) (newId : String) : Bool := PySem.W.excInitIn K (caK K i) bm newId && (PySem.W.excOver K (caK K i) bm && (decide (PySem.W.findIn K (.ref (caK K i)) "__setattr__" = some (some (.builtin "object.__setattr__"))) &&
  (decide (PySem.W.findIn K (.ref (caK K i)) f = some none) && (decide (PySem.W.findIn K (.ref (caK K i)) "__init__" = some (some (.ref (He.ma K (caK K i) "__init__")))) && (decide (PySem.W.typeIn K (.ref (He.ma K (caK K i) "__init__")) = some (.type "function")) &&
  (match K.lookup (He.ma K (caK K i) "__init__") with
  | some ⟨_, _, .func fd, _⟩ => decide (fd.kwdefaults = .none)
  | _ => false))))))
def exO (K : PySem.W.Frag) : Bool := decide (PySem.W.specialIn K (.builtin "object.__class__") "__get__" = some (some (.builtin "getset_descriptor.__get__"))) && (decide (PySem.W.takesIn K (.builtin "object.__class__") = some true) &&
  (decide (PySem.W.nsIn K mainGlobals "gcd" = some (some (.builtin "math.gcd"))) && decide ((He.cT K ("_law_namings_right", none)).2 ≠ (He.cT K ("_law_coprime_right", none)).2)))
def ex0 (K : PySem.W.Frag) : Bool := (List.range 28).all (exA K) && ((List.range 28).all (exM K) && ((List.range 20).all (exI K) && (exI K 27 && (exKp K 20 "number" PySem.KeepX.Par.bmB "ValueError.__new__" && (exKp K 21 "word" PySem.KeepX.Unk.bmB "LookupError.__new__" &&
  (exKp K 22 "reason" PySem.KeepX.Lay.bmB "LookupError.__new__" && (exKp K 23 "value" PySem.KeepX.Num.bmB "IndexError.__new__" && (exKp K 24 "many" PySem.KeepX.Und.bmB "RuntimeError.__new__" && (exKp K 25 "limit" PySem.KeepX.Too.bmB "OverflowError.__new__" &&
  (exKp K 26 "pledge" PySem.KeepX.Ref.bmB "ArithmeticError.__new__" && exO K))))))))))
def tf0 : List He.Defn := [("_law_namings_right", none), ("_law_coprime_right", none)]
abbrev Rw : PySem.W.OpenRow := PySem.W.OpenLaw.row PySem.Challenge.rw_joinhouse_k00_words_and_errors
abbrev qv0 : Program := PySem.W.view Rw.prog [0, 65]
abbrev hk0 : PySem.W.Hook := He.hookX 5 fa0 fn [] tf0 ex0
def ob0 (s : PySem.W.SharedT) : He.AlX := He.obsX 5 fa0 fn [] tf0 ex0 (HandSHeadRun.getT s)
theorem ob0_eq (s : PySem.W.SharedT) : ob0 s = hk0.obs s.abs := He.obsX_eq (HandSHeadRun.getT_eq s)
noncomputable abbrev wh0 (w : World) := HandSHeadRun.wholeF (fun p => HandSHeadRun.stepQ (HandSHeadRun.denQ HandSHeadRun.tabQ) p w) HandSHeadRun.fenceQ 60000 Rw.prog
theorem run12 (w : World) : ((wh0 w).map fun x => (HandSHeadRun.looksF Rw.prog x.1.heap x.2.abs, HandSHeadRun.seenQ qv0 loose0 (importedModules Rw.prog.main.body) (fun s => PySem.W.xlAt qv0 [] s && PySem.W.recOk Rw.toRowW.records s) x.2.abs)) = some (true, PySem.W.openGood qv0 loose0) := by kernel_rfl
theorem run3a (w : World) : ((wh0 w).map fun x => (ob0 x.2).1.1.1) = some true := by kernel_rfl
theorem run3b (w : World) : ((wh0 w).map fun x => ((ob0 x.2).1.1.2, (ob0 x.2).2)) = some (fn.map He.DefD.val, true) := by kernel_rfl
/-- what is told of one run, put together -/
theorem run0 (w : World) : HandSHeadRun.RunEqI Rw qv0 hk0 ob0 60000 loose0 w := by
  obtain ⟨x, e, e1⟩ := Option.map_eq_some_iff.mp (run12 w)
  have e2 := run3a w
  have e3 := run3b w
  rw [e] at e2 e3
  have h2 : (ob0 x.2).1.1.1 = true := Option.some.inj e2
  have h3 : ((ob0 x.2).1.1.2, (ob0 x.2).2) = (fn.map He.DefD.val, true) := Option.some.inj e3
  have h4 : ob0 x.2 = hk0.val w := by
    show ob0 x.2 = (((true, fn.map He.DefD.val), []), true)
    have h5 : (ob0 x.2).1.1.2 = fn.map He.DefD.val := congrArg Prod.fst h3
    have h6 : (ob0 x.2).2 = true := congrArg Prod.snd h3
    exact Prod.ext (Prod.ext (Prod.ext h2 h5) rfl) h6
  have e4 := congrArg Prod.fst e1
  have e5 := congrArg Prod.snd e1
  unfold HandSHeadRun.RunEqI
  show (wh0 w).map _ = _
  rw [e]
  exact congrArg some (Prod.ext e4 (Prod.ext e5 h4))
end K0

/-! ## G0 -/
set_option maxRecDepth 100000
set_option maxHeartbeats 2000000
namespace K0
open PySem PySem.Spec PyProof.Rows L2
/-- list + list, the new one apart from sys.modules -/
def rCatN : R2 := fun x y H Q => ∃ l b xs zs, x = .ref l ∧ y = .ref b ∧ H l = some (.lst xs) ∧ H b = some (.lst zs) ∧ xs.length + zs.length ≤ sizeLine ∧ ∀ p, H p = none → p ≠ sysModules → Q (.ref p) (upd H p (.lst (xs ++ zs)))
section
variable {X : Cx}
theorem op_catN : OpR X (binaryOp .Add) rCatN := by
  intro pins s σ H x y v u Q I rx ry h
  obtain ⟨l, b, xs, zs, rfl, rfl, hl0, hb0, hz, q⟩ := h
  cases rx
  cases ry
  obtain ⟨z1, i1, n1, r1, k1, e1⟩ := I.lstM hl0
  obtain ⟨z2, i2, n2, r2, k2, e2⟩ := I.lstM hb0
  refine PySem.P.add_list e1 e2 ?_ (by rw [List.size_toArray, List.size_toArray]; omega)
  have ea : i1.toArray ++ i2.toArray = (i1 ++ i2).toArray := by simp
  rw [ea]
  exact ⟨.ref _, _, I.lnew (t' := s.toks) (r1.append r2) (by rw [List.length_append]; omega), rfl, q _ I.fresh (Nat.ne_of_gt I.big)⟩
end
/-- what stands in a tuple, without a list, or the dict of 7 to 7 -/
inductive Sc (H : Hp) : V → PyData → Prop
  | non : Sc H .non .none
  | bl (b : Bool) : Sc H (.bl b) (.bool b)
  | int (i : Int) : Sc H (.int i) (.int i)
  | str (x : Str) : Sc H (.str x) (.str x)
  | d7 {a : Addr} : H a = some (.dK [(Sum.inl 7, .int 7)]) → Sc H (.ref a) (.dict [(.int 7, .int 7)])
inductive T7 (H : Hp) : List Addr → List PyData → Prop
  | nil : T7 H [] []
  | cons {t : Addr} {z : Str} {x : V} {pd : PyData} {ts : List Addr} {ds : List PyData} : H t = some (.tup [.str z, x]) → Sc H x pd → T7 H ts ds → T7 H (t :: ts) (.tuple [.str z, pd] :: ds)
inductive D7 (H : Hp) : V → PyData → Prop
  | of {v : V} {d : PyData} : Sc H v d → D7 H v d
  | lst {a : Addr} {ts : List Addr} {ds : List PyData} : a ≠ sysModules → H a = some (.lst (ts.map V.ref)) → T7 H ts ds → D7 H (.ref a) (.list ds)
section
variable {X : Cx} {pins : List (Addr × Obj)} {σ : L2.St} {H : Hp} {s : Shared}
theorem sc_reads (I : Inv X pins σ H s) {v : V} {d : PyData} {u : Value} (h : Sc H v d) (r : RelV v u) : ∃ as, Reads s.heap u d as ∧ sysModules ∉ as := by
  cases h with
  | non => cases r; exact ⟨[], Reads.none, fun z => nomatch z⟩
  | bl b => cases r; exact ⟨[], Reads.bool b, fun z => nomatch z⟩
  | int i => obtain ⟨t, rfl⟩ := r; exact ⟨[], Reads.int i t, fun z => nomatch z⟩
  | str x => obtain ⟨t, rfl⟩ := r; exact ⟨[], Reads.str x t, fun z => nomatch z⟩
  | @d7 a h =>
    cases r
    obtain ⟨_, lo, vs, kv, o, es, ep, ho, ex, hdd, hes, hnd⟩ := I.hok a _ h
    have lo' : a ≠ sysModules := by simpa using lo
    cases kv with
    | @cons kx ky kr1 kr2 r1 r2 =>
      cases r2
      obtain ⟨key, val⟩ := ky
      obtain ⟨k1, v1⟩ := r1
      dsimp only at k1 v1
      subst k1
      obtain ⟨t, rfl⟩ := v1
      obtain ⟨pr, _⟩ := hnd
      generalize hl : es.toList = el at pr
      cases pr with
      | @cons en _ er _ p1 p2 p3 =>
        cases p3
        have p1' : keyIs (Sum.inl 7) en.key = true := p1
        rcases keyIs_shape p1' with ⟨i, t2, e1, e2⟩ | ⟨x, t2, e1, e2⟩
        · cases e1
          refine ⟨a :: ([] ++ []) ++ ([] ++ []), Reads.dict ho ex.1 hdd ?_ ?_, fun z => ?_⟩
          · rw [hl]
            show ReadsAll s.heap [en.key] [PyData.int 7] ([] ++ [])
            rw [e2]
            exact ReadsAll.cons (Reads.int 7 t2) ReadsAll.nil
          · rw [hl]
            show ReadsAll s.heap [en.val] [PyData.int 7] ([] ++ [])
            rw [p2]
            exact ReadsAll.cons (Reads.int 7 t) ReadsAll.nil
          · have z' : sysModules ∈ [a] := z
            exact lo' (List.mem_singleton.mp z').symm
        · exact nomatch e1
theorem refs_its : ∀ {ts : List Addr} {us : List Value}, Vals (ts.map V.ref) us → us = ts.map Value.ref
  | [], _, r => by cases r; rfl
  | t :: ts, _, r => by
    cases r with
    | cons h r =>
      cases h
      rw [refs_its r]
      rfl
theorem t7_reads (I : Inv X pins σ H s) : ∀ {ts : List Addr} {ds : List PyData}, T7 H ts ds → ∃ as, ReadsAll s.heap (ts.map Value.ref) ds as ∧ sysModules ∉ as := by
  intro ts ds h
  induction h with
  | nil => exact ⟨[], ReadsAll.nil, fun z => nomatch z⟩
  | @cons t z x pd ts ds ht hx _ ih =>
    obtain ⟨bs, hb, nb⟩ := ih
    obtain ⟨its, rv, ⟨o, ho, hc, n, hd⟩, _⟩ := I.tuple (SqT.of ht)
    cases rv with
    | cons r1 r2 =>
      cases r2 with
      | cons r2 r3 =>
        cases r3
        obtain ⟨tk, rfl⟩ := r1
        obtain ⟨as, ha, na⟩ := sc_reads I hx r2
        refine ⟨_, ReadsAll.cons (Reads.tuple ho hc hd (ReadsAll.cons (Reads.str z tk) (ReadsAll.cons ha ReadsAll.nil))) hb, fun q => ?_⟩
        rcases List.mem_append.mp q with q | q
        · have q' : sysModules ∈ [] ++ (as ++ []) := q
          simp only [List.nil_append, List.append_nil] at q'
          exact na q'
        · exact nb q
def rRep7 : List V → Hp → VK → Prop := fun vs H Q => ∃ (x : V) (d : PyData), vs = [x] ∧ D7 H x d ∧ d.showable = true ∧ d.depth ≤ 20 ∧ d.shown.length ≤ 1000 ∧ Q (.str d.shown) H
theorem cr_repr7 (hgd : X.A.guards = some []) (hu : X.A.units + 64 < cLine) : CallR X (.builtin "repr") rRep7 := by
  intro pins s σ H vs us Q I r h
  obtain ⟨x, d, rfl, hd, hs, hdp, hl, q⟩ := h
  obtain ⟨u, rfl, rx⟩ := vals1 r
  have fin : ∀ h' (t : Tok) tk, (∀ b o, s.heap.get? b = some o → h'.get? b = some o) → EP X pins σ Q (.str d.shown t) { s with heap := h', toks := tk } := fun h' t tk k => ⟨.str d.shown, H, I.kept k, ⟨t, rfl⟩, q⟩
  cases hd with
  | of h =>
    cases h with
    | non => exact cr_repr hgd hu pins s σ H _ _ Q I r ⟨_, _, rfl, .of .non, hs, hdp, hl, q⟩
    | bl b => exact cr_repr hgd hu pins s σ H _ _ Q I r ⟨_, _, rfl, .of (.bl b), hs, hdp, hl, q⟩
    | int i => exact cr_repr hgd hu pins s σ H _ _ Q I r ⟨_, _, rfl, .of (.int i), hs, hdp, hl, q⟩
    | str z => exact cr_repr hgd hu pins s σ H _ _ Q I r ⟨_, _, rfl, .of (.str z), hs, hdp, hl, q⟩
    | d7 h =>
      obtain ⟨as, rr, na⟩ := sc_reads I (.d7 h) rx
      cases rx
      exact repr_of_reads' rr hs (fun _ => na) hgd (by omega) (fun _ _ e => e) (fun h' t tk k => fin h' t tk k) (small_shown hl)
  | @lst a ts ds na h t7 =>
    cases rx
    obtain ⟨its, rv, ⟨o, n, ho, hc, _, hdd⟩, _⟩ := I.list (SqL.of h)
    obtain ⟨as, ha, nas⟩ := t7_reads I t7
    have ei : its = ts.map Value.ref := refs_its rv
    subst ei
    refine repr_of_reads' (Reads.list ho hc hdd ha) hs (fun _ z => ?_) hgd (by omega) (fun _ _ e => e) (fun h' t tk k => fin h' t tk k) (small_shown hl)
    rcases List.mem_cons.mp z with z | z
    · exact na z.symm
    · exact nas z
end
end K0

/-! ## G6 -/
set_option maxRecDepth 100000
set_option maxHeartbeats 4000000
namespace K0
open PySem PySem.Spec PyProof.Rows L2 PySem.KeepX
abbrev sKept : Stmt := top 62
section
variable {X : Cx} {C : Addr} {x f : Str} {bmB : List Value} {newId : String}
/-- X(e) as a value: a new exception that keeps e in f -/
def tKeep (C : Addr) (f : Str) (ta : TA) : TE := fun σ H Q => ta σ H fun vs H1 => ∃ v, vs = [v] ∧ ∀ d e, H1 d = none → H1 e = none → e ≠ d → Q (.ref e) (upd (upd H1 d (.xd [(f, v)])) e (ExD C d e))
theorem pe_keep {a : Expr} {ta : TA} {p pos : Pos} {k : Nat} (T : Cls0 X.K X.mg x C f bmB newId) (mk : Makes X.K X.prog X.w C f) (hr : Room k X.A) (ha : PA X [a] ta) (hg : Gl X x := by rfl)
    (hdb : (x == ("__debug__" : Str)) = false := by decide)
    (he : starEach (a :: []) X.env = (false, eval a X.env) :: starEach [] X.env := by rfl) (hpl : (backTo pos (starEach [] X.env)).any (·.1) = false := by rfl) :
    PE X (.Call (.Name x p) [a] [] pos) (tKeep C f ta) := by
  refine ⟨fun pins s σ H Q I h => wpAny_Call_Name_kw (ld_glob I hg T.gC ?_ hdb)⟩
  refine PySem.W.callWith_K (h₀ := X.base) I.ok.mod.kin T.kC (thn (ha.run pos pins s σ H _ I h) fun us s1 hh => ?_) he hpl
  obtain ⟨vs, H1, I1, r1, v, ev, q1⟩ := hh
  subst ev
  refine ⟨I1.kIn, ?_⟩
  obtain ⟨v', rfl, rv⟩ := vals1 r1
  show wpAny _ _ (call (.ref C) [v']) _ _ _
  have hlim := I1.nolimit
  obtain ⟨hp, g, dr, tk, os⟩ := s1
  refine wpAny_call (mk I1.kIn hlim (by have := hr.dp; omega) fun h' tk' e d M => ?_)
  show EP X pins σ Q (.ref e) ⟨h', g, dr, tk', os⟩
  obtain ⟨t1, hoe⟩ := M.obj
  have hns := M.ns
  obtain ⟨G', g1, g2⟩ := restrict h' fun b => decide (b ≠ e)
  have gk : ∀ b, b ≠ e → G'.get? b = h'.get? b := fun b hb => g1 b (decide_eq_true hb)
  have ge : G'.get? e = none := g2 e (by simp)
  have old : ∀ b o, hp.get? b = some o → G'.get? b = some o := fun b o q => (gk b (Nat.ne_of_lt (Nat.lt_of_lt_of_le (Heap.lt_size q) M.new))).trans (M.keep b o q)
  have ob : ObjOk X.prog X.w (upd H1 d (.xd [(f, v)])) G' d (.xd [(f, v)]) := ⟨_, hns.at (fun o q => (gk d M.dne).trans q), fun g => relO_keep rv f g⟩
  have J : Inv X pins σ (upd H1 d (.xd [(f, v)])) ⟨G', g, dr, tk', os⟩ := I1.laid (t' := tk') old M.dbig ob
  have hd := I1.hok.fresh M.dbig
  have hne := I1.hok.fresh M.new
  have kp : ∀ b o, G'.get? b = some o → h'.get? b = some o := fun b o q => by
    by_cases hb : b = e
    · rw [hb, ge] at q
      cases q
    · exact (gk b hb).symm.trans q
  have J2 := J.laidN (h' := h') (a := e) (o := ExD C d e) (t' := tk') kp ge (by rw [upd_ne (Ne.symm M.dne)]; exact hne) (exD_ok hoe)
  exact ⟨.ref e, _, J2, rfl, q1 d e hd hne (Ne.symm M.dne)⟩
/-- e.n, e an exception that is tracked -/
def tXv (X : Cx) (n : Str) (te : TE) : TE := fun σ H Q => te σ H fun x H1 => ∃ (a d C : Addr) (fs : List (Str × V)) (v : V), x = .ref a ∧ H1 a = some (ExD C d a) ∧ H1 d = some (.xd fs) ∧ XfC X.K C ∧ PySem.W.findIn X.K (.ref C) n = some none ∧ fs.lookup n = some v ∧ Q v H1
theorem pe_xv {e : Expr} {te : TE} {pos : Pos} {n : Str} (he : PE X e te) (hb : attributeBase e n X.env (eval e X.env) = eval e X.env := by rfl) : PE X (.Attribute e n pos) (tXv X n te) := by
  refine ⟨fun pins s σ H Q I h => attr_of hb (thn (he.run pins s σ H _ I h) fun u s1 hh => ?_)⟩
  obtain ⟨x, H1, I1, rx, a, d, C, fs, v, ex, ea, ed, T, hno, l, q⟩ := hh
  subst ex
  obtain rfl : u = Value.ref a := rx
  obtain ⟨⟨t1, hg⟩, _, _⟩ := I1.hok a _ ea
  have hx : ObjOk X.prog X.w H1 s1.heap d (.xd fs) := I1.hok d _ ed
  obtain ⟨mA, hns, hr⟩ := hx
  obtain ⟨od, ho, hl⟩ := lookIn_ns hns
  obtain ⟨u, hu, ru⟩ := RelO.some_of (v := v) (o := mA n) (by rw [← l]; exact hr n)
  have J : PySem.W.InstAt s1.heap a _ C (some od) := ⟨hg, rfl, rfl, ho⟩
  exact HandSPX.exc_get I1.kIn J T.ga T.gg T.exC (PySem.W.findObj_own T.hdC hno rfl (by rw [hl, hu])) (handed_of ru) ⟨v, H1, I1.tok _, ru, q⟩
end
/-- at e stands an error of the class C that keeps v in f -/
def KeepAt (H : Hp) (e C : Addr) (f : Str) (v : V) : Prop := ∃ d, H e = some (ExD C d e) ∧ H d = some (.xd [(f, v)])
theorem KeepAt.same {H H' : Hp} {e C : Addr} {f : Str} {v : V} (k : KeepAt H e C f v) (s : Same H H') : KeepAt H' e C f v := by
  obtain ⟨d, h1, h2⟩ := k
  exact ⟨d, s _ _ h1, s _ _ h2⟩
theorem KeepAt.ev {H : Hp} {e C : Addr} {f : Str} {v : V} (k : KeepAt H e C f v) : EvH H e C := by
  obtain ⟨d, h1, h2⟩ := k
  exact .inr ⟨d, _, h1, h2⟩
theorem keep_new {H : Hp} {d e C : Addr} {f : Str} {v : V} (hd : H d = none) (he : H e = none) (ne : e ≠ d) : Same H (upd (upd H d (.xd [(f, v)])) e (ExD C d e)) ∧ KeepAt (upd (upd H d (.xd [(f, v)])) e (ExD C d e)) e C f v := by
  have s1 := K0.Same.new (.xd [(f, v)]) hd
  have s2 := K0.Same.new (H := upd H d (.xd [(f, v)])) (ExD C d e) (by rw [upd_ne ne]; exact he)
  exact ⟨K0.Same.tr s1 s2, d, upd_same, s2 _ _ upd_same⟩
theorem xf_of {K : PySem.W.Frag} {C : Addr} (e : ExcC K C) : XfC K C := ⟨e.hg, e.hk, e.hs, e.hd⟩
/-- the pairs of kept: the i-th one's class told, and what it keeps -/
def Pr7 (H : Hp) (told idx : V) : Nat → List Addr → Prop
  | _, [] => True
  | i, t :: r => H t = some (.tup [.str (txA i), if i = 20 then idx else told]) ∧ Pr7 H told idx (i + 1) r
theorem Pr7.same {H H' : Hp} {told idx : V} (s : Same H H') : ∀ {i : Nat} {ts : List Addr}, Pr7 H told idx i ts → Pr7 H' told idx i ts
  | _, [], _ => True.intro
  | _, _ :: _, h => ⟨s _ _ h.1, Pr7.same s h.2⟩
def spKept : Sp := fun vs H Q _ => ∃ (told idx : V), vs = [told, idx] ∧ ∀ (H' : Hp) (l t0 t1 t2 t3 t4 t5 t6 : Addr), Same H H' → H l = none → l ≠ sysModules → H' l = some (.lst [.ref t0, .ref t1, .ref t2, .ref t3, .ref t4, .ref t5, .ref t6]) → Pr7 H' told idx 20 [t0, t1, t2, t3, t4, t5, t6] → Q (.ref l) H'
section
variable {P : Program} {w : World} {K : PySem.W.Frag} {mg : Str → Option Value} {base : Heap} {ca : Nat → Addr} {fA : Addr} {fdA : FuncData}
theorem scKept : FnScope ["_law_told", "_law_index", "_law_parse", "_law_unknown", "_law_layered", "_law_number_here", "_law_undo", "_law_limit", "_law_refused", "_law_found"] ["_law_told", "_law_index"] (defScope sKept) := ⟨rfl, rfl, rfl, by decide +kernel, rfl, by decide +kernel, by decide +kernel⟩
/-- what is known of an own class that keeps something -/
structure KC (K : PySem.W.Frag) (mg : Str → Option Value) (P : Program) (w : World) (x : Str) (C : Addr) (f : Str) : Prop where
  c : ∃ (bmB : List Value) (newId : String), Cls0 K mg x C f bmB newId
  made : Makes K P w C f
structure EK (K : PySem.W.Frag) (mg : Str → Option Value) (P : Program) (w : World) (ca : Nat → Addr) : Prop where
  c20 : KC K mg P w "ParseError" (ca 20) "number"
  c21 : KC K mg P w "UnknownName" (ca 21) "word"
  c22 : KC K mg P w "NotLayered" (ca 22) "reason"
  c23 : KC K mg P w "InvalidNumber" (ca 23) "value"
  c24 : KC K mg P w "NothingToUndo" (ca 24) "many"
  c25 : KC K mg P w "TooMany" (ca 25) "limit"
  c26 : KC K mg P w "Refused" (ca 26) "pledge"
theorem ok_kept {f : Addr} {fd : FuncData} (F : Fun K "_law_kept" "_law_kept" sKept f fd) (T : EC K mg ca) (EK0 : EK K mg P w ca) (gA : mg "_law_all" = some (.ref fA)) (kA : PySem.W.keepIn K (.ref fA) = true)
    (GA : FnOk P w K mg base CX0 2 fA fdA ["_law_error"] (spErr txA ca)) (bA : Binds K fdA ["_law_error"] []) : FnOk P w K mg base CX0 3 f fd ["_law_told", "_law_index"] spKept := by
  obtain ⟨⟨bm0, n0, T0⟩, mk0⟩ := EK0.c20
  obtain ⟨⟨bm1, n1, T1⟩, mk1⟩ := EK0.c21
  obtain ⟨⟨bm2, n2, T2⟩, mk2⟩ := EK0.c22
  obtain ⟨⟨bm3, n3, T3⟩, mk3⟩ := EK0.c23
  obtain ⟨⟨bm4, n4, T4⟩, mk4⟩ := EK0.c24
  obtain ⟨⟨bm5, n5, T5⟩, mk5⟩ := EK0.c25
  obtain ⟨⟨bm6, n6, T6⟩, mk6⟩ := EK0.c26
  refine F.ok scKept (fun vs H Q E h => ?_) (fun cdv A outer s H vs Q E hr h => ?_)
  · obtain ⟨told, idx, rfl, _⟩ := h
    rfl
  · obtain ⟨told, idx, rfl, k⟩ := h
    refine ⟨_, C8.pss_cut (ps_par (i := 2) (j := 3) rfl scKept.nd rfl rfl (by decide) rfl rfl (pa_cons (pe_keep T0 mk0 hr (pa_cons (pv 1) pa_nil)) (pa_cons (pe_keep T1 mk1 hr (pa_cons (pv 0) pa_nil)) pa_nil)) rfl)
      (C8.pss_cut (ps_par (i := 4) (j := 5) rfl scKept.nd rfl rfl (by decide) rfl rfl (pa_cons (pe_keep T2 mk2 hr (pa_cons (pv 0) pa_nil)) (pa_cons (pe_keep T3 mk3 hr (pa_cons (pv 0) pa_nil)) pa_nil)) rfl)
      (C8.pss_cut (ps_par3 (i := 6) (j := 7) (l := 8) rfl scKept.nd rfl rfl rfl (by decide) (by decide) (by decide) rfl rfl rfl (pa_cons (pe_keep T4 mk4 hr (pa_cons (pv 0) pa_nil)) (pa_cons (pe_keep T5 mk5 hr (pa_cons (pv 0) pa_nil)) (pa_cons (pe_keep T6 mk6 hr (pa_cons (pv 0) pa_nil)) pa_nil))) rfl)
      (C8.pss_cut (ps_set (i := 9) scKept.nd rfl (Or.inl rfl) (pe_lst (pa_cons (pe_tup (pa_cons (pe_call GA hr (by rfl) gA kA bA .nil pass0 (pa_cons (pv 2) pa_nil)) (pa_cons (pe_xv (pv 2)) pa_nil))) (pa_cons (pe_tup (pa_cons (pe_call GA hr (by rfl) gA kA bA .nil pass0 (pa_cons (pv 3) pa_nil)) (pa_cons (pe_xv (pv 3)) pa_nil)))
          (pa_cons (pe_tup (pa_cons (pe_call GA hr (by rfl) gA kA bA .nil pass0 (pa_cons (pv 4) pa_nil)) (pa_cons (pe_xv (pv 4)) pa_nil))) pa_nil)))))
      (C8.pss_cut (ps_set (i := 9) scKept.nd rfl (Or.inl rfl) (pe_op op_cat (pv 9) (pe_lst (pa_cons (pe_tup (pa_cons (pe_call GA hr (by rfl) gA kA bA .nil pass0 (pa_cons (pv 5) pa_nil)) (pa_cons (pe_xv (pv 5)) pa_nil))) (pa_cons (pe_tup (pa_cons (pe_call GA hr (by rfl) gA kA bA .nil pass0 (pa_cons (pv 6) pa_nil)) (pa_cons (pe_xv (pv 6)) pa_nil)))
          (pa_cons (pe_tup (pa_cons (pe_call GA hr (by rfl) gA kA bA .nil pass0 (pa_cons (pv 7) pa_nil)) (pa_cons (pe_xv (pv 7)) pa_nil))) pa_nil))))))
      (pss_one (ps_ret (pe_op op_catN (pv 9) (pe_lst (pa_cons (pe_tup (pa_cons (pe_call GA hr (by rfl) gA kA bA .nil pass0 (pa_cons (pv 8) pa_nil)) (pa_cons (pe_xv (pv 8)) pa_nil))) pa_nil))))))))), ?_⟩
    refine ⟨fun σ H' => ∃ (e2 e3 : Addr), σ = [some told, some idx, some (.ref e2), some (.ref e3), none, none, none, none, none, none] ∧ Same H H' ∧ KeepAt H' e2 (ca 20) "number" idx ∧ KeepAt H' e3 (ca 21) "word" told, ?_, ?_⟩
    · refine ⟨_, rfl, idx, rfl, fun d2 e2 h1 h2 h3 => ⟨_, rfl, told, rfl, fun d3 e3 h4 h5 h6 => ⟨_, _, rfl, e2, e3, rfl, ?_⟩⟩⟩
      obtain ⟨s1, k1⟩ := keep_new (C := ca 20) (f := "number") (v := idx) h1 h2 h3
      obtain ⟨s2, k2⟩ := keep_new (C := ca 21) (f := "word") (v := told) h4 h5 h6
      exact ⟨K0.Same.tr s1 s2, k1.same s2, k2⟩
    rintro σ H1 ⟨e2, e3, rfl, sA, kp2, kp3⟩
    refine ⟨fun σ H' => ∃ (e4 e5 : Addr), σ = [some told, some idx, some (.ref e2), some (.ref e3), some (.ref e4), some (.ref e5), none, none, none, none] ∧ Same H1 H' ∧ KeepAt H' e4 (ca 22) "reason" told ∧ KeepAt H' e5 (ca 23) "value" told, ?_, ?_⟩
    · refine ⟨_, rfl, told, rfl, fun d2 e2 h1 h2 h3 => ⟨_, rfl, told, rfl, fun d3 e3 h4 h5 h6 => ⟨_, _, rfl, e2, e3, rfl, ?_⟩⟩⟩
      obtain ⟨s1, k1⟩ := keep_new (C := ca 22) (f := "reason") (v := told) h1 h2 h3
      obtain ⟨s2, k2⟩ := keep_new (C := ca 23) (f := "value") (v := told) h4 h5 h6
      exact ⟨K0.Same.tr s1 s2, k1.same s2, k2⟩
    rintro σ H2 ⟨e4, e5, rfl, sB, kp4, kp5⟩
    refine ⟨fun σ H' => ∃ (e6 e7 e8 : Addr), σ = [some told, some idx, some (.ref e2), some (.ref e3), some (.ref e4), some (.ref e5), some (.ref e6), some (.ref e7), some (.ref e8), none] ∧ Same H2 H' ∧ KeepAt H' e6 (ca 24) "many" told ∧ KeepAt H' e7 (ca 25) "limit" told ∧ KeepAt H' e8 (ca 26) "pledge" told, ?_, ?_⟩
    · refine ⟨_, rfl, told, rfl, fun d2 e2 h1 h2 h3 => ⟨_, rfl, told, rfl, fun d3 e3 h4 h5 h6 => ⟨_, rfl, told, rfl, fun d4 e4 h7 h8 h9 => ⟨_, _, _, rfl, e2, e3, e4, rfl, ?_⟩⟩⟩⟩
      obtain ⟨s1, k1⟩ := keep_new (C := ca 24) (f := "many") (v := told) h1 h2 h3
      obtain ⟨s2, k2⟩ := keep_new (C := ca 25) (f := "limit") (v := told) h4 h5 h6
      obtain ⟨s3, k3⟩ := keep_new (C := ca 26) (f := "pledge") (v := told) h7 h8 h9
      exact ⟨K0.Same.tr s1 (K0.Same.tr s2 s3), k1.same (K0.Same.tr s2 s3), k2.same s3, k3⟩
    rintro σ H3 ⟨e6, e7, e8, rfl, sC, kp6, kp7, kp8⟩
    have kp4 := kp4.same sC
    have kp5 := kp5.same sC
    have kp2 := kp2.same (K0.Same.tr sB sC)
    have kp3 := kp3.same (K0.Same.tr sB sC)
    have sD := K0.Same.tr sA (K0.Same.tr sB sC)
    clear sA sB sC
    refine ⟨fun σ H' => ∃ (l t0 t1 t2 : Addr), (∃ s2 s3 s4 : Option V, σ = [some told, some idx, s2, s3, s4, some (.ref e5), some (.ref e6), some (.ref e7), some (.ref e8), some (.ref l)]) ∧ Same H3 H' ∧ H3 l = none ∧ H' l = some (.lst [.ref t0, .ref t1, .ref t2]) ∧ Pr7 H' told idx 20 [t0, t1, t2], ?_, ?_⟩
    · obtain ⟨d2, a2, b2⟩ := kp2
      refine ⟨_, rfl, e2, 20, rfl, by decide, .inr ⟨d2, _, a2, b2⟩, _, rfl, e2, d2, ca 20, _, idx, rfl, a2, b2, xf_of (T.exc 20 (by decide)), T0.noN, rfl, by show 2 ≤ sizeLine; decide, fun t0 h0 => ?_⟩
      have z0 := K0.Same.new (.tup [.str (txA 20), idx]) h0
      obtain ⟨d3, a3, b3⟩ := kp3.same z0
      refine ⟨_, rfl, e3, 21, rfl, by decide, .inr ⟨d3, _, a3, b3⟩, _, rfl, e3, d3, ca 21, _, told, rfl, a3, b3, xf_of (T.exc 21 (by decide)), T1.noN, rfl, by show 2 ≤ sizeLine; decide, fun t1 h1 => ?_⟩
      have z1 := K0.Same.new (.tup [.str (txA 21), told]) h1
      obtain ⟨d4, a4, b4⟩ := kp4.same (K0.Same.tr z0 z1)
      refine ⟨_, rfl, e4, 22, rfl, by decide, .inr ⟨d4, _, a4, b4⟩, _, rfl, e4, d4, ca 22, _, told, rfl, a4, b4, xf_of (T.exc 22 (by decide)), T2.noN, rfl, by show 2 ≤ sizeLine; decide, fun t2 h2 => ?_⟩
      have z2 := K0.Same.new (.tup [.str (txA 22), told]) h2
      refine ⟨by show 3 ≤ sizeLine; decide, fun l hl => ?_⟩
      have z3 := K0.Same.new (.lst [.ref t0, .ref t1, .ref t2]) hl
      have z02 := K0.Same.tr z0 (K0.Same.tr z1 z2)
      exact ⟨l, t0, t1, t2, ⟨_, _, _, rfl⟩, K0.Same.tr z02 z3, none_of z02 hl, upd_same, (K0.Same.tr z1 (K0.Same.tr z2 z3)) _ _ upd_same, (K0.Same.tr z2 z3) _ _ upd_same, z3 _ _ upd_same, True.intro⟩
    rintro σ H4 ⟨l, t0, t1, t2, ⟨s2, s3, s4, rfl⟩, sE, ln, hl, pr⟩
    have kp5 := kp5.same sE
    have kp6 := kp6.same sE
    have kp7 := kp7.same sE
    have kp8 := kp8.same sE
    refine ⟨fun σ H' => ∃ (l t3 t4 t5 : Addr), (∃ s2 s3 s4 s5 s6 s7 : Option V, σ = [some told, some idx, s2, s3, s4, s5, s6, s7, some (.ref e8), some (.ref l)]) ∧ Same H4 H' ∧ H4 l = none ∧ H' l = some (.lst [.ref t0, .ref t1, .ref t2, .ref t3, .ref t4, .ref t5]) ∧ Pr7 H' told idx 20 [t0, t1, t2, t3, t4, t5], ?_, ?_⟩
    · obtain ⟨d2, a2, b2⟩ := kp5
      refine ⟨_, rfl, _, rfl, e5, 23, rfl, by decide, .inr ⟨d2, _, a2, b2⟩, _, rfl, e5, d2, ca 23, _, told, rfl, a2, b2, xf_of (T.exc 23 (by decide)), T3.noN, rfl, by show 2 ≤ sizeLine; decide, fun t3 h0 => ?_⟩
      have z0 := K0.Same.new (.tup [.str (txA 23), told]) h0
      obtain ⟨d3, a3, b3⟩ := kp6.same z0
      refine ⟨_, rfl, e6, 24, rfl, by decide, .inr ⟨d3, _, a3, b3⟩, _, rfl, e6, d3, ca 24, _, told, rfl, a3, b3, xf_of (T.exc 24 (by decide)), T4.noN, rfl, by show 2 ≤ sizeLine; decide, fun t4 h1 => ?_⟩
      have z1 := K0.Same.new (.tup [.str (txA 24), told]) h1
      obtain ⟨d4, a4, b4⟩ := kp7.same (K0.Same.tr z0 z1)
      refine ⟨_, rfl, e7, 25, rfl, by decide, .inr ⟨d4, _, a4, b4⟩, _, rfl, e7, d4, ca 25, _, told, rfl, a4, b4, xf_of (T.exc 25 (by decide)), T5.noN, rfl, by show 2 ≤ sizeLine; decide, fun t5 h2 => ?_⟩
      have z2 := K0.Same.new (.tup [.str (txA 25), told]) h2
      refine ⟨by show 3 ≤ sizeLine; decide, fun m hm => ?_⟩
      have z3 := K0.Same.new (.lst [.ref t3, .ref t4, .ref t5]) hm
      have z02 := K0.Same.tr z0 (K0.Same.tr z1 z2)
      refine ⟨l, m, _, _, rfl, rfl, z3 _ _ (z02 _ _ hl), upd_same, by show 3 + 3 ≤ sizeLine; decide, fun l2 hl2 => ?_⟩
      have z4 := K0.Same.new (.lst ([V.ref t0, .ref t1, .ref t2] ++ [.ref t3, .ref t4, .ref t5])) hl2
      have y3 := K0.Same.tr z3 z4
      have zA := K0.Same.tr z02 y3
      exact ⟨l2, t3, t4, t5, ⟨_, _, _, _, _, _, rfl⟩, zA, none_of (K0.Same.tr z02 z3) hl2, upd_same, zA _ _ pr.1, zA _ _ pr.2.1, zA _ _ pr.2.2.1, (K0.Same.tr z1 (K0.Same.tr z2 y3)) _ _ upd_same, (K0.Same.tr z2 y3) _ _ upd_same, y3 _ _ upd_same, True.intro⟩
    rintro σ H5 ⟨l2, t3, t4, t5, ⟨s2, s3, s4, s5, s6, s7, rfl⟩, sF, ln2, hl2, pr2⟩
    obtain ⟨d2, a2, b2⟩ := kp8.same sF
    refine ⟨_, rfl, _, rfl, e8, 26, rfl, by decide, .inr ⟨d2, _, a2, b2⟩, _, rfl, e8, d2, ca 26, _, told, rfl, a2, b2, xf_of (T.exc 26 (by decide)), T6.noN, rfl, by show 2 ≤ sizeLine; decide, fun t6 h0 => ⟨by show 1 ≤ sizeLine; decide, fun m hm => ?_⟩⟩
    have z0 := K0.Same.new (.tup [.str (txA 26), told]) h0
    have z3 := K0.Same.new (.lst [.ref t6]) hm
    refine ⟨l2, m, _, _, rfl, rfl, z3 _ _ (z0 _ _ hl2), upd_same, by show 6 + 1 ≤ sizeLine; decide, fun l3 hl3 nsl => ?_⟩
    have z4 := K0.Same.new (.lst ([V.ref t0, .ref t1, .ref t2, .ref t3, .ref t4, .ref t5] ++ [.ref t6])) hl3
    have y3 := K0.Same.tr z3 z4
    have zA := K0.Same.tr z0 y3
    have tot := K0.Same.tr sD (K0.Same.tr sE (K0.Same.tr sF (K0.Same.tr z0 z3)))
    exact k _ l3 t0 t1 t2 t3 t4 t5 t6 (K0.Same.tr tot z4) (none_of tot hl3) nsl upd_same ⟨zA _ _ pr2.1, zA _ _ pr2.2.1, zA _ _ pr2.2.2.1, zA _ _ pr2.2.2.2.1, zA _ _ pr2.2.2.2.2.1, zA _ _ pr2.2.2.2.2.2.1, y3 _ _ upd_same, True.intro⟩
end
end K0

/-! ## G7 -/
set_option maxRecDepth 100000
set_option maxHeartbeats 4000000
namespace K0
open PySem PySem.Spec PyProof.Rows L2 L2H
/-! ### first_half called within a suite, of the error that is held -/
theorem isE_pin {X : Cx} {a D : Addr} {oe : Obj} {H : Hp} (hp : (a, oe) ∈ X.pn) (hz : Zc (.ref D) none oe) (hf : ∃ vs, oe.data = .fields vs) : IsE X a D H := by
  intro pins σ s I
  obtain ⟨hget, _⟩ := I.pin (a, oe) (List.mem_append_left _ hp)
  obtain ⟨vs, hd⟩ := hf
  refine ⟨oe, none, ?_⟩
  obtain ⟨oc, od, oda, osl⟩ := oe
  obtain ⟨z1, z2⟩ := hz
  dsimp only at z1 z2 hd
  subst z1 z2 hd
  exact ⟨hget, rfl, rfl, trivial⟩
section
variable {P : Program} {w : World} {K : PySem.W.Frag} {mg : Str → Option Value} {base : Heap} {ca : Nat → Addr}
theorem hot_fst {f : Addr} {fd : FuncData} (F : Fun K "_law_first_half" "_law_first_half" sFst f fd) (T : EC K mg ca) {A : Around} {outer : List Env} {s : Shared} {H : Hp} {a : Addr} {oe : Obj} {i : Nat} {Q : VK} {E : XK} (hr : RoomH 2 A) (hpin : PinOk outer H s (a, oe)) (hz : Zc (.ref (ca i)) none oe) (hf : ∃ vs, oe.data = .fields vs)
    (e0 : Env0 P w K mg base A outer s H) (hb : BindsTo s fd ⟨[.ref a], []⟩ [("_law_error", .ref a)]) (h28 : i < 28) (k : Q (.str (txF i)) H) : codeAny (model P w) A (.call (.ref f) ⟨[.ref a], []⟩) (CR CX0 outer P w H s Q E) s := by
  obtain ⟨oc, od, kV, doc, pm, an, cdv, ct, osl, rfl, lk, hcd⟩ := F.ex
  have KX : K.In s.heap := e0.mod.kin.keeps fun b o e => (e0.bs b o e).1
  have lim : s.heap.NoLimit := e0.mod.nolimit.keeps fun b o e => (e0.bs b o e).1
  have kinds : ∀ y ∈ [(("_law_error" : Str), Value.ref a)], (defScope sFst).names.lookup y.1 = some .local ∨ ((defScope sFst).names.lookup y.1 = some .cell ∧ ((cellsFrom (s.heap.objs.size + 1) (defScope sFst).names []).lookup y.1).isSome = true) := fun y hy => by
    rw [List.mem_singleton.mp hy]
    exact .inl rfl
  refine codeAny_call_function hr.depth (KX _ _ lk) rfl scFst.co scFst.gen rfl (PySem.W.codeRec_of KX hcd) (hb _ _ _ _ (wpAny_newFunctionEnv_cells scFst.kind kinds fun env he s1 x => ?_))
  subst he
  refine ⟨lim.keeps x.toInCall.keep, codeAny_func ?_⟩
  have he := T.exc i h28
  have body : ∃ t, PSs (cxH CX0 P w K mg base ["_law_error", "_law_found"] "_law_first_half" (defScope sFst) f cdv A outer s H E (a, oe)) (defBody sFst) t ∧ t { nx := fun _ H' => Q .non H', rt := Q } (L2.start ["_law_error", "_law_found"] [.ref a]) H := by
    have hi : IsE (cxH CX0 P w K mg base ["_law_error", "_law_found"] "_law_first_half" (defScope sFst) f cdv A outer s H E (a, oe)) a (ca i) H := isE_pin (List.mem_singleton.mpr rfl) hz hf
    refine ⟨_, pss_cons (ps_set (i := 1) scFst.nd rfl (Or.inl rfl) (pe_op op_add_str (pe_let (x := "InvalidQuestion") rfl (.inl rfl) rfl T.isi rfl T.int rfl (T.g0)) (pe_let (x := "InvalidClause") rfl (.inl rfl) rfl T.isi rfl T.int rfl (T.g1))))
      (pss_cons (ps_set (i := 1) scFst.nd rfl (Or.inl rfl) (pe_op op_add_str (pe_op op_add_str (pv 1) (pe_let (x := "InvalidStore") rfl (.inl rfl) rfl T.isi rfl T.int rfl (T.g2))) (pe_let (x := "InvalidTable") rfl (.inl rfl) rfl T.isi rfl T.int rfl (T.g3))))
      (pss_cons (ps_set (i := 1) scFst.nd rfl (Or.inl rfl) (pe_op op_add_str (pe_op op_add_str (pv 1) (pe_let (x := "InvalidRow") rfl (.inl rfl) rfl T.isi rfl T.int rfl (T.g4))) (pe_let (x := "InvalidReading") rfl (.inl rfl) rfl T.isi rfl T.int rfl (T.g5))))
      (pss_cons (ps_set (i := 1) scFst.nd rfl (Or.inl rfl) (pe_op op_add_str (pe_op op_add_str (pv 1) (pe_let (x := "InvalidMap") rfl (.inl rfl) rfl T.isi rfl T.int rfl (T.g6))) (pe_let (x := "InvalidKnot") rfl (.inl rfl) rfl T.isi rfl T.int rfl (T.g7))))
      (pss_one (ps_ret (pe_op op_add_str (pe_op op_add_str (pv 1) (pe_let (x := "InvalidProgram") rfl (.inl rfl) rfl T.isi rfl T.int rfl (T.g8))) (pe_let (x := "InvalidOrder") rfl (.inl rfl) rfl T.isi rfl T.int rfl (T.g9)))))))), ?_⟩
    have l0 : (rep (tabE i 0) "a").length ≤ 1 := rep_len _ _
    have l1 : (rep (tabE i 1) "b").length ≤ 1 := rep_len _ _
    have l2 : (rep (tabE i 2) "c").length ≤ 1 := rep_len _ _
    have l3 : (rep (tabE i 3) "d").length ≤ 1 := rep_len _ _
    have l4 : (rep (tabE i 4) "e").length ≤ 1 := rep_len _ _
    have l5 : (rep (tabE i 5) "f").length ≤ 1 := rep_len _ _
    have l6 : (rep (tabE i 6) "g").length ≤ 1 := rep_len _ _
    have l7 : (rep (tabE i 7) "h").length ≤ 1 := rep_len _ _
    have l8 : (rep (tabE i 8) "i").length ≤ 1 := rep_len _ _
    have l9 : (rep (tabE i 9) "j").length ≤ 1 := rep_len _ _
    refine ⟨a, _, _, rfl, hi, he, (T.kE i 0 h28 (by decide)), a, _, _, rfl, hi, he, (T.kE i 1 h28 (by decide)), _, _, rfl, rfl, Nat.le_of_lt (small1000 (by first | omega | (simp only [app_len]; omega))), ?_⟩
    refine ⟨_, rfl, a, _, _, rfl, hi, he, (T.kE i 2 h28 (by decide)), _, _, rfl, rfl, Nat.le_of_lt (small1000 (by first | omega | (simp only [app_len]; omega))), ?_⟩
    refine ⟨a, _, _, rfl, hi, he, (T.kE i 3 h28 (by decide)), _, _, rfl, rfl, Nat.le_of_lt (small1000 (by first | omega | (simp only [app_len]; omega))), ?_⟩
    refine ⟨_, rfl, a, _, _, rfl, hi, he, (T.kE i 4 h28 (by decide)), _, _, rfl, rfl, Nat.le_of_lt (small1000 (by first | omega | (simp only [app_len]; omega))), ?_⟩
    refine ⟨a, _, _, rfl, hi, he, (T.kE i 5 h28 (by decide)), _, _, rfl, rfl, Nat.le_of_lt (small1000 (by first | omega | (simp only [app_len]; omega))), ?_⟩
    refine ⟨_, rfl, a, _, _, rfl, hi, he, (T.kE i 6 h28 (by decide)), _, _, rfl, rfl, Nat.le_of_lt (small1000 (by first | omega | (simp only [app_len]; omega))), ?_⟩
    refine ⟨a, _, _, rfl, hi, he, (T.kE i 7 h28 (by decide)), _, _, rfl, rfl, Nat.le_of_lt (small1000 (by first | omega | (simp only [app_len]; omega))), ?_⟩
    refine ⟨_, rfl, a, _, _, rfl, hi, he, (T.kE i 8 h28 (by decide)), _, _, rfl, rfl, Nat.le_of_lt (small1000 (by first | omega | (simp only [app_len]; omega))), ?_⟩
    refine ⟨a, _, _, rfl, hi, he, (T.kE i 9 h28 (by decide)), _, _, rfl, rfl, Nat.le_of_lt (small1000 (by first | omega | (simp only [app_len]; omega))), ?_⟩
    exact k
  obtain ⟨t, ht, hq⟩ := body
  have I : Inv (cxH CX0 P w K mg base ["_law_error", "_law_found"] "_law_first_half" (defScope sFst) f cdv A outer s H E (a, oe)) [] (L2.start ["_law_error", "_law_found"] [.ref a]) H s1 := inv_startH (ps := ["_law_error"]) (us := [.ref a]) scFst hpin e0 rfl (.cons rfl .nil) x
  have fin : ∀ {s' : Shared} {σ' : L2.St} {H' : Hp} {v : V} {u : Value}, Inv (cxH CX0 P w K mg base ["_law_error", "_law_found"] "_law_first_half" (defScope sFst) f cdv A outer s H E (a, oe)) [] σ' H' s' → RelV v u → Q v H' → CE outer P w H s Q u s' :=
    fun {s' σ' H' v u} J rv q => ⟨v, H', J.os, J.bare, J.base, J.hok, rv, q⟩
  refine wpAny_mono (ht.run [] s1 (L2.start ["_law_error", "_law_found"] [.ref a]) H _ I hq) (fun fl s' hs => ?_) fun e s' hs => hs
  rcases fl with _ | _ | _ | u
  · obtain ⟨σ', H', J, q⟩ := hs
    exact fin (v := V.non) (u := Value.none) J rfl q
  · obtain ⟨_, _, _, q⟩ := hs
    exact False.elim q
  · obtain ⟨_, _, _, q⟩ := hs
    exact False.elim q
  · obtain ⟨v, σ', H', J, rv, q⟩ := hs
    exact fin J rv q
end
section
variable {Y : Cx} {a : Addr} {oe : Obj} {pn : List (Addr × Obj)} {ca : Nat → Addr}
/-- first_half(e), e the error that the suite holds -/
def tHot (i : Nat) (a : Addr) (te : TE) : TE := fun σ H Q => te σ H fun x H1 => [x] = [V.ref a] ∧ Q (.str (txF i)) H1
theorem pe_hot {f : Addr} {fd : FuncData} {i : Nat} {e : Expr} {te : TE} {q pos : Pos} (F : Fun Y.K "_law_first_half" "_law_first_half" sFst f fd) (b : Binds Y.K fd ["_law_error"] []) (T : EC Y.K Y.mg ca) (hg : Gl Y "_law_first_half") (hm : Y.mg "_law_first_half" = some (.ref f)) (hr : RoomH 2 Y.A) (hz : Zc (.ref (ca i)) none oe) (hf : ∃ vs, oe.data = .fields vs) (h28 : i < 28)
    (he : PE (Y.suite a ((a, oe) :: pn)) e te) (hs : starEach [e] Y.env = (false, eval e Y.env) :: starEach [] Y.env := by rfl) : PE (Y.suite a ((a, oe) :: pn)) (.Call (.Name "_law_first_half" q) [e] [] pos) (tHot i a te) := by
  refine ⟨fun pins s σ H Q I h => wpAny_Call_Name_kw (ld_glob I hg hm ?_ (by decide))⟩
  have ha := pa_cons (hs := hs) he (pa_nil (X := Y.suite a ((a, oe) :: pn)))
  refine PySem.W.callWith_K (h₀ := Y.base) I.ok.mod.kin F.kp (thn (ha.run pos pins s σ H (fun vs H1 => vs = [.ref a] ∧ Q (.str (txF i)) H1) I ?_) fun us s1 ⟨vs, H1, I1, r, ev, q⟩ => ⟨I1.kIn, ?_⟩) hs (by rfl)
  · exact h
  · subst ev
    rw [Vals.ref1 r]
    have P1 := I1.pin (a, oe) (List.mem_append_left _ List.mem_cons_self)
    have hpin : PinOk (Y.suite a ((a, oe) :: pn)).stack H1 s1 (a, oe) := ⟨P1.1, P1.2.1, fun hm => (List.mem_cons.mp (I1.stkSub a hm)).elim P1.2.2.1 P1.2.2.2.1, P1.2.2.2.2⟩
    have bt := b s1 [.ref a] I1.kIn rfl
    refine wpAny_call (codeAny_mono (hot_fst F T (A := (Y.suite a ((a, oe) :: pn)).A) (E := fun _ _ _ => False) ⟨hr.dp, hr.un⟩ hpin hz hf I1.env0 bt h28 q) fun r s' hq => ?_)
    cases r with
    | error e => exact (show False from hq).elim
    | ok fl =>
      cases fl with
      | ret u => exact I1.after hq
      | next => exact False.elim hq
      | brk => exact False.elim hq
      | cont => exact False.elim hq
end
end K0

/-! ## G8 -/
set_option maxRecDepth 100000
set_option maxHeartbeats 4000000
namespace K0
open PySem PySem.Spec PyProof.Rows L2 L2H PySem.KeepX
abbrev sCau : Stmt := top 63
/-! ### what is kept, shown -/
inductive Tk (K : PySem.W.Frag) (H : Hp) : V → PyData → Prop
  | dp {v : V} {d : PyData} : Dp K H v d → Tk K H v d
  | sc {v : V} {d : PyData} : Sc H v d → Tk K H v d
theorem Sc.same {H H' : Hp} (s : Same H H') {v : V} {d : PyData} (h : Sc H v d) : Sc H' v d := by
  cases h with
  | non => exact .non
  | bl b => exact .bl b
  | int i => exact .int i
  | str x => exact .str x
  | d7 e => exact .d7 (s _ _ e)
mutual
theorem dp_same {K : PySem.W.Frag} {H H' : Hp} (s : Same H H') : ∀ (d : PyData) (v : V), Dp K H v d → Dp K H' v d
  | .none, _, h => by cases h; exact .non
  | .bool _, _, h => by cases h; exact .bl _
  | .int _, _, h => by cases h; exact .int _
  | .str _, _, h => by cases h; exact .str _
  | .list ds, _, h => by
    cases h with
    | lst h1 ha => exact .lst (s.seq h1) (dps_same s ds _ ha)
  | .tuple ds, _, h => by
    cases h with
    | tup h1 ha => exact .tup (seqT s h1) (dps_same s ds _ ha)
  | .dict _, _, h => by cases h
theorem dps_same {K : PySem.W.Frag} {H H' : Hp} (s : Same H H') : ∀ (ds : List PyData) (vs : List V), DpAll K H vs ds → DpAll K H' vs ds
  | [], _, h => by cases h; exact .nil
  | d :: ds, _, h => by
    cases h with
    | cons h1 h2 => exact .cons (dp_same s d _ h1) (dps_same s ds _ h2)
end
theorem Tk.same {K : PySem.W.Frag} {H H' : Hp} (s : Same H H') {v : V} {d : PyData} (h : Tk K H v d) : Tk K H' v d := by
  cases h with
  | dp h => exact .dp (dp_same s _ _ h)
  | sc h => exact .sc (h.same s)
def rRepT (K : PySem.W.Frag) : List V → Hp → VK → Prop := fun vs H Q => ∃ (x : V) (d : PyData), vs = [x] ∧ (Tk K H x d ∨ D7 H x d) ∧ d.showable = true ∧ d.depth ≤ 20 ∧ d.shown.length ≤ 1000 ∧ Q (.str d.shown) H
theorem cr_reprT {X : Cx} (hgd : X.A.guards = some []) (hu : X.A.units + 64 < cLine) : CallR X (.builtin "repr") (rRepT X.K) := by
  intro pins s σ H vs us Q I r h
  obtain ⟨x, d, e, hd, h1, h2, h3, q⟩ := h
  rcases hd with hd | hd
  · cases hd with
    | dp z => exact cr_repr hgd hu pins s σ H vs us Q I r ⟨x, d, e, .of z, h1, h2, h3, q⟩
    | sc z => exact cr_repr7 hgd hu pins s σ H vs us Q I r ⟨x, d, e, .of z, h1, h2, h3, q⟩
  · exact cr_repr7 hgd hu pins s σ H vs us Q I r ⟨x, d, e, hd, h1, h2, h3, q⟩
/-- first_half(e) in a suite whose error may be another one -/
def tHot2 (i : Nat) (a : Addr) (ca : Nat → Addr) (cls : Value) (d : Option Addr) (te : TE) : TE := fun σ H Q => (cls = .ref (ca i) ∧ d = none) ∧ tHot i a te σ H Q
theorem pe_hot2 {Y : Cx} {a : Addr} {oe : Obj} {pn : List (Addr × Obj)} {ca : Nat → Addr} {f : Addr} {fd : FuncData} {i : Nat} {cls : Value} {d : Option Addr} {e : Expr} {te : TE} {q pos : Pos} (F : Fun Y.K "_law_first_half" "_law_first_half" sFst f fd) (b : Binds Y.K fd ["_law_error"] []) (T : EC Y.K Y.mg ca) (hg : Gl Y "_law_first_half")
    (hm : Y.mg "_law_first_half" = some (.ref f)) (hr : RoomH 2 Y.A) (hz : Zc cls d oe) (hf : ∃ vs, oe.data = .fields vs) (h28 : i < 28) (he : PE (Y.suite a ((a, oe) :: pn)) e te) (hs : starEach [e] Y.env = (false, eval e Y.env) :: starEach [] Y.env := by rfl) :
    PE (Y.suite a ((a, oe) :: pn)) (.Call (.Name "_law_first_half" q) [e] [] pos) (tHot2 i a ca cls d te) := ⟨fun pins s σ H Q I h => by
  obtain ⟨⟨rfl, rfl⟩, h⟩ := h
  exact (pe_hot F b T hg hm hr hz hf h28 he hs).run pins s σ H Q I h⟩
structure TCa (K : PySem.W.Frag) (mg : Str → Option Value) (ca : Nat → Addr) (f1 : Addr) : Prop where
  repr : mg "repr" = none
  g1 : mg "_law_first_half" = some (.ref f1)
  a0 : PySem.W.exmOne K (.ref (ca 7)) (.ref (ca 27)) = some true
  b0 : PySem.W.exmOne K (.ref (ca 26)) (.ref (ca 27)) = some false
  b1 : PySem.W.exmOne K (.ref (ca 26)) (.ref (ca 26)) = some true
  c0 : PySem.W.exmOne K (.ref (ca 22)) (.ref (ca 27)) = some false
  c1 : PySem.W.exmOne K (.ref (ca 22)) (.ref (ca 26)) = some false
  c2 : PySem.W.exmOne K (.ref (ca 22)) (.ref (ca 22)) = some true
  t7 : PySem.W.typeIn K (.ref (ca 7)) = some (.type "type")
def txC (way : Int) (pd : PyData) : Str := if way = 0 then "base h" else if way = 1 then ("refused " : Str) ++ pd.shown else ("layered " : Str) ++ pd.shown
theorem base_h : (("base " : Str) ++ txF 7) = "base h" := by decide +kernel
def spCau (K : PySem.W.Frag) : Sp := fun vs H Q _ => ∃ (told : V) (way : Int) (pd : PyData), vs = [told, .int way] ∧ 0 ≤ way ∧ way < 3 ∧ Tk K H told pd ∧ pd.showable = true ∧ pd.depth ≤ 20 ∧ pd.shown.length ≤ 900 ∧ ∀ H', Same H H' → Q (.str (txC way pd)) H'
section
variable {P : Program} {w : World} {K : PySem.W.Frag} {mg : Str → Option Value} {base : Heap} {ca : Nat → Addr} {f1 : Addr} {fd1 : FuncData}
theorem scCau : FnScope ["_law_told", "_law_way", "e"] ["_law_told", "_law_way"] (defScope sCau) := ⟨rfl, rfl, rfl, by decide +kernel, rfl, by decide +kernel, by decide +kernel⟩
theorem ok_cau {f : Addr} {fd : FuncData} (F : Fun K "_law_caught" "_law_caught" sCau f fd) (T : EC K mg ca) (M : EM K ca) (EK0 : EK K mg P w ca) (J : TCa K mg ca f1) (F1 : Fun K "_law_first_half" "_law_first_half" sFst f1 fd1) (b1 : Binds K fd1 ["_law_error"] []) : FnG P w K mg base CX0 3 f fd ["_law_told", "_law_way"] (spCau K) := by
  obtain ⟨⟨bm2, n2, T2⟩, mk2⟩ := EK0.c22
  obtain ⟨⟨bm6, n6, T6⟩, mk6⟩ := EK0.c26
  refine gfn F scCau (fun vs H Q E h => ?_) (fun cdv A outer s H vs Q E hr hgd h => ?_)
  · obtain ⟨told, way, pd, rfl, _⟩ := h
    rfl
  · obtain ⟨told, way, pd, rfl, w0, w3, tk0, sh, dep, len, k⟩ := h
    refine ⟨_, PSs.nox (pss_one (ps_tryC rfl rfl LamX.takes0 (fun W pn xe tk _ => pss_cons (ps_if (pt_cmpR op_eq (pv 1) pe_int (nomark _)) (pss_one (ps_raise rfl tk (pmk_own PySem.F.excBase_ValueError (M.xi 7 (.inl (by decide))) T.g7 (M.kp 7 (by decide)) (raises_own (T.exc 7 (by decide)).hs J.t7) rfl))) pss_nil)
        (pss_cons (ps_if (pt_cmpR op_eq (pv 1) pe_int (nomark _)) (pss_one (ps_raiseKeep rfl T6 mk6 hr tk (pa_cons (pv 0) pa_nil))) pss_nil) (pss_one (ps_raiseKeep rfl T2 mk2 hr tk (pa_cons (pv 0) pa_nil)))))
      (ClOk.named (i := 2) ⟨rfl, by decide, .inl T.g27⟩ scCau.nd rfl rfl (fun a oe cls d pn hz hf => pss_one (ps_ret (pe_op op_add_str pe_str (pe_hot2 (i := 7) F1 b1 T rfl J.g1 (roomH_of hr) hz hf (by decide) (pv 2)))))
      (ClOk.named (i := 2) ⟨rfl, by decide, .inl T.g26⟩ scCau.nd rfl rfl (fun a oe cls d pn hz hf => pss_one (ps_ret (pe_op op_add_str pe_str (pe_callB (id := "repr") (r := rRepT K) (cr_reprT hgd hr.units) (by rfl) J.repr (by decide +kernel) (pa_cons (pe_xf (xf_of (T.exc 26 (by decide))) T6.noN hz hf (pv 2)) pa_nil)))))
      (ClOk.named (i := 2) ⟨rfl, by decide, .inl T.g22⟩ scCau.nd rfl rfl (fun a oe cls d pn hz hf => pss_one (ps_ret (pe_op op_add_str pe_str (pe_callB (id := "repr") (r := rRepT K) (cr_reprT hgd hr.units) (by rfl) J.repr (by decide +kernel) (pa_cons (pe_xf (xf_of (T.exc 22 (by decide))) T2.noN hz hf (pv 2)) pa_nil)))))
      .nil))))), ?_⟩
    have l8 : ("refused " : Str).length = 8 := by decide
    have l9 : ("layered " : Str).length = 8 := by decide
    refine ⟨_, rfl, rfl, _, rfl, ?_⟩
    by_cases c0 : way = 0
    · subst c0
      refine if_pos_of (decide_eq_true rfl) ?_
      have k' := k H K0.Same.rfl'
      unfold txC at k'
      rw [if_pos rfl, ← base_h] at k'
      have l7 := lenF 7 (by decide)
      have l5 : ("base " : Str).length = 5 := by decide
      exact ⟨true, J.a0, fun _ a ha => ⟨⟨rfl, rfl⟩, _, rfl, rfl, _, _, rfl, rfl, Nat.le_of_lt (small1000 (by omega)), k'⟩, fun z => (by cases z)⟩
    · refine if_neg_of (decide_eq_false fun z => c0 (V.int.inj z)) ⟨_, rfl, rfl, _, rfl, ?_⟩
      by_cases c1 : way = 1
      · subst c1
        refine if_pos_of (decide_eq_true rfl) ⟨_, rfl, told, rfl, fun d hd => ⟨false, J.b0, fun z => (by cases z), fun _ => ⟨true, J.b1, fun _ a ha => ?_, fun z => (by cases z)⟩⟩⟩
        have s1 := K0.Same.new (.xd [("pledge", told)]) hd
        exact ⟨_, rfl, rfl, rfl, d, _, told, rfl, upd_same, rfl, told, pd, rfl, .inl (tk0.same s1), sh, dep, by omega, _, _, rfl, rfl, Nat.le_of_lt (small1000 (by omega)), k _ s1⟩
      · refine if_neg_of (decide_eq_false fun z => c1 (V.int.inj z)) ⟨_, rfl, told, rfl, fun d hd => ⟨false, J.c0, fun z => (by cases z), fun _ => ⟨false, J.c1, fun z => (by cases z), fun _ => ⟨true, J.c2, fun _ a ha => ?_, fun z => (by cases z)⟩⟩⟩⟩
        have s1 := K0.Same.new (.xd [("reason", told)]) hd
        have k' := k _ s1
        unfold txC at k'
        rw [if_neg c0, if_neg c1] at k'
        exact ⟨_, rfl, rfl, rfl, d, _, told, rfl, upd_same, rfl, told, pd, rfl, .inl (tk0.same s1), sh, dep, by omega, _, _, rfl, rfl, Nat.le_of_lt (small1000 (by omega)), k'⟩
end
end K0

/-! ## A10 -/
set_option maxRecDepth 100000
set_option maxHeartbeats 4000000
namespace K0
open PySem L2
abbrev sJudged : Stmt := top 54
structure TJ (K : PySem.W.Frag) (mg : Str → Option Value) (fNu fWo fIw fAn fIr : Addr) : Prop where
  repr : mg "repr" = none
  gNu : mg "_law_number" = some (.ref fNu)
  kNu : PySem.W.keepIn K (.ref fNu) = true
  gWo : mg "_law_word" = some (.ref fWo)
  kWo : PySem.W.keepIn K (.ref fWo) = true
  gIw : mg "_law_is_word" = some (.ref fIw)
  kIw : PySem.W.keepIn K (.ref fIw) = true
  gAn : mg "are_names" = some (.ref fAn)
  kAn : PySem.W.keepIn K (.ref fAn) = true
  gIr : mg "is_row" = some (.ref fIr)
  kIr : PySem.W.keepIn K (.ref fIr) = true
/-- every call answers True and leaves all but the dice -/
def spRight : Sp := fun vs H Q _ => ∃ (p : Addr), vs = [.ref p] ∧ DiceAt H p ∧ ∀ H', Kd p H H' → DiceAt H' p → Q (.bl true) H'
theorem ofString_len (s : String) : (Str.ofString s).length = s.length := by
  rw [Str.ofString_eq_toList]
  show ((s.toList.map Char.toNat).toArray).size = _
  rw [List.size_toArray, List.length_map, String.length_toList]
theorem num_len {a : Int} (h0 : 0 ≤ a) {k : Nat} (hk : 0 < k) : (Str.ofString (toString a)).length ≤ k ↔ a < 10 ^ k := by
  obtain ⟨n, rfl⟩ := Int.eq_ofNat_of_zero_le h0
  rw [ofString_len]
  have e : toString (n : Int) = Nat.repr n := rfl
  rw [e, Nat.length_repr_le_iff hk]
  have e2 : ((10 : Int) ^ k) = ((10 ^ k : Nat) : Int) := by simp
  rw [e2, Int.ofNat_lt]
theorem big_eq : big = 10 ^ 60 := by unfold big; rfl
/-- the size of an integer of the law -/
def absI (n : Int) : Int := if n < 0 then -n else n
theorem absI_nn (n : Int) : 0 ≤ absI n := by unfold absI; split <;> omega
theorem absI_nat (n : Int) : (absI n).natAbs = n.natAbs := by unfold absI; split <;> omega
theorem log_of {n : Int} (h : n.natAbs < 2 ^ 300) : n.natAbs.log2 < 1920 := Nat.lt_of_lt_of_le (PySem.Flt.log2_lt_of (by decide) h) (by decide)
theorem len_of {n : Int} (h : n.natAbs < 2 ^ 300) : (Str.ofString (toString (absI n))).length ≤ 100 := by
  refine (num_len (absI_nn n) (by decide)).mpr ?_
  have h1 : ((absI n).natAbs : Int) = absI n := Int.natAbs_of_nonneg (absI_nn n)
  rw [absI_nat] at h1
  have h2 : (2 : Nat) ^ 300 < 10 ^ 100 := by decide +kernel
  have h3 : n.natAbs < 10 ^ 100 := Nat.lt_trans h h2
  have e2 : ((10 : Int) ^ 100) = ((10 ^ 100 : Nat) : Int) := by simp
  rw [e2]
  omega
theorem isI_short (n : Int) : isI (.int n) = decide (((Str.ofString (toString (absI n))).length : Int) ≤ 60) := by
  have h := num_len (absI_nn n) (k := 60) (by decide)
  show (decide (-big < n) && decide (n < big)) = _
  have e : (decide (-big < n) && decide (n < big)) = decide (absI n < big) := by
    unfold absI
    by_cases c : n < 0
    · rw [if_pos c]
      by_cases d : -n < big
      · rw [decide_eq_true d, decide_eq_true (show -big < n by omega), decide_eq_true (show n < big by omega)]
        rfl
      · rw [decide_eq_false d, decide_eq_false (show ¬ -big < n by omega)]
        rfl
    · rw [if_neg c]
      by_cases d : n < big
      · rw [decide_eq_true d, decide_eq_true (show -big < n by omega)]
        rfl
      · rw [decide_eq_false d, Bool.and_false]
  rw [e]
  refine decide_eq_decide.mpr ?_
  rw [big_eq, ← h]
  omega
/-- repr of three bools -/
def b3 (a b c : Bool) : PyData := .list [.bool a, .bool b, .bool c]
theorem b3_ok (a b c : Bool) : (b3 a b c).showable = true ∧ (b3 a b c).depth ≤ 20 ∧ (b3 a b c).shown.length ≤ 1000 := by
  cases a <;> cases b <;> cases c <;> exact ⟨rfl, by decide +kernel, by decide +kernel⟩
theorem bl_ok (a : Bool) : (PyData.bool a).showable = true ∧ (PyData.bool a).depth ≤ 20 ∧ (PyData.bool a).shown.length ≤ 1000 := by
  cases a <;> exact ⟨rfl, by decide +kernel, by decide +kernel⟩
theorem ne_same {s t : Str} (h : s = t) : (!decide (V.str s = V.str t)) = false := by rw [h, decide_eq_true rfl]; rfl
/-- the slots of judged_right: the dice first -/
def SlJ (p : Addr) (σ : St) : Prop := ∃ a1 a2 a3 a4 a5 a6 a7 a8 a9 a10 : Option V, σ = [some (.ref p), a1, a2, a3, a4, a5, a6, a7, a8, a9, a10]
theorem texts_of : ∀ (acc : List V), (∀ y ∈ acc, ∃ z : Str, y = .str z ∧ z.length ≤ 10 ∧ okS z) → ∃ zs : List Str, acc = zs.map V.str ∧ ∀ y ∈ zs, y.length ≤ 10 ∧ okS y
  | [], _ => ⟨[], rfl, fun y h => by cases h⟩
  | y :: r, h => by
    obtain ⟨z, rfl, h1, h2⟩ := h y List.mem_cons_self
    obtain ⟨zs, e1, e2⟩ := texts_of r fun u hu => h u (List.mem_cons_of_mem _ hu)
    refine ⟨z :: zs, by rw [e1]; rfl, fun u hu => ?_⟩
    rcases List.mem_cons.mp hu with e | e
    · rw [e]; exact ⟨h1, h2⟩
    · exact e2 u e
theorem sieve_all {n : Nat} {keep : Nat → Bool} {p : Nat → Bool} (h : ∀ i, i < n → keep i = !p i) : ((List.range n).filter keep).isEmpty = ((List.range n).map p).all id := by
  have fn := filter_none h
  cases h5 : ((List.range n).map p).all id with
  | true => rw [fn.mpr h5]; rfl
  | false =>
    cases h6 : (List.range n).filter keep with
    | nil => rw [fn.mp h6] at h5; cases h5
    | cons a b => rfl
theorem ints_of' : ∀ (acc : List V), (∀ y ∈ acc, ∃ m : Int, y = .int m ∧ 0 ≤ m ∧ m.natAbs < 2 ^ 300) → ∃ ns : List Int, acc = ns.map V.int ∧ ∀ m ∈ ns, 0 ≤ m ∧ m.natAbs < 2 ^ 300
  | [], _ => ⟨[], rfl, fun y h => by cases h⟩
  | y :: r, h => by
    obtain ⟨z, rfl, h1, h2⟩ := h y List.mem_cons_self
    obtain ⟨zs, e1, e2⟩ := ints_of' r fun u hu => h u (List.mem_cons_of_mem _ hu)
    refine ⟨z :: zs, by rw [e1]; rfl, fun u hu => ?_⟩
    rcases List.mem_cons.mp hu with e | e
    · rw [e]; exact ⟨h1, h2⟩
    · exact e2 u e
theorem dpAll_ints {K : PySem.W.Frag} {H : Hp} : ∀ (zs : List Int), DpAll K H (zs.map V.int) (zs.map PyData.int)
  | [] => .nil
  | z :: r => .cons (.int z) (dpAll_ints r)
theorem lay_ints : ∀ (zs : List Int), PyData.canLayAll0 (zs.map PyData.int) = true ∧ PyData.depthAll (zs.map PyData.int) = 0
  | [] => ⟨rfl, rfl⟩
  | z :: r => by
    obtain ⟨h1, h2⟩ := lay_ints r
    constructor
    · show (PyData.canLay0 (.int z) && PyData.canLayAll0 (r.map PyData.int)) = true
      rw [h1]
      rfl
    · show max (PyData.depth (.int z)) (PyData.depthAll (r.map PyData.int)) = 0
      rw [h2]
      rfl
theorem shaped_ints (zs : List Int) : PySem.SeqAt.shaped (.list (zs.map PyData.int)) = true := by
  obtain ⟨h1, h2⟩ := lay_ints zs
  show (PyData.canLayAll0 (zs.map PyData.int) && decide (PyData.depthAll (zs.map PyData.int) + 1 ≤ 64)) = true
  rw [h1, h2]
  rfl
theorem ints_all (xs : List Int) (p : Int → Bool) : ((List.range xs.length).map fun i => p (xs.getD i 0)).all id = xs.all p := by
  have e : (List.range xs.length).map (fun i => xs.getD i 0) = xs := by
    apply List.ext_getElem
    · simp
    · intro i h1 h2
      simp at h1
      simp [h1]
  have e2 : xs.all p = ((List.range xs.length).map (fun i => xs.getD i 0)).all p := by rw [e]
  rw [e2, List.all_map, List.all_map]
  rfl
theorem isI_len {n : Nat} (h : n ≤ 1000) : isI (.int n) = true := by
  show (decide (-big < (n : Int)) && decide ((n : Int) < big)) = true
  have e : big = 10 ^ 60 := big_eq
  have e2 : (1000 : Int) < 10 ^ 60 := by decide +kernel
  rw [decide_eq_true (show -big < (n : Int) by omega), decide_eq_true (show (n : Int) < big by omega)]
  rfl
theorem row_ints {ns : List Int} (c1 : (1 : Int) ≤ ns.length) (c2 : (ns.length : Int) ≤ 8) : (ns.all fun m => isC (.int m)) = rowL (ns.map V.int) := by
  unfold rowL
  have e : isW (.int ((ns.map V.int).length : Int)) = true := by
    rw [List.length_map]
    show (isI (.int (ns.length : Int)) && (decide (1 ≤ (ns.length : Int)) && decide ((ns.length : Int) ≤ 8))) = true
    rw [isI_len (by omega), decide_eq_true c1, decide_eq_true c2]
    rfl
  rw [e, List.all_map]
  rfl
theorem row_no {ns : List Int} (h : ns.length < 1 ∨ 8 < ns.length) : rowL (ns.map V.int) = false := by
  unfold rowL
  have e : isW (.int ((ns.map V.int).length : Int)) = false := by
    rw [List.length_map]
    show (isI (.int (ns.length : Int)) && (decide (1 ≤ (ns.length : Int)) && decide ((ns.length : Int) ≤ 8))) = false
    rcases h with h | h
    · rw [decide_eq_false (show ¬ (1 : Int) ≤ ns.length by omega), Bool.false_and, Bool.and_false]
    · rw [decide_eq_false (show ¬ (ns.length : Int) ≤ 8 by omega), Bool.and_false, Bool.and_false]
  rw [e]
  rfl
theorem keep_not {m : Int} (h : 0 ≤ m) : decide (60 < ((Str.ofString (toString m)).length : Int)) = !isC (.int m) := by
  have e : isC (.int m) = isI (.int m) := by
    show (isI (.int m) && decide (0 ≤ m)) = _
    rw [decide_eq_true h, Bool.and_true]
  have am : absI m = m := by unfold absI; rw [if_neg (by omega)]
  rw [e, isI_short, am]
  by_cases c : ((Str.ofString (toString m)).length : Int) ≤ 60
  · rw [decide_eq_true c, decide_eq_false (by omega)]; rfl
  · rw [decide_eq_false c, decide_eq_true (by omega)]; rfl
theorem neg_one_no : isC (.int (-1)) = false := by
  show (isI (.int (-1)) && decide ((0 : Int) ≤ -1)) = false
  rw [decide_eq_false (by decide), Bool.and_false]
/-- values that are neither integers nor names, names' tuples, rows -/
inductive Odd (H : Hp) : V → Prop
  | non : Odd H .non
  | bl (b : Bool) : Odd H (.bl b)
  | str {z : Str} : nameS z = false → z.length ≤ 1000 → Odd H (.str z)
  | lst {a : Addr} {xs : List V} : H a = some (.lst xs) → Odd H (.ref a)
  | emp {a : Addr} : H a = some (.dK []) → Odd H (.ref a)
  | tup {a : Addr} {xs : List V} : H a = some (.tup xs) → xs.length ≤ 1000 → (∀ x ∈ xs, Da H x ∧ Sz x) → xs.all nameV = false → xs.all isC = false → Odd H (.ref a)
section
variable {H H' : Hp} {v : V}
theorem Odd.same (o : Odd H v) (s : Same H H') : Odd H' v := by
  cases o with
  | non => exact .non
  | bl b => exact .bl b
  | str h1 h2 => exact .str h1 h2
  | lst h => exact .lst (s _ _ h)
  | emp h => exact .emp (s _ _ h)
  | tup h1 h2 h3 h4 h5 => exact .tup (s _ _ h1) h2 (fun x hx => ⟨(h3 x hx).1.same s, (h3 x hx).2⟩) h4 h5
theorem Odd.da (o : Odd H v) : Da H v := by
  cases o with
  | non => exact .non
  | bl b => exact .bl b
  | str h1 h2 => exact .str _
  | lst h => exact .lst h
  | emp h => exact .dK h
  | tup h1 h2 h3 h4 h5 => exact .tup h1
theorem Odd.sz (o : Odd H v) : Sz v := by
  cases o with
  | str h1 h2 => exact h2
  | _ => exact True.intro
theorem Odd.tu (o : Odd H v) : Tu H v := fun a xs e1 e2 => by
  cases o with
  | non => cases e1
  | bl b => cases e1
  | str h1 h2 => cases e1
  | lst h => cases e1; rw [h] at e2; cases e2
  | emp h => cases e1; rw [h] at e2; cases e2
  | tup h1 h2 h3 h4 h5 => cases e1; rw [h1] at e2; cases e2; exact ⟨h2, h3⟩
theorem Odd.noI (o : Odd H v) : isI v = false := by cases o <;> rfl
theorem Odd.noC (o : Odd H v) : isC v = false := by cases o <;> rfl
theorem Odd.noN (o : Odd H v) : nameV v = false := by
  cases o with
  | str h1 h2 => exact h1
  | _ => rfl
theorem Odd.noA (o : Odd H v) : onTup H (fun xs => xs.all nameV) v = false := by
  cases o with
  | non => rfl
  | bl b => rfl
  | str h1 h2 => rfl
  | lst h => simp only [onTup, h]
  | emp h => simp only [onTup, h]
  | tup h1 h2 h3 h4 h5 => simp only [onTup, h1]; exact h4
theorem Odd.noR (o : Odd H v) : onTup H rowL v = false := by
  cases o with
  | non => rfl
  | bl b => rfl
  | str h1 h2 => rfl
  | lst h => simp only [onTup, h]
  | emp h => simp only [onTup, h]
  | tup h1 h2 h3 h4 h5 => simp only [onTup, h1]; unfold rowL; rw [h5, Bool.and_false]
end
theorem dec_same {x : V} : decide (x = x) = true := decide_eq_true rfl
section
variable {P : Program} {w : World} {K : PySem.W.Frag} {mg : Str → Option Value} {base : Heap} {fI fC fW fN fR fP fNu fWo fIw fAn fIr : Addr} {fdI fdC fdW fdN fdR fdP fdNu fdWo fdIw fdAn fdIr : FuncData}
theorem scJudged : FnScope ["_law_dice_here", "_law_number_here", "_law_word_here", "_law_is_short", "_law_told", "_law_words", "_law_row", "_law_due", "_law_odd", "_law_turn", "_law_one"] ["_law_dice_here"] (defScope sJudged) := ⟨rfl, rfl, rfl, by decide +kernel, rfl, by decide +kernel, by decide +kernel⟩
abbrev nJ : List Str := ["_law_dice_here", "_law_number_here", "_law_word_here", "_law_is_short", "_law_told", "_law_words", "_law_row", "_law_due", "_law_odd", "_law_turn", "_law_one"]
theorem ok_judged {f : Addr} {fd : FuncData} (F : Fun K "_law_judged_right" "_law_judged_right" sJudged f fd) (T : T3 K mg fI fC fW fN) (L : TM K mg fR fP) (J : TJ K mg fNu fWo fIw fAn fIr)
    (GI : FnOk P w K mg base CX0 1 fI fdI ["value"] spIsInt) (bI : Binds K fdI ["value"] []) (GC : FnOk P w K mg base CX0 2 fC fdC ["value"] spIsCnt) (bC : Binds K fdC ["value"] []) (GN : FnOk P w K mg base CX0 1 fN fdN ["value"] spIsNam) (bN : Binds K fdN ["value"] [])
    (GA : FnOk P w K mg base CX0 2 fAn fdAn ["value"] spAreNam) (bA : Binds K fdAn ["value"] []) (GR : FnOk P w K mg base CX0 3 fIr fdIr ["value"] spIsRow) (bIr : Binds K fdIr ["value"] [])
    (Gr : FnOk P w K mg base CX0 1 fR fdR ["_law_dice_here", "_law_total"] spRoll) (bR : Binds K fdR ["_law_dice_here", "_law_total"] []) (Gp : FnOk P w K mg base CX0 2 fP fdP ["_law_dice_here", "_law_items"] spPick) (bP : Binds K fdP ["_law_dice_here", "_law_items"] [])
    (Gn : FnOk P w K mg base CX0 3 fNu fdNu ["_law_dice_here"] spNumber) (bNu : Binds K fdNu ["_law_dice_here"] []) (Gw : FnOk P w K mg base CX0 2 fWo fdWo ["_law_dice_here"] spWord) (bWo : Binds K fdWo ["_law_dice_here"] [])
    (Gi : FnOk P w K mg base CX0 1 fIw fdIw ["_law_value"] spIsWord) (bIw : Binds K fdIw ["_law_value"] []) : FnG P w K mg base CX0 4 f fd ["_law_dice_here"] spRight := by
  refine gfn F scJudged (fun vs H Q E h => ?_) (fun cdv A outer s H vs Q E hr hgd h => ?_)
  · obtain ⟨p, rfl, _⟩ := h
    rfl
  · obtain ⟨p, rfl, hp, k⟩ := h
    have hr1 : Room 1 _ := hr.mono (by decide)
    have hr2 : Room 2 _ := hr.mono (by decide)
    refine ⟨_, PSs.nox (pss_cons (ps_par (i := 1) (j := 2) rfl scJudged.nd rfl rfl (by decide) rfl rfl (pa_cons (pe_call Gn hr (by rfl) J.gNu J.kNu bNu .nil pass0 (pa_cons (pv 0) pa_nil)) (pa_cons (pe_call Gw hr2 (by rfl) J.gWo J.kWo bWo .nil pass0 (pa_cons (pv 0) pa_nil)) pa_nil)) rfl)
      (pss_cons (ps_set (i := 3) scJudged.nd rfl (Or.inl rfl) (pe_cmpR op_le (pe_callB call_len_str (by rfl) T.len PySem.boot_len (pa_cons (pe_callTy call_str_int (by rfl) T.str (by decide +kernel) (pa_cons (pe_callB call_abs (by rfl) L.abs (by decide +kernel) (pa_cons (pv 1) pa_nil)) pa_nil)) pa_nil)) pe_int (nomark _)))
      (pss_cons (ps_set (i := 4) scJudged.nd rfl (Or.inl rfl) (pe_lst (pa_cons (pe_call GI hr1 (by rfl) T.gI T.kI bI .nil pass0 (pa_cons (pv 1) pa_nil)) (pa_cons (pe_call GC hr2 (by rfl) T.gC T.kC bC .nil pass0 (pa_cons (pv 1) pa_nil)) (pa_cons (pe_call GN hr1 (by rfl) T.gN T.kN bN .nil pass0 (pa_cons (pv 2) pa_nil)) pa_nil)))))
      (C8.pss_cut (ps_if (pt_cmpR op_ne (pe_callB (cr_repr hgd hr.units) (by rfl) J.repr (by decide +kernel) (pa_cons (pv 4) pa_nil))
          (pe_callB (cr_repr hgd hr.units) (by rfl) J.repr (by decide +kernel) (pa_cons (pe_lst (pa_cons (pv 3) (pa_cons (pe_and (pv 3) (pe_one (pe_cmpR op_ge (pv 1) pe_int (nomark _)))) (pa_cons (pe_call Gi hr1 (by rfl) J.gIw J.kIw bIw .nil pass0 (pa_cons (pv 2) pa_nil)) pa_nil)))) pa_nil)) (nomark _))
          (pss_one (ps_ret pe_bl)) pss_nil)
      (C8.pss_cut (ps_set (i := 5) scJudged.nd rfl (Or.inl rfl) (pe_callTy call_tuple_of (by rfl) T.tup (by decide +kernel) (pa_cons (pe_lc (own := [("_law_turn", 9)]) (g := gName 9) (tt := tYes) rfl scJudged.nd (pi_range1 (by rfl) L.range (pa_cons (pe_call Gr hr1 (by rfl) L.gR L.kR bR .nil pass0 (pa_cons (pv 0) (pa_cons pe_int pa_nil))) pa_nil))
          (blkOk_by (own := [("_law_turn", 9)]) (N := nJ) (sc := defScope sJudged) (by decide +kernel)) (fun _ _ _ _ _ => pg_name (i := 9) scJudged.nd rfl (Or.inl rfl)) (fun _ _ _ _ _ => pts_nil)
          (fun _ _ _ _ _ => pe_call Gw hr2 (by rfl) J.gWo J.kWo bWo .nil pass0 (pa_cons (pv 0) pa_nil))) pa_nil)))
      (C8.pss_cut (ps_if (pt_cmpR op_ne (pe_callB (cr_repr hgd hr.units) (by rfl) J.repr (by decide +kernel) (pa_cons (pe_call GA hr2 (by rfl) J.gAn J.kAn bA .nil pass0 (pa_cons (pv 5) pa_nil)) pa_nil))
          (pe_callB (cr_repr hgd hr.units) (by rfl) J.repr (by decide +kernel) (pa_cons (pe_cmpR (op_eqD hr.units) (pe_lc (own := [("_law_one", 10)]) (g := gName 10) (by rfl) scJudged.nd (pi_tup (pv 5))
          (blkOk_by (own := [("_law_one", 10)]) (N := nJ) (sc := defScope sJudged) (by decide +kernel)) (fun _ _ _ _ _ => pg_name (i := 10) scJudged.nd rfl (Or.inl rfl)) (fun _ _ _ _ _ => pts_one (pt_not (pt_val (pe_call Gi hr1 (by rfl) J.gIw J.kIw bIw .nil pass0 (pa_cons (pv 10) pa_nil)))))
          (fun _ _ _ _ _ => pv 10)) (pe_lst pa_nil) (nomark _)) pa_nil)) (nomark _))
          (pss_one (ps_ret pe_bl)) pss_nil)
      (C8.pss_cut (ps_set (i := 6) scJudged.nd rfl (Or.inl rfl) (pe_callTy call_tuple_of (by rfl) T.tup (by decide +kernel) (pa_cons (pe_lc (own := [("_law_turn", 9)]) (g := gName 9) (tt := tYes) rfl scJudged.nd (pi_range1 (by rfl) L.range (pa_cons (pe_call Gr hr1 (by rfl) L.gR L.kR bR .nil pass0 (pa_cons (pv 0) (pa_cons pe_int pa_nil))) pa_nil))
          (blkOk_by (own := [("_law_turn", 9)]) (N := nJ) (sc := defScope sJudged) (by decide +kernel)) (fun _ _ _ _ _ => pg_name (i := 9) scJudged.nd rfl (Or.inl rfl)) (fun _ _ _ _ _ => pts_nil)
          (fun _ _ _ _ _ => pe_callB (id := "abs") (r := fun xs H Q => ∃ i : Int, xs = [.int i] ∧ Q (.int (if i < 0 then -i else i)) H) call_abs (by rfl) L.abs (by decide +kernel) (pa_cons (pe_call Gn hr (by rfl) J.gNu J.kNu bNu .nil pass0 (pa_cons (pv 0) pa_nil)) pa_nil))) pa_nil)))
      (C8.pss_cut (ps_set (i := 7) scJudged.nd rfl (Or.inl rfl) (pe_and (pe_chain op_le op_le pe_int (pe_callB call_len_seq (by rfl) T.len PySem.boot_len (pa_cons (pv 6) pa_nil)) pe_int) (pe_one (pe_cmpR (op_eqD hr.units) (pe_lc (own := [("_law_one", 10)]) (g := gName 10) (by rfl) scJudged.nd (pi_tup (pv 6))
          (blkOk_by (own := [("_law_one", 10)]) (N := nJ) (sc := defScope sJudged) (by decide +kernel)) (fun _ _ _ _ _ => pg_name (i := 10) scJudged.nd rfl (Or.inl rfl))
          (fun _ _ _ _ _ => pts_one (pt_cmpR op_gt (pe_callB (id := "len") (r := fun xs H Q => ∃ z : Str, xs = [.str z] ∧ z.length ≤ sizeLine ∧ Q (.int z.length) H) call_len_str (by rfl) T.len PySem.boot_len (pa_cons (pe_callTy (T := "str") (r := fun xs H Q => ∃ i : Int, xs = [.int i] ∧ i.natAbs.log2 < 1920 ∧ Q (.str (toString i)) H) call_str_int (by rfl) T.str (by decide +kernel) (pa_cons (pv 10) pa_nil)) pa_nil)) pe_int (nomark _)))
          (fun _ _ _ _ _ => pv 10)) (pe_lst pa_nil) (nomark _)))))
      (C8.pss_cut (ps_if (pw_or (pt_cmpR op_ne (pe_callB (cr_repr hgd hr.units) (by rfl) J.repr (by decide +kernel) (pa_cons (pe_call GR hr (by rfl) J.gIr J.kIr bIr .nil pass0 (pa_cons (pv 6) pa_nil)) pa_nil)) (pe_callB (cr_repr hgd hr.units) (by rfl) J.repr (by decide +kernel) (pa_cons (pv 7) pa_nil)) (nomark _))
          (pw_or (pt_cmpR op_isnot_bl (pe_call GR hr (by rfl) J.gIr J.kIr bIr .nil pass0 (pa_cons (pe_op op_catA (pv 6) (pe_tup (pa_cons (pe_un un_neg pe_int) pa_nil))) pa_nil)) pe_bl (nomark _))
          (pw_or1 (pt_cmpR op_isnot_bl (pe_call GR hr (by rfl) J.gIr J.kIr bIr .nil pass0 (pa_cons (pe_op op_catA (pv 6) (pe_tup (pa_cons pe_bl pa_nil))) pa_nil)) pe_bl (nomark _))))).pt
          (pss_one (ps_ret pe_bl)) pss_nil)
      (C8.pss_cut (ps_set (i := 8) scJudged.nd rfl (Or.inl rfl) (pe_call Gp hr2 (by rfl) L.gP L.kP bP .nil pass0 (pa_cons (pv 0) (pa_cons (pe_lst (pa_cons pe_non (pa_cons pe_bl (pa_cons pe_bl (pa_cons (pe_lst (pa_cons pe_int pa_nil)) (pa_cons (pe_lst pa_nil) (pa_cons pe_dnewK (pa_cons (pe_tup (pa_cons pe_non pa_nil)) (pa_cons (pe_tup (pa_cons pe_str pa_nil)) (pa_cons (pe_tup (pa_cons pe_str (pa_cons pe_int pa_nil)))
          (pa_cons (pe_lst (pa_cons pe_str pa_nil)) (pa_cons pe_str (pa_cons pe_str (pa_cons (pe_tup (pa_cons pe_int (pa_cons pe_str pa_nil))) (pa_cons (pe_tup (pa_cons (pe_tup (pa_cons pe_int pa_nil)) pa_nil)) (pa_cons (pe_tup (pa_cons pe_bl pa_nil)) pa_nil)))))))))))))))) pa_nil))))
      (pss_one (ps_ret (pe_cmpR (op_eqD hr.units) (pe_lst (pa_cons (pe_call GI hr1 (by rfl) T.gI T.kI bI .nil pass0 (pa_cons (pv 8) pa_nil)) (pa_cons (pe_call GC hr2 (by rfl) T.gC T.kC bC .nil pass0 (pa_cons (pv 8) pa_nil)) (pa_cons (pe_call GN hr1 (by rfl) T.gN T.kN bN .nil pass0 (pa_cons (pv 8) pa_nil))
          (pa_cons (pe_call GA hr2 (by rfl) J.gAn J.kAn bA .nil pass0 (pa_cons (pv 8) pa_nil)) (pa_cons (pe_call GR hr (by rfl) J.gIr J.kIr bIr .nil pass0 (pa_cons (pv 8) pa_nil)) pa_nil)))))) (pe_op op_rep (pe_lst (pa_cons pe_bl pa_nil)) pe_int) (nomark _)))))))))))))), ?_⟩
    refine ⟨_, rfl, p, rfl, hp, fun n H1 hn kd1 dc1 => ⟨_, rfl, p, rfl, dc1, fun z H2 hz ok kd2 dc2 => ⟨_, _, rfl, ?_⟩⟩⟩
    refine ⟨_, rfl, _, rfl, _, rfl, log_of (n := absI n) (by rw [absI_nat]; exact hn), _, rfl, Nat.le_of_lt (small1000 (Nat.le_trans (len_of hn) (by decide))), _, _, rfl, rfl, ?_⟩
    refine ⟨_, rfl, _, rfl, .int n, _, rfl, _, rfl, .int n, _, rfl, _, rfl, .str z, (show z.length ≤ 1000 by omega), fun H3 s3 => ⟨by show 3 ≤ sizeLine; decide, fun q hq => ?_⟩⟩
    have dc3 : DiceAt H3 p := by
      obtain ⟨x, y, v, e⟩ := dc2
      exact ⟨x, y, v, s3 _ _ e⟩
    have hpq : p ≠ q := by
      obtain ⟨x, y, v, e⟩ := dc3
      exact ne_of_none e hq
    have kd3 : Kd p H H3 := (kd1.tr kd2).tr (Kd.of s3)
    have es : isI (.int n) = decide (((Str.ofString (toString (absI n))).length : Int) ≤ 60) := isI_short n
    refine ⟨fun σ H' => SlJ p σ ∧ Kd p H H' ∧ DiceAt H' p, ?_, fun σ H4 ⟨⟨a1, a2, a3, a4, a5, a6, a7, a8, a9, a10, hσ⟩, kd4, dc4⟩ => ?_⟩
    · obtain ⟨o1, o2, o3⟩ := b3_ok (isI (.int n)) (isC (.int n)) (nameV (.str z))
      refine ⟨_, rfl, _, b3 (isI (.int n)) (isC (.int n)) (nameV (.str z)), rfl, .of (.lst (SqL.of upd_same) (.cons (.bl _) (.cons (.bl _) (.cons (.bl _) .nil)))), o1, o2, o3, ?_⟩
      have fin : ∀ c2 : Bool, isC (.int n) = c2 → ∀ H5 q2, Same (upd H3 q (.lst [.bl (isI (.int n)), .bl (isC (.int n)), .bl (nameV (.str z))])) H5 → H5 q2 = none → SlJ p [some (.ref p), some (.int n), some (.str z), some (.bl (decide (((Str.ofString (toString (absI n))).length : Int) ≤ 60))), some (.ref q), none, none, none, none, none, none] ∧ Kd p H (upd H5 q2 (.lst [.bl (decide (((Str.ofString (toString (absI n))).length : Int) ≤ 60)), .bl c2, .bl (nameS z)])) ∧ DiceAt (upd H5 q2 (.lst [.bl (decide (((Str.ofString (toString (absI n))).length : Int) ≤ 60)), .bl c2, .bl (nameS z)])) p := by
        intro c2 e2 H5 q2 s5 hq2
        have s6 := K0.Same.tr (K0.Same.tr (K0.Same.new _ hq) s5) (K0.Same.new (.lst [.bl (decide (((Str.ofString (toString (absI n))).length : Int) ≤ 60)), .bl c2, .bl (nameS z)]) hq2)
        refine ⟨⟨_, _, _, _, _, _, _, _, _, _, rfl⟩, kd3.tr (Kd.of s6), ?_⟩
        obtain ⟨x, y, v, e⟩ := dc3
        exact ⟨x, y, v, s6 _ _ e⟩
      refine ⟨_, rfl, _, rfl, _, rfl, ?_⟩
      by_cases c : decide (((Str.ofString (toString (absI n))).length : Int) ≤ 60) = true
      · have e2 : isC (.int n) = decide (0 ≤ n) := by
          show (isI (.int n) && decide (0 ≤ n)) = _
          rw [es, c]
          rfl
        refine if_pos_of c ⟨_, rfl, _, _, rfl, rfl, _, rfl, z, rfl, (show z.length ≤ 1000 by omega), ok, fun H5 s5 => ⟨by show 3 ≤ sizeLine; decide, fun q2 hq2 => ?_⟩⟩
        obtain ⟨m1, m2, m3⟩ := b3_ok (decide (((Str.ofString (toString (absI n))).length : Int) ≤ 60)) (decide (0 ≤ n)) (nameS z)
        refine ⟨_, b3 (decide (((Str.ofString (toString (absI n))).length : Int) ≤ 60)) (decide (0 ≤ n)) (nameS z), rfl, .of (.lst (SqL.of upd_same) (.cons (.bl _) (.cons (.bl _) (.cons (.bl _) .nil)))), m1, m2, m3, rfl, _, rfl, if_neg_of (ne_same ?_) (fin _ e2 H5 q2 s5 hq2)⟩
        rw [e2, es]
        rfl
      · have c' := Bool.eq_false_iff.mpr c
        have e2 : isC (.int n) = false := by
          show (isI (.int n) && decide (0 ≤ n)) = _
          rw [es, c']
          rfl
        refine if_neg_of c' ⟨_, rfl, z, rfl, (show z.length ≤ 1000 by omega), ok, fun H5 s5 => ⟨by show 3 ≤ sizeLine; decide, fun q2 hq2 => ?_⟩⟩
        obtain ⟨m1, m2, m3⟩ := b3_ok (decide (((Str.ofString (toString (absI n))).length : Int) ≤ 60)) false (nameS z)
        refine ⟨_, b3 (decide (((Str.ofString (toString (absI n))).length : Int) ≤ 60)) false (nameS z), rfl, .of (.lst (SqL.of upd_same) (.cons (.bl _) (.cons (.bl _) (.cons (.bl _) .nil)))), m1, m2, m3, rfl, _, rfl, if_neg_of (ne_same ?_) (fin _ e2 H5 q2 s5 hq2)⟩
        rw [e2, es]
        rfl
    clear es kd3 dc3 hpq dc2 kd2 ok hz dc1 kd1 hn s3 hq
    subst hσ
    -- the words
    refine ⟨fun σ H' => ∃ (t : Addr) (zs : List Str), (∃ a1 a2 a3 a4 a6 a7 a8 a9 a10 : Option V, σ = [some (.ref p), a1, a2, a3, a4, some (.ref t), a6, a7, a8, a9, a10]) ∧ Kd p H H' ∧ DiceAt H' p ∧ H' t = some (.tup (zs.map V.str)) ∧ zs.length ≤ 3 ∧ ∀ y ∈ zs, y.length ≤ 10 ∧ okS y, ?_, fun σ H5 ⟨t, zs, ⟨a1, a2, a3, a4, a6, a7, a8, a9, a10, hσ⟩, kd5, dc5, ht, hl, hz⟩ => ?_⟩
    · refine ⟨_, rfl, p, _, rfl, dc4, by decide, by decide, fun r2 H5 r20 r21 kd5 dc5 => ⟨r2, rfl, by omega, by omega, fun D hD => lc_roll (p := p) (Gd := fun y => ∃ z : Str, y = .str z ∧ z.length ≤ 10 ∧ okS z) walk_range (small1000 (by omega)) hD dc5 (fun _ _ _ => True.intro) ?_ gName_mono ?_⟩⟩
      · rintro i x H6 H7 hi kd6 dc6 ⟨rfl, rfl⟩
        exact ⟨rfl, fun Q' q => ⟨_, rfl, p, rfl, dc6, fun z H8 hz ok kd8 dc8 => q _ H8 ⟨z, rfl, hz, ok⟩ kd8 dc8⟩⟩
      · intro H6 acc kd6 dc6 hD6 hacc hall
        obtain ⟨zs, rfl, hzs⟩ := texts_of acc hall
        rw [List.length_map] at hacc
        refine ⟨D, _, rfl, .inl ⟨SqL.of hD6, fun t ht => ?_⟩⟩
        have hpt : p ≠ t := by
          obtain ⟨x, y, v, e⟩ := dc6
          exact ne_of_none e ht
        refine ⟨t, zs, ⟨_, _, _, _, _, _, _, _, _, rfl⟩, ((kd4.tr kd5).tr kd6).tr (Kd.of (K0.Same.new _ ht)), ?_, upd_same, by omega, hzs⟩
        obtain ⟨x, y, v, e⟩ := dc6
        exact ⟨x, y, v, by rw [upd_ne hpt]; exact e⟩
    clear kd4 dc4
    subst hσ
    -- are they names?
    have tu : Tu H5 (.ref t) := fun a xs e1 e2 => by
      cases e1
      rw [ht] at e2
      cases e2
      exact ⟨by rw [List.length_map]; omega, fun x hx => by
        obtain ⟨y, hy, rfl⟩ := List.mem_map.mp hx
        exact ⟨.str y, (show y.length ≤ 1000 from Nat.le_trans (hz y hy).1 (by decide))⟩⟩
    have eb : onTup H5 (fun xs => xs.all nameV) (.ref t) = zs.all nameS := by
      simp only [onTup, ht]
      rw [List.all_map]
      rfl
    refine ⟨fun σ H' => SlJ p σ ∧ Kd p H H' ∧ DiceAt H' p, ?_, fun σ H6 ⟨⟨a1, a2, a3, a4, a5, a6, a7, a8, a9, a10, hσ⟩, kd6, dc6⟩ => ?_⟩
    · obtain ⟨o1, o2, o3⟩ := bl_ok (onTup H5 (fun xs => xs.all nameV) (.ref t))
      refine ⟨_, rfl, _, rfl, .tup ht, tu, fun H6 s6 => ⟨_, _, rfl, .of (.bl _), o1, o2, o3, ?_⟩⟩
      refine ⟨_, rfl, t, rfl, ⟨_, SqT.of (s6 _ _ ht)⟩, fun D hD => lc_sieve (f := fun i => .str (zs.getD i Str.empty)) (keep := fun i => !nameS (zs.getD i Str.empty)) (walk_tup (K := K) (a := t) (xs := zs.map V.str)) (by rw [List.length_map]; exact small1000 (by omega)) hD (fun H7 s7 => SqT.of (s7 _ _ (s6 _ _ ht))) ?_ gName_mono ?_⟩
      · rintro i x H7 H8 hi s7 ⟨rfl, hxi⟩
        rw [List.getElem?_map] at hxi
        obtain ⟨y, hy, rfl⟩ := Option.map_eq_some_iff.mp hxi
        have ey : zs.getD i Str.empty = y := by simp [List.getD, hy]
        have hyz := hz y (List.mem_of_getElem? hy)
        refine ⟨rfl, fun R q => ⟨_, rfl, y, rfl, (show y.length ≤ 1000 from Nat.le_trans hyz.1 (by decide)), hyz.2, fun H9 s9 => ⟨_, rfl, ?_⟩⟩, fun H9 Q' s9 q => ⟨_, rfl, ?_⟩⟩
        · have q0 := q H9 s9
          rw [ey] at q0
          exact q0
        · have q0 := q H9 K0.Same.rfl'
          rw [ey] at q0
          exact q0
      · intro H7 s7 hD7
        rw [List.length_map] at hD7
        refine ⟨Nat.zero_le _, fun q hq => ?_⟩
        have ndq : D ≠ q := ne_of_none hD7 hq
        have e6 : (((List.range zs.length).filter fun i => !nameS (zs.getD i Str.empty)).map fun i => V.str (zs.getD i Str.empty)) = ((((List.range zs.length).filter fun i => !nameS (zs.getD i Str.empty)).map fun i => zs.getD i Str.empty).map V.str) := by rw [List.map_map]; rfl
        refine ⟨.list ((((List.range zs.length).filter fun i => !nameS (zs.getD i Str.empty)).map fun i => zs.getD i Str.empty).map PyData.str), .list [], .lst (SqL.of (by rw [upd_ne ndq]; exact hD7)) ?_, .lst (SqL.of upd_same) .nil, shaped_strs ?_, rfl, ?_⟩
        · rw [e6]
          exact dpAll_strs _
        · intro y hy
          obtain ⟨i, hi, rfl⟩ := List.mem_map.mp hy
          have hi' := List.mem_range.mp (List.mem_filter.mp hi).1
          have e7 : zs.getD i Str.empty = zs[i] := by simp [hi']
          rw [e7]
          exact (hz _ (List.getElem_mem hi')).2
        · obtain ⟨m1, m2, m3⟩ := bl_ok (PyData.eqv (.list ((((List.range zs.length).filter fun i => !nameS (zs.getD i Str.empty)).map fun i => zs.getD i Str.empty).map PyData.str)) (.list []))
          have e8 : PyData.eqv (.list ((((List.range zs.length).filter fun i => !nameS (zs.getD i Str.empty)).map fun i => zs.getD i Str.empty).map PyData.str)) (.list []) = zs.all nameS := by
            rw [eqv_nil, List.isEmpty_map, List.isEmpty_map, sieve_all (p := fun i => nameS (zs.getD i Str.empty)) fun _ _ => rfl, strs_all]
          refine ⟨_, _, rfl, .of (.bl _), m1, m2, m3, rfl, _, rfl, if_neg_of (ne_same ?_) ?_⟩
          · rw [eb, e8]
          · have s9 := K0.Same.tr (K0.Same.tr s6 s7) (K0.Same.new (.lst []) hq)
            refine ⟨⟨_, _, _, _, _, _, _, _, _, _, rfl⟩, kd5.tr (Kd.of s9), ?_⟩
            obtain ⟨x, y, v, e⟩ := dc5
            exact ⟨x, y, v, s9 _ _ e⟩
    clear tu eb ht hl hz kd5 dc5
    subst hσ
    -- the row
    refine ⟨fun σ H' => ∃ (t : Addr) (ns : List Int), (∃ a1 a2 a3 a4 a5 a7 a8 a9 a10 : Option V, σ = [some (.ref p), a1, a2, a3, a4, a5, some (.ref t), a7, a8, a9, a10]) ∧ Kd p H H' ∧ DiceAt H' p ∧ H' t = some (.tup (ns.map V.int)) ∧ ns.length ≤ 9 ∧ ∀ m ∈ ns, 0 ≤ m ∧ m.natAbs < 2 ^ 300, ?_, fun σ H7 ⟨r, ns, ⟨a1, a2, a3, a4, a5, a7, a8, a9, a10, hσ⟩, kd7, dc7, ht, hl, hz⟩ => ?_⟩
    · refine ⟨_, rfl, p, _, rfl, dc6, by decide, by decide, fun r2 H7 r20 r21 kd7 dc7 => ⟨r2, rfl, by omega, by omega, fun D hD => lc_roll (p := p) (Gd := fun y => ∃ m : Int, y = .int m ∧ 0 ≤ m ∧ m.natAbs < 2 ^ 300) walk_range (small1000 (by omega)) hD dc7 (fun _ _ _ => True.intro) ?_ gName_mono ?_⟩⟩
      · rintro i x H8 H9 hi kd8 dc8 ⟨rfl, rfl⟩
        exact ⟨rfl, fun Q' q => ⟨_, rfl, p, rfl, dc8, fun n H10 hn kd10 dc10 => ⟨_, rfl, q _ H10 ⟨absI n, rfl, absI_nn n, by rw [absI_nat]; exact hn⟩ kd10 dc10⟩⟩⟩
      · intro H8 acc kd8 dc8 hD8 hacc hall
        obtain ⟨ns, rfl, hns⟩ := ints_of' acc hall
        rw [List.length_map] at hacc
        refine ⟨D, _, rfl, .inl ⟨SqL.of hD8, fun t ht => ?_⟩⟩
        have hpt : p ≠ t := by
          obtain ⟨x, y, v, e⟩ := dc8
          exact ne_of_none e ht
        refine ⟨t, ns, ⟨_, _, _, _, _, _, _, _, _, rfl⟩, ((kd6.tr kd7).tr kd8).tr (Kd.of (K0.Same.new _ ht)), ?_, upd_same, by omega, hns⟩
        obtain ⟨x, y, v, e⟩ := dc8
        exact ⟨x, y, v, by rw [upd_ne hpt]; exact e⟩
    clear kd6 dc6
    subst hσ
    -- is it due?
    refine ⟨fun σ H' => (∃ a1 a2 a3 a4 a5 a8 a9 a10 : Option V, σ = [some (.ref p), a1, a2, a3, a4, a5, some (.ref r), some (.bl (rowL (ns.map V.int))), a8, a9, a10]) ∧ Same H7 H', ?_, fun σ H8 ⟨⟨a1, a2, a3, a4, a5, a8, a9, a10, hσ⟩, s8⟩ => ?_⟩
    · refine ⟨_, rfl, r, _, rfl, .inr (SqT.of ht), _, _, rfl, rfl, _, rfl, ?_⟩
      rw [List.length_map]
      by_cases c1 : (1 : Int) ≤ ns.length
      · refine if_pos_of (decide_eq_true c1) ⟨_, _, rfl, rfl, _, rfl, ?_⟩
        by_cases c2 : (ns.length : Int) ≤ 8
        · refine if_pos_of (decide_eq_true c2) ?_
          refine ⟨_, rfl, r, rfl, ⟨_, SqT.of ht⟩, fun D hD => lc_sieve (f := fun i => .int (ns.getD i 0)) (keep := fun i => decide (60 < ((Str.ofString (toString (ns.getD i 0))).length : Int))) (walk_tup (K := K) (a := r) (xs := ns.map V.int)) (by rw [List.length_map]; exact small1000 (by omega)) hD (fun H8 s8 => SqT.of (s8 _ _ ht)) ?_ gName_mono ?_⟩
          · rintro i x H8 H9 hi s8 ⟨rfl, hxi⟩
            rw [List.getElem?_map] at hxi
            obtain ⟨m, hm, rfl⟩ := Option.map_eq_some_iff.mp hxi
            have em : ns.getD i 0 = m := by simp [List.getD, hm]
            have hmz := hz m (List.mem_of_getElem? hm)
            have am : absI m = m := by unfold absI; rw [if_neg (by omega)]
            refine ⟨rfl, fun R q => ⟨_, rfl, _, rfl, log_of hmz.2, _, rfl, ?_, _, _, rfl, rfl, _, rfl, ?_⟩, fun H10 Q' s10 q => ⟨_, rfl, ?_⟩⟩
            · have := len_of hmz.2
              rw [am] at this
              exact Nat.le_of_lt (small1000 (Nat.le_trans this (by decide)))
            · have q0 := q _ K0.Same.rfl'
              rw [em] at q0
              exact q0
            · have q0 := q _ K0.Same.rfl'
              rw [em] at q0
              exact q0
          · intro H8 s8 hD8
            rw [List.length_map] at hD8
            refine ⟨Nat.zero_le _, fun q hq => ?_⟩
            have ndq : D ≠ q := ne_of_none hD8 hq
            refine ⟨.list ((((List.range ns.length).filter fun i => decide (60 < ((Str.ofString (toString (ns.getD i 0))).length : Int))).map fun i => ns.getD i 0).map PyData.int), .list [], .lst (SqL.of (by rw [upd_ne ndq]; exact hD8)) ?_, .lst (SqL.of upd_same) .nil, shaped_ints _, rfl, ?_⟩
            · have e6 : (((List.range ns.length).filter fun i => decide (60 < ((Str.ofString (toString (ns.getD i 0))).length : Int))).map fun i => V.int (ns.getD i 0)) = ((((List.range ns.length).filter fun i => decide (60 < ((Str.ofString (toString (ns.getD i 0))).length : Int))).map fun i => ns.getD i 0).map V.int) := by rw [List.map_map]; rfl
              rw [e6]
              exact dpAll_ints _
            · have e8 : PyData.eqv (.list ((((List.range ns.length).filter fun i => decide (60 < ((Str.ofString (toString (ns.getD i 0))).length : Int))).map fun i => ns.getD i 0).map PyData.int)) (.list []) = rowL (ns.map V.int) := by
                rw [eqv_nil, List.isEmpty_map, List.isEmpty_map, sieve_all (p := fun i => isC (.int (ns.getD i 0))) ?_, ints_all ns (fun m => isC (.int m)), row_ints c1 c2]
                intro i hi
                have e7 : ns.getD i 0 = ns[i] := by simp [hi]
                have hmz := hz _ (List.getElem_mem hi)
                rw [e7]
                exact keep_not hmz.1
              rw [e8]
              refine ⟨⟨_, _, _, _, _, _, _, _, rfl⟩, K0.Same.tr s8 (K0.Same.new _ hq)⟩
        · refine if_neg_of (decide_eq_false c2) ?_
          have e9 : rowL (ns.map V.int) = false := row_no (.inr (by omega))
          rw [e9]
          exact ⟨⟨_, _, _, _, _, _, _, _, rfl⟩, K0.Same.rfl'⟩
      · refine if_neg_of (decide_eq_false c1) ⟨_, rfl, if_neg_of rfl ?_⟩
        have e9 : rowL (ns.map V.int) = false := row_no (.inl (by omega))
        rw [e9]
        exact ⟨⟨_, _, _, _, _, _, _, _, rfl⟩, K0.Same.rfl'⟩
    have ht8 := s8 _ _ ht
    have kd8 : Kd p H H8 := kd7.tr (Kd.of s8)
    have dc8 : DiceAt H8 p := by
      obtain ⟨x, y, v, e⟩ := dc7
      exact ⟨x, y, v, s8 _ _ e⟩
    clear ht s8 kd7 dc7
    subst hσ
    -- rows are judged
    have go : ∀ (xs : List V) (a : Addr) (H9 : Hp) (R : VK), (∀ x ∈ xs, Da H9 x ∧ Sz x) → xs.length ≤ 1000 → H9 a = some (.tup xs) → (∀ H', Same H9 H' → R (.bl (rowL xs)) H') → spIsRow [.ref a] H9 R E0 := fun xs a H9 R hx hlx ha q =>
      ⟨_, rfl, .tup ha, fun b ys e1 e2 => by
        cases e1
        rw [ha] at e2
        cases e2
        exact ⟨hlx, hx⟩, fun H' s' => by
        have q0 := q H' s'
        simp only [onTup, ha]
        exact q0⟩
    have dai : ∀ (H9 : Hp), ∀ x ∈ ns.map V.int, Da H9 x ∧ Sz x := fun H9 x hx => by
      obtain ⟨m, _, rfl⟩ := List.mem_map.mp hx
      exact ⟨.int m, True.intro⟩
    have bad : ∀ (x : V), isC x = false → (∀ H9, Da H9 x ∧ Sz x) → ∀ (a : Addr) (H9 : Hp) (R : VK), H9 a = some (.tup (ns.map V.int ++ [x])) → (∀ H', Same H9 H' → R (.bl false) H') → spIsRow [.ref a] H9 R E0 := fun x hx dx a H9 R ha q => by
      refine go _ a H9 R (fun y hy => ?_) (by rw [List.length_append, List.length_map]; simp; omega) ha ?_
      · rcases List.mem_append.mp hy with h | h
        · exact dai H9 y h
        · rw [List.mem_singleton.mp h]; exact dx H9
      · have e : rowL (ns.map V.int ++ [x]) = false := by
          unfold rowL
          have : (ns.map V.int ++ [x]).all isC = false := by simp [hx]
          rw [this, Bool.and_false]
        rw [e]
        exact q
    have tail : ∀ (x : V) (_ : isC x = false) (_ : ∀ H9, Da H9 x ∧ Sz x) (H9 : Hp) (R : VK), Same H8 H9 → (∀ H', Same H8 H' → R (.bl false) H') → ∀ p2, H9 p2 = none → rCatA K (.ref r) (.ref p2) (upd H9 p2 (.tup [x])) fun v H10 => spIsRow [v] H10 R E0 := fun x hx dx H9 R s9 q p2 hp2 => by
      have hr2 : r ≠ p2 := ne_of_none (s9 _ _ ht8) hp2
      have s10 : Same H8 (upd H9 p2 (.tup [x])) := K0.Same.tr s9 (K0.Same.new _ hp2)
      refine ⟨r, p2, ns.map V.int, [x], rfl, rfl, SqT.of (s10 _ _ ht8), SqT.of upd_same, by rw [List.length_map]; exact Nat.le_of_lt (small1000 (by simp; omega)), fun e => ?_, fun _ e => (by cases e), fun _ _ p3 hp3 => ?_⟩
      · refine bad x hx dx p2 _ R (by rw [e]; exact upd_same) fun H' s' => q H' (K0.Same.tr s10 s')
      · exact bad x hx dx p3 _ R upd_same fun H' s' => q H' (K0.Same.tr (K0.Same.tr s10 (K0.Same.new _ hp3)) s')
    refine ⟨fun σ H' => SlJ p σ ∧ Kd p H H' ∧ DiceAt H' p, ?_, fun σ H9 ⟨⟨a1, a2, a3, a4, a5, a6, a7, a8, a9, a10, hσ⟩, kd9, dc9⟩ => ?_⟩
    · obtain ⟨o1, o2, o3⟩ := bl_ok (rowL (ns.map V.int))
      refine ⟨_, rfl, ?_⟩
      dsimp only [tCall, tCons, tNil, List.cons_append, List.nil_append, List.append_nil]
      refine go _ r H8 _ (dai H8) (by rw [List.length_map]; omega) ht8 fun H9 s9 => ⟨_, _, rfl, .of (.bl _), o1, o2, o3, _, rfl, _, _, rfl, .of (.bl _), o1, o2, o3, rfl, _, rfl, if_neg_of (ne_same rfl) ?_⟩
      refine ⟨_, rfl, _, rfl, by show 1 ≤ sizeLine; decide, fun p2 hp2 => ?_⟩
      dsimp only [tCall, tCons, tNil, List.cons_append, List.nil_append, List.append_nil]
      refine tail (.int (-1)) neg_one_no (fun _ => ⟨.int _, True.intro⟩) H9 _ s9 (fun H10 s10 => ⟨_, _, rfl, rfl, _, rfl, if_neg_of rfl ?_⟩) p2 hp2
      refine ⟨_, rfl, by show 1 ≤ sizeLine; decide, fun p3 hp3 => ?_⟩
      dsimp only [tCall, tCons, tNil, List.cons_append, List.nil_append, List.append_nil]
      refine tail (.bl true) rfl (fun _ => ⟨.bl _, True.intro⟩) H10 _ s10 (fun H11 s11 => ⟨_, _, rfl, rfl, _, rfl, if_neg_of rfl ?_⟩) p3 hp3
      refine ⟨⟨_, _, _, _, _, _, _, _, _, _, rfl⟩, kd8.tr (Kd.of s11), ?_⟩
      obtain ⟨x, y, v, e⟩ := dc8
      exact ⟨x, y, v, s11 _ _ e⟩
    clear go dai bad tail ht8 hl hz kd8 dc8
    subst hσ
    -- values of other kinds
    refine ⟨fun σ H' => ∃ v : V, (∃ a1 a2 a3 a4 a5 a6 a7 a9 a10 : Option V, σ = [some (.ref p), a1, a2, a3, a4, a5, a6, a7, some v, a9, a10]) ∧ Kd p H H' ∧ DiceAt H' p ∧ Odd H' v, ?_, fun σ H1 ⟨v, ⟨a1, a2, a3, a4, a5, a6, a7, a9, a10, hσ⟩, kd1, dc1, od⟩ => ?_⟩
    · have le1 : ∀ n, n ≤ 20 → n ≤ sizeLine := fun n h => Nat.le_of_lt (small1000 (by omega))
      refine ⟨_, rfl, le1 1 (by decide), fun q1 h1 => ⟨le1 0 (by decide), fun q2 h2 q3 h3 => ⟨le1 1 (by decide), fun q4 h4 => ⟨le1 1 (by decide), fun q5 h5 => ⟨le1 2 (by decide), fun q6 h6 => ⟨le1 1 (by decide), fun q7 h7 => ⟨le1 2 (by decide), fun q8 h8 => ⟨le1 1 (by decide), fun q9 h9 => ⟨le1 1 (by decide), fun q10 h10 => ⟨le1 1 (by decide), fun q11 h11 => ⟨le1 15 (by decide), fun q12 h12 => ?_⟩⟩⟩⟩⟩⟩⟩⟩⟩⟩⟩
      have s1 := K0.Same.new (.lst [.int 0]) h1
      have s2 := K0.Same.new (.lst []) h2
      have s3 := K0.Same.new (.dK []) h3
      have s4 := K0.Same.new (.tup [.non]) h4
      have s5 := K0.Same.new (.tup [.str ""]) h5
      have s6 := K0.Same.new (.tup [.str "a", .int 1]) h6
      have s7 := K0.Same.new (.lst [.str "a"]) h7
      have s8 := K0.Same.new (.tup [.int 0, .str "1"]) h8
      have s9 := K0.Same.new (.tup [.int 0]) h9
      have s10 := K0.Same.new (.tup [.ref q9]) h10
      have s11 := K0.Same.new (.tup [.bl false]) h11
      have s12 := K0.Same.new (.lst [.non, .bl true, .bl false, .ref q1, .ref q2, .ref q3, .ref q4, .ref q5, .ref q6, .ref q7, .str "", .str "a b", .ref q8, .ref q10, .ref q11]) h12
      have t11 := K0.Same.tr s11 s12
      have t10 := K0.Same.tr s10 t11
      have t9 := K0.Same.tr s9 t10
      have t8 := K0.Same.tr s8 t9
      have t7 := K0.Same.tr s7 t8
      have t6 := K0.Same.tr s6 t7
      have t5 := K0.Same.tr s5 t6
      have t4 := K0.Same.tr s4 t5
      have t3 := K0.Same.tr s3 t4
      have t2 := K0.Same.tr s2 t3
      have t1 := K0.Same.tr s1 t2
      obtain ⟨x, y, z, e⟩ := dc9
      have hp12 : q12 ≠ p := fun c => by
        have e2 := (K0.Same.tr s1 (K0.Same.tr s2 (K0.Same.tr s3 (K0.Same.tr s4 (K0.Same.tr s5 (K0.Same.tr s6 (K0.Same.tr s7 (K0.Same.tr s8 (K0.Same.tr s9 (K0.Same.tr s10 s11)))))))))) _ _ e
        rw [c, e2] at h12
        cases h12
      refine ⟨p, q12, _, rfl, ⟨x, y, z, t1 _ _ e⟩, hp12, upd_same, by simp, by simp, fun v H' hv kd dc => ?_⟩
      have kp : ∀ {q : Addr} {o : HO}, (∀ a b c : Int, o ≠ .lst [.int a, .int b, .int c]) → (upd _ q12 _) q = some o → H' q = some o := fun {q o} no eq => kd _ _ (fun c => by rw [c, t1 _ _ e] at eq; exact no _ _ _ (Option.some.inj eq).symm) eq
      refine ⟨v, ⟨_, _, _, _, _, _, _, _, _, rfl⟩, kd9.tr ((Kd.of t1).tr kd), dc, ?_⟩
      have i1 := kp (by intro a b c h; cases h) (t2 _ _ upd_same)
      have i2 := kp (by intro a b c h; cases h) (t3 _ _ upd_same)
      have i3 := kp (by intro a b c h; cases h) (t4 _ _ upd_same)
      have i4 := kp (by intro a b c h; cases h) (t5 _ _ upd_same)
      have i5 := kp (by intro a b c h; cases h) (t6 _ _ upd_same)
      have i6 := kp (by intro a b c h; cases h) (t7 _ _ upd_same)
      have i7 := kp (by intro a b c h; cases h) (t8 _ _ upd_same)
      have i8 := kp (by intro a b c h; cases h) (t9 _ _ upd_same)
      have i9 := kp (by intro a b c h; cases h) (t10 _ _ upd_same)
      have i10 := kp (by intro a b c h; cases h) (t11 _ _ upd_same)
      have i11 := kp (by intro a b c h; cases h) (s12 _ _ upd_same)
      simp only [List.mem_cons, List.not_mem_nil, or_false] at hv
      rcases hv with h | h | h | h | h | h | h | h | h | h | h | h | h | h | h <;> subst h
      · exact .non
      · exact .bl _
      · exact .bl _
      · exact .lst i1
      · exact .lst i2
      · exact .emp i3
      · exact .tup i4 (by decide) (fun x hx => by rw [List.mem_singleton.mp hx]; exact ⟨.non, True.intro⟩) rfl rfl
      · exact .tup i5 (by decide) (fun x hx => by rw [List.mem_singleton.mp hx]; exact ⟨.str _, (by decide : ("" : Str).length ≤ 1000)⟩) (by decide) rfl
      · exact .tup i6 (by decide) (fun x hx => by
          rcases List.mem_cons.mp hx with e | e
          · rw [e]; exact ⟨.str _, (by decide : ("a" : Str).length ≤ 1000)⟩
          · rw [List.mem_singleton.mp e]; exact ⟨.int _, True.intro⟩) (by decide) rfl
      · exact .lst i7
      · exact .str (by decide) (by decide)
      · exact .str (by decide) (by decide)
      · exact .tup i8 (by decide) (fun x hx => by
          rcases List.mem_cons.mp hx with e | e
          · rw [e]; exact ⟨.int _, True.intro⟩
          · rw [List.mem_singleton.mp e]; exact ⟨.str _, (by decide : ("1" : Str).length ≤ 1000)⟩) (by decide) (by show (isC (.int 0) && (false && true)) = false; rw [Bool.false_and, Bool.and_false])
      · exact .tup i10 (by show 1 ≤ 1000; decide) (fun x hx => by rw [List.mem_singleton.mp hx]; exact ⟨.tup i9, True.intro⟩) rfl rfl
      · exact .tup i11 (by decide) (fun x hx => by rw [List.mem_singleton.mp hx]; exact ⟨.bl _, True.intro⟩) rfl rfl
    subst hσ
    refine ⟨_, rfl, v, rfl, od.da, _, rfl, v, rfl, od.da, _, rfl, v, rfl, od.da, od.sz, fun H2 s2 => ⟨_, rfl, v, rfl, (od.same s2).da, (od.same s2).tu, fun H3 s3 => ⟨_, rfl, v, rfl, ((od.same s2).same s3).da, ((od.same s2).same s3).tu, fun H4 s4 => ⟨by show 5 ≤ sizeLine; decide, fun q hq => ?_⟩⟩⟩⟩
    refine ⟨by show 1 ≤ sizeLine; decide, fun l hl => ⟨l, 5, [.bl false], rfl, rfl, upd_same, by decide, by decide, by decide, fun r hr => ?_⟩⟩
    have nql : q ≠ l := fun c => by rw [c, upd_same] at hl; cases hl
    have nqr : q ≠ r := fun c => by rw [← c, upd_ne nql, upd_same] at hr; cases hr
    have e0 : PyData.eqv (.list [.bool (isI v), .bool (isC v), .bool (nameV v), .bool (onTup H2 (fun xs => xs.all nameV) v), .bool (onTup H3 rowL v)]) (.list [.bool false, .bool false, .bool false, .bool false, .bool false]) = true := by
      rw [od.noI, od.noC, od.noN, (od.same s2).noA, ((od.same s2).same s3).noR]
      rfl
    have sx := K0.Same.tr (K0.Same.tr (K0.Same.tr s2 s3) s4) (K0.Same.tr (K0.Same.new (.lst [.bl (isI v), .bl (isC v), .bl (nameV v), .bl (onTup H2 (fun xs => xs.all nameV) v), .bl (onTup H3 rowL v)]) hq) (K0.Same.tr (K0.Same.new (.lst [.bl false]) hl) (K0.Same.new (.lst (List.replicate (5 : Int).toNat [V.bl false]).flatten) hr)))
    refine ⟨.list [.bool (isI v), .bool (isC v), .bool (nameV v), .bool (onTup H2 (fun xs => xs.all nameV) v), .bool (onTup H3 rowL v)], .list [.bool false, .bool false, .bool false, .bool false, .bool false], .lst (SqL.of (by rw [upd_ne nqr, upd_ne nql]; exact upd_same)) (.cons (.bl _) (.cons (.bl _) (.cons (.bl _) (.cons (.bl _) (.cons (.bl _) .nil))))),
      .lst (SqL.of upd_same) (.cons (.bl _) (.cons (.bl _) (.cons (.bl _) (.cons (.bl _) (.cons (.bl _) .nil))))), rfl, rfl, ?_⟩
    rw [e0]
    refine k _ (kd1.tr (Kd.of sx)) ?_
    obtain ⟨x, y, z, e⟩ := dc1
    exact ⟨x, y, z, sx _ _ e⟩
end
end K0

/-! ## G9 -/
set_option maxRecDepth 100000
set_option maxHeartbeats 4000000
namespace K0
open PySem PySem.Spec PyProof.Rows L2
abbrev sErR : Stmt := top 64
abbrev nEr : List Str := ["_law_told", "_law_index", "_law_letters", "_law_due", "_law_error", "_law_letter", "_law_way"]
theorem scErR : FnScope nEr ["_law_told", "_law_index"] (defScope sErR) := ⟨rfl, rfl, rfl, by decide +kernel, rfl, by decide +kernel, by decide +kernel⟩
abbrev letters : Str := "abcdefghijklmnopqrst"
def ltx (i : Nat) : Str := (⟨#[letters.cps.getD i 0]⟩ : Str) ++ (" join value" : Str)
theorem ltx_eq : (List.range 20).map txA = (List.range 20).map ltx := by decide +kernel
theorem lsize : letters.cps.size = 20 := by decide +kernel
theorem okA : ((List.range 20).map txA).all (fun z => z.cps.toList.all fun c => decide (c < 0x110000)) = true := by decide +kernel
theorem okA' : ∀ z ∈ (List.range 20).map txA, okS z := fun z hz c hc => by
  have h1 := List.all_eq_true.mp okA z hz
  exact of_decide_eq_true (List.all_eq_true.mp h1 c hc)
theorem eqv_strs : ∀ zs : List Str, PyData.eqvAll (zs.map PyData.str) (zs.map PyData.str) = true
  | [] => rfl
  | z :: r => by
    show ((z == z) && PyData.eqvAll (r.map PyData.str) (r.map PyData.str)) = true
    rw [beq_self_eq_true, eqv_strs r]
    rfl
theorem t20 : txA 20 = "P join value" := by decide +kernel
theorem t21 : txA 21 = "U key lookup" := by decide +kernel
theorem t22 : txA 22 = "L lookup" := by decide +kernel
theorem t23 : txA 23 = "N index lookup" := by decide +kernel
theorem t24 : txA 24 = "Z runtime" := by decide +kernel
theorem t25 : txA 25 = "M overflow arithmetic" := by decide +kernel
theorem t26 : txA 26 = "R arithmetic" := by decide +kernel
theorem t27 : txA 27 = " join value" := by decide +kernel
def dueD (pd ix : PyData) : PyData := .list [.tuple [.str "P join value", ix], .tuple [.str "U key lookup", pd], .tuple [.str "L lookup", pd], .tuple [.str "N index lookup", pd], .tuple [.str "Z runtime", pd], .tuple [.str "M overflow arithmetic", pd], .tuple [.str "R arithmetic", pd]]
/-- what is asked of the shown texts -/
structure ShowOk (pd ix : PyData) : Prop where
  s : pd.showable = true
  d : pd.depth ≤ 20
  l : pd.shown.length ≤ 900
  s2 : (dueD pd ix).showable = true
  d2 : (dueD pd ix).depth ≤ 20
  l2 : (dueD pd ix).shown.length ≤ 1000
  p1 : SeqAt.shaped (.str (("refused " : Str) ++ pd.shown)) = true
  p2 : SeqAt.shaped (.str (("layered " : Str) ++ pd.shown)) = true
/-- the seven pairs -/
structure At7 (H : Hp) (l t0 t1 t2 t3 t4 t5 t6 : Addr) (told idx : V) : Prop where
  ns : l ≠ sysModules
  l : H l = some (.lst [.ref t0, .ref t1, .ref t2, .ref t3, .ref t4, .ref t5, .ref t6])
  h0 : H t0 = some (.tup [.str "P join value", idx])
  h1 : H t1 = some (.tup [.str "U key lookup", told])
  h2 : H t2 = some (.tup [.str "L lookup", told])
  h3 : H t3 = some (.tup [.str "N index lookup", told])
  h4 : H t4 = some (.tup [.str "Z runtime", told])
  h5 : H t5 = some (.tup [.str "M overflow arithmetic", told])
  h6 : H t6 = some (.tup [.str "R arithmetic", told])
theorem At7.data {K : PySem.W.Frag} {H : Hp} {l t0 t1 t2 t3 t4 t5 t6 : Addr} {told idx : V} {pd ix : PyData} (a : At7 H l t0 t1 t2 t3 t4 t5 t6 told idx) (ht : Tk K H told pd) (hi : Dp K H idx ix) (hs : Sc H idx ix) : Tk K H (.ref l) (dueD pd ix) ∨ D7 H (.ref l) (dueD pd ix) := by
  have pr : ∀ {t : Addr} {z : Str} {v : V} {p : PyData}, H t = some (.tup [.str z, v]) → Dp K H v p → Dp K H (.ref t) (.tuple [.str z, p]) := fun e d => .tup (SqT.of e) (.cons (.str _) (.cons d .nil))
  cases ht with
  | dp h => exact .inl (.dp (.lst (SqL.of a.l) (.cons (pr a.h0 hi) (.cons (pr a.h1 h) (.cons (pr a.h2 h) (.cons (pr a.h3 h) (.cons (pr a.h4 h) (.cons (pr a.h5 h) (.cons (pr a.h6 h) .nil)))))))))
  | sc h => exact .inr (.lst (ts := [t0, t1, t2, t3, t4, t5, t6]) a.ns a.l (.cons a.h0 hs (.cons a.h1 h (.cons a.h2 h (.cons a.h3 h (.cons a.h4 h (.cons a.h5 h (.cons a.h6 h .nil))))))))
def spErR (K : PySem.W.Frag) : Sp := fun vs H Q _ => ∃ (told idx : V) (pd ix : PyData), vs = [told, idx] ∧ Tk K H told pd ∧ (∀ H', Dp K H' idx ix ∧ Sc H' idx ix) ∧ ShowOk pd ix ∧ ∀ H', Same H H' → Q (.bl true) H'
structure TEr (K : PySem.W.Frag) (mg : Str → Option Value) (fM fK fA fC : Addr) : Prop where
  repr : mg "repr" = none
  range : mg "range" = none
  gM : mg "_law_made_all" = some (.ref fM)
  kM : PySem.W.keepIn K (.ref fM) = true
  gK : mg "_law_kept" = some (.ref fK)
  kK : PySem.W.keepIn K (.ref fK) = true
  gA : mg "_law_all" = some (.ref fA)
  kA : PySem.W.keepIn K (.ref fA) = true
  gC : mg "_law_caught" = some (.ref fC)
  kC : PySem.W.keepIn K (.ref fC) = true
section
variable {P : Program} {w : World} {K : PySem.W.Frag} {mg : Str → Option Value} {base : Heap} {ca : Nat → Addr} {fM fK fA fC : Addr} {fdM fdK fdA fdC : FuncData}
theorem ok_erR {f : Addr} {fd : FuncData} (F : Fun K "_law_errors_right" "_law_errors_right" sErR f fd) (T : EC K mg ca) (M : EM K ca) (J : TEr K mg fM fK fA fC)
    (GM : FnOk P w K mg base CX0 1 fM fdM [] (spMade ca)) (bM : Binds K fdM [] []) (GK : FnOk P w K mg base CX0 3 fK fdK ["_law_told", "_law_index"] spKept) (bK : Binds K fdK ["_law_told", "_law_index"] [])
    (GA : FnOk P w K mg base CX0 2 fA fdA ["_law_error"] (spErr txA ca)) (bA : Binds K fdA ["_law_error"] []) (GC : FnG P w K mg base CX0 3 fC fdC ["_law_told", "_law_way"] (spCau K)) (bC : Binds K fdC ["_law_told", "_law_way"] []) : FnG P w K mg base CX0 4 f fd ["_law_told", "_law_index"] (spErR K) := by
  refine gfn F scErR (fun vs H Q E h => ?_) (fun cdv A outer s H vs Q E hr hgd h => ?_)
  · obtain ⟨told, idx, pd, ix, rfl, _⟩ := h
    rfl
  · obtain ⟨told, idx, pd, ix, rfl, tk0, hix, so, k⟩ := h
    have hr1 : Room 1 _ := hr.mono (by decide)
    have hr2 : Room 2 _ := hr.mono (by decide)
    refine ⟨_, PSs.nox (pss_cons (ps_set (i := 2) scErR.nd rfl (Or.inl rfl) pe_str)
      (C8.pss_cut (ps_if (pt_cmpR (op_neD hr.units) (pe_lc (own := [("_law_error", 4)]) (g := gName 4) (tt := tYes) rfl scErR.nd (pi_list (pe_call0 GM hr1 (by rfl) J.gM J.kM bM .nil pass0)) (blkOk_by (own := [("_law_error", 4)]) (N := nEr) (sc := defScope sErR) (by decide +kernel)) (fun _ _ _ _ _ => pg_name (i := 4) scErR.nd rfl (Or.inl rfl)) (fun _ _ _ _ _ => pts_nil)
            (fun _ _ _ _ _ => pe_call GA hr2 (by rfl) J.gA J.kA bA .nil pass0 (pa_cons (pv 4) pa_nil)))
          (pe_lc (own := [("_law_letter", 5)]) (g := gName 5) (tt := tYes) rfl scErR.nd (pi_str (pv 2)) (blkOk_by (own := [("_law_letter", 5)]) (N := nEr) (sc := defScope sErR) (by decide +kernel)) (fun _ _ _ _ _ => pg_name (i := 5) scErR.nd rfl (Or.inl rfl)) (fun _ _ _ _ _ => pts_nil)
            (fun _ _ _ _ _ => pe_op op_add_str (pv 5) pe_str)) (nomark _)) (pss_one (ps_ret pe_bl)) pss_nil)
      (C8.pss_cut (ps_set (i := 3) scErR.nd rfl (Or.inl rfl) (pe_lst (pa_cons (pe_tup (pa_cons pe_str (pa_cons (pv 1) pa_nil))) (pa_cons (pe_tup (pa_cons pe_str (pa_cons (pv 0) pa_nil))) (pa_cons (pe_tup (pa_cons pe_str (pa_cons (pv 0) pa_nil))) (pa_cons (pe_tup (pa_cons pe_str (pa_cons (pv 0) pa_nil))) pa_nil))))))
      (C8.pss_cut (ps_set (i := 3) scErR.nd rfl (Or.inl rfl) (pe_op op_catN (pv 3) (pe_lst (pa_cons (pe_tup (pa_cons pe_str (pa_cons (pv 0) pa_nil))) (pa_cons (pe_tup (pa_cons pe_str (pa_cons (pv 0) pa_nil))) (pa_cons (pe_tup (pa_cons pe_str (pa_cons (pv 0) pa_nil))) pa_nil))))))
      (C8.pss_cut (ps_if (pw_or (pt_cmpR op_ne (pe_callB (cr_reprT hgd hr.units) (by rfl) J.repr (by decide +kernel) (pa_cons (pe_call GK hr (by rfl) J.gK J.kK bK .nil pass0 (pa_cons (pv 0) (pa_cons (pv 1) pa_nil))) pa_nil)) (pe_callB (cr_reprT hgd hr.units) (by rfl) J.repr (by decide +kernel) (pa_cons (pv 3) pa_nil)) (nomark _))
          (pw_or1 (pt_cmpR op_ne (pe_call GA hr2 (by rfl) J.gA J.kA bA .nil pass0 (pa_cons (pe_exc1 (x := "JoinError") PySem.F.excBase_ValueError (M.xi 27 (.inr rfl)) T.g27 (M.kp 27 (by decide)) (by rfl) pe_str) pa_nil)) pe_str (nomark _)))).pt (pss_one (ps_ret pe_bl)) pss_nil)
      (pss_one (ps_ret (pe_cmpR (op_eqD hr.units) (pe_lc (own := [("_law_way", 6)]) (g := gName 6) (tt := tYes) rfl scErR.nd (pi_range1 (by rfl) J.range (pa_cons pe_int pa_nil)) (blkOk_by (own := [("_law_way", 6)]) (N := nEr) (sc := defScope sErR) (by decide +kernel)) (fun _ _ _ _ _ => pg_name (i := 6) scErR.nd rfl (Or.inl rfl)) (fun _ _ _ _ _ => pts_nil)
            (fun _ _ _ _ _ => pe_callG GC hr hgd (by rfl) J.gC J.kC bC .nil pass0 (pa_cons (pv 0) (pa_cons (pv 6) pa_nil))))
          (pe_lst (pa_cons pe_str (pa_cons (pe_op op_add_str pe_str (pe_callB (cr_reprT hgd hr.units) (by rfl) J.repr (by decide +kernel) (pa_cons (pv 0) pa_nil))) (pa_cons (pe_op op_add_str pe_str (pe_callB (cr_reprT hgd hr.units) (by rfl) J.repr (by decide +kernel) (pa_cons (pv 0) pa_nil))) pa_nil)))) (nomark _))))))))), ?_⟩
    refine ⟨fun σ H' => (∃ a3 a4 a5 a6 : Option V, σ = [some told, some idx, some (.str letters), a3, a4, a5, a6]) ∧ Same H H', ?_, ?_⟩
    · refine ⟨rfl, fun H1 l as s1 hn hl hlen hx => ⟨l, rfl, ⟨_, SqL.of hl⟩, fun D hD => lc_pure (f := fun i => .str (txA i)) (walk_list (K := K) (a := l) (xs := as.map V.ref)) (by rw [List.length_map, hlen]; exact small1000 (by decide)) hD (fun H7 s7 => SqL.of (s7 _ _ hl)) ?_ gName_mono ?_⟩⟩
      · rintro i x H2 H3 hi s2 ⟨rfl, hxi⟩
        rw [List.length_map, hlen] at hi
        rw [List.getElem?_map] at hxi
        obtain ⟨a, ha, rfl⟩ := Option.map_eq_some_iff.mp hxi
        exact ⟨rfl, fun Q' q => ⟨_, rfl, a, i, rfl, by omega, .inl (s2 _ _ (hx i a ha)), q _ K0.Same.rfl'⟩⟩
      · intro H2 s2 hD2
        rw [List.length_map, hlen] at hD2
        refine ⟨_, rfl, _, rfl, fun D2 hD3 => lc_pure (f := fun i => .str (ltx i)) walk_str (by rw [lsize]; exact small1000 (by decide)) hD3 (fun _ _ => True.intro) ?_ gName_mono ?_⟩
        · rintro i x H3 H4 hi s3 ⟨rfl, c, hc, rfl⟩
          have ec : letters.cps.getD i 0 = c := by simp [hc]
          refine ⟨rfl, fun Q' q => ⟨_, rfl, _, _, rfl, rfl, Nat.le_of_lt (small1000 (by show 1 + _ ≤ 1000; decide)), ?_⟩⟩
          have q0 := q _ K0.Same.rfl'
          unfold ltx at q0
          rw [ec] at q0
          exact q0
        · intro H3 s3 hD4
          rw [lsize] at hD4
          have e1 : (List.range 20).map (fun i => V.str (txA i)) = ((List.range 20).map txA).map V.str := by rw [List.map_map]; rfl
          have e2 : (List.range 20).map (fun i => V.str (ltx i)) = ((List.range 20).map txA).map V.str := by rw [ltx_eq, List.map_map]; rfl
          rw [e1] at hD2
          rw [e2] at hD4
          refine ⟨.list (((List.range 20).map txA).map PyData.str), .list (((List.range 20).map txA).map PyData.str), .lst (SqL.of (s3 _ _ hD2)) (dpAll_strs _), .lst (SqL.of hD4) (dpAll_strs _), shaped_strs okA', shaped_strs okA', _, rfl, if_neg_of ?_ ⟨⟨_, _, _, _, rfl⟩, K0.Same.tr s1 (K0.Same.tr s2 s3)⟩⟩
          show (!PyData.eqvAll _ _) = false
          rw [eqv_strs]
          rfl
    rintro σ H1 ⟨⟨a3, a4, a5, a6, rfl⟩, s1⟩
    have tk1 := tk0.same s1
    refine ⟨fun σ H' => ∃ (l t0 t1 t2 t3 : Addr), (∃ a4 a5 a6 : Option V, σ = [some told, some idx, some (.str letters), some (.ref l), a4, a5, a6]) ∧ Same H1 H' ∧ H' l = some (.lst [.ref t0, .ref t1, .ref t2, .ref t3]) ∧ H' t0 = some (.tup [.str "P join value", idx]) ∧ H' t1 = some (.tup [.str "U key lookup", told]) ∧ H' t2 = some (.tup [.str "L lookup", told]) ∧ H' t3 = some (.tup [.str "N index lookup", told]), ?_, ?_⟩
    · refine ⟨_, rfl, by show 2 ≤ sizeLine; decide, fun t0 h0 => ⟨_, rfl, by show 2 ≤ sizeLine; decide, fun t1 h1 => ⟨_, rfl, by show 2 ≤ sizeLine; decide, fun t2 h2 => ⟨_, rfl, by show 2 ≤ sizeLine; decide, fun t3 h3 => ⟨by show 4 ≤ sizeLine; decide, fun l hl => ?_⟩⟩⟩⟩⟩
      have z0 := K0.Same.new (.tup [.str "P join value", idx]) h0
      have z1 := K0.Same.new (.tup [.str "U key lookup", told]) h1
      have z2 := K0.Same.new (.tup [.str "L lookup", told]) h2
      have z3 := K0.Same.new (.tup [.str "N index lookup", told]) h3
      have z4 := K0.Same.new (.lst [.ref t0, .ref t1, .ref t2, .ref t3]) hl
      have y3 := K0.Same.tr z3 z4
      have y2 := K0.Same.tr z2 y3
      have y1 := K0.Same.tr z1 y2
      exact ⟨l, t0, t1, t2, t3, ⟨_, _, _, rfl⟩, K0.Same.tr z0 y1, upd_same, y1 _ _ upd_same, y2 _ _ upd_same, y3 _ _ upd_same, z4 _ _ upd_same⟩
    rintro σ H2 ⟨l, t0, t1, t2, t3, ⟨a4, a5, a6, rfl⟩, s2, hl, h0, h1, h2, h3⟩
    refine ⟨fun σ H' => ∃ (l t4 t5 t6 : Addr), (∃ a4 a5 a6 : Option V, σ = [some told, some idx, some (.str letters), some (.ref l), a4, a5, a6]) ∧ Same H2 H' ∧ At7 H' l t0 t1 t2 t3 t4 t5 t6 told idx, ?_, ?_⟩
    · refine ⟨_, rfl, _, rfl, by show 2 ≤ sizeLine; decide, fun t4 h4 => ⟨_, rfl, by show 2 ≤ sizeLine; decide, fun t5 h5 => ⟨_, rfl, by show 2 ≤ sizeLine; decide, fun t6 h6 => ⟨by show 3 ≤ sizeLine; decide, fun m hm => ?_⟩⟩⟩⟩
      have z4 := K0.Same.new (.tup [.str "Z runtime", told]) h4
      have z5 := K0.Same.new (.tup [.str "M overflow arithmetic", told]) h5
      have z6 := K0.Same.new (.tup [.str "R arithmetic", told]) h6
      have z7 := K0.Same.new (.lst [.ref t4, .ref t5, .ref t6]) hm
      have x7 := K0.Same.tr z4 (K0.Same.tr z5 (K0.Same.tr z6 z7))
      refine ⟨l, m, _, _, rfl, rfl, x7 _ _ hl, upd_same, by show 4 + 3 ≤ sizeLine; decide, fun l2 hl2 ns2 => ?_⟩
      have z8 := K0.Same.new (.lst ([V.ref t0, .ref t1, .ref t2, .ref t3] ++ [.ref t4, .ref t5, .ref t6])) hl2
      have y7 := K0.Same.tr z7 z8
      have y6 := K0.Same.tr z6 y7
      have y5 := K0.Same.tr z5 y6
      have y4 := K0.Same.tr z4 y5
      exact ⟨l2, t4, t5, t6, ⟨_, _, _, rfl⟩, y4, ns2, upd_same, y4 _ _ h0, y4 _ _ h1, y4 _ _ h2, y4 _ _ h3, y5 _ _ upd_same, y6 _ _ upd_same, y7 _ _ upd_same⟩
    rintro σ H3 ⟨l2, t4, t5, t6, ⟨a4, a5, a6, rfl⟩, s3, at7⟩
    have sA := K0.Same.tr s1 (K0.Same.tr s2 s3)
    have tk3 := tk1.same (K0.Same.tr s2 s3)
    refine ⟨fun σ H' => (∃ a3 a4 a5 a6 : Option V, σ = [some told, some idx, some (.str letters), a3, a4, a5, a6]) ∧ Same H H', ?_, ?_⟩
    · refine ⟨_, rfl, _, rfl, told, idx, rfl, fun H4 l5 u0 u1 u2 u3 u4 u5 u6 s4 _ nsl hl5 pr => ?_⟩
      have b7 : At7 H4 l5 u0 u1 u2 u3 u4 u5 u6 told idx := by
        obtain ⟨q0, q1, q2, q3, q4, q5, q6, _⟩ := pr
        rw [t20, if_pos rfl] at q0
        rw [t21, if_neg (by decide)] at q1
        rw [t22, if_neg (by decide)] at q2
        rw [t23, if_neg (by decide)] at q3
        rw [t24, if_neg (by decide)] at q4
        rw [t25, if_neg (by decide)] at q5
        rw [t26, if_neg (by decide)] at q6
        exact ⟨nsl, hl5, q0, q1, q2, q3, q4, q5, q6⟩
      have c7 : At7 H4 l2 t0 t1 t2 t3 t4 t5 t6 told idx := ⟨at7.ns, s4 _ _ at7.l, s4 _ _ at7.h0, s4 _ _ at7.h1, s4 _ _ at7.h2, s4 _ _ at7.h3, s4 _ _ at7.h4, s4 _ _ at7.h5, s4 _ _ at7.h6⟩
      have tk4 := tk3.same s4
      refine ⟨_, _, rfl, b7.data tk4 (hix H4).1 (hix H4).2, so.s2, so.d2, so.l2, _, rfl, _, _, rfl, c7.data tk4 (hix H4).1 (hix H4).2, so.s2, so.d2, so.l2, rfl, _, rfl, if_neg_of (ne_same rfl) ?_⟩
      intro a ha
      refine ⟨a, 27, rfl, by decide, .inl upd_same, rfl, _, rfl, if_neg_of (ne_same t27) ⟨⟨_, _, _, _, rfl⟩, K0.Same.tr sA (K0.Same.tr s4 (K0.Same.new _ ha))⟩⟩
    rintro σ H5 ⟨⟨a3, a4, a5, a6, rfl⟩, s5⟩
    have tk5 := tk0.same s5
    refine ⟨3, rfl, by decide, by decide, fun D hD => lc_pure (f := fun i => .str (txC (0 + (i : Nat)) pd)) walk_range (small1000 (by decide)) hD (fun _ _ => True.intro) ?_ gName_mono ?_⟩
    · rintro i x H6 H7 hi s6 ⟨rfl, rfl⟩
      exact ⟨rfl, fun Q' q => ⟨_, rfl, _, rfl, told, _, pd, rfl, by show (0 : Int) ≤ 0 + (i : Nat); omega, by show (0 : Int) + (i : Nat) < 3; omega, tk5.same s6, so.s, so.d, so.l, fun H8 s8 => q _ s8⟩⟩
    · intro H6 s6 hD6
      have tk6 := tk5.same s6
      have hD7 : H6 D = some (.lst [.str "base h", .str (("refused " : Str) ++ pd.shown), .str (("layered " : Str) ++ pd.shown)]) := hD6
      have l8 : ("refused " : Str).length = 8 := by decide
      have l9 : ("layered " : Str).length = 8 := by decide
      have ll := so.l
      refine ⟨_, rfl, told, pd, rfl, .inl tk6, so.s, so.d, by omega, _, _, rfl, rfl, Nat.le_of_lt (small1000 (by omega)), ?_⟩
      refine ⟨_, rfl, told, pd, rfl, .inl tk6, so.s, so.d, by omega, _, _, rfl, rfl, Nat.le_of_lt (small1000 (by omega)), by show 3 ≤ sizeLine; decide, fun q hq => ?_⟩
      have sq := K0.Same.new (.lst [.str "base h", .str (("refused " : Str) ++ pd.shown), .str (("layered " : Str) ++ pd.shown)]) hq
      have shp : SeqAt.shaped (.list [.str "base h", .str (("refused " : Str) ++ pd.shown), .str (("layered " : Str) ++ pd.shown)]) = true := by
        have g1 := SeqAt.canLay_of_shaped so.p1
        have g2 := SeqAt.canLay_of_shaped so.p2
        have g0 : PyData.canLay0 (.str "base h") = true := by decide +kernel
        show ((PyData.canLay0 (.str "base h") && (PyData.canLay0 (.str (("refused " : Str) ++ pd.shown)) && (PyData.canLay0 (.str (("layered " : Str) ++ pd.shown)) && true))) && decide (_ ≤ 64)) = true
        rw [g0, g1, g2]
        rfl
      refine ⟨.list [.str "base h", .str (("refused " : Str) ++ pd.shown), .str (("layered " : Str) ++ pd.shown)], .list [.str "base h", .str (("refused " : Str) ++ pd.shown), .str (("layered " : Str) ++ pd.shown)], .lst (SqL.of (sq _ _ hD7)) (.cons (.str _) (.cons (.str _) (.cons (.str _) .nil))), .lst (SqL.of upd_same) (.cons (.str _) (.cons (.str _) (.cons (.str _) .nil))), shp, shp, ?_⟩
      have e9 : PyData.eqv (.list [.str "base h", .str (("refused " : Str) ++ pd.shown), .str (("layered " : Str) ++ pd.shown)]) (.list [.str "base h", .str (("refused " : Str) ++ pd.shown), .str (("layered " : Str) ++ pd.shown)]) = true := eqv_strs ["base h", ("refused " : Str) ++ pd.shown, ("layered " : Str) ++ pd.shown]
      rw [e9]
      exact k _ (K0.Same.tr s5 (K0.Same.tr s6 sq))
end
end K0

/-! ## A13 -/
set_option maxRecDepth 100000
set_option maxHeartbeats 4000000
namespace K0
open PySem L2
abbrev sCopR : Stmt := top 56
/-! ### the heap but the tables of code objects -/
abbrev Ex := LamX.ExtN
theorem Ex.of {H H' : Hp} (s : Same H H') : Ex H H' := fun b o e _ => s b o e
theorem Ex.tr {A B C : Hp} (a : Ex A B) (b : Ex B C) : Ex A C := LamX.ExtN.trans a b
/-- all but the dice and the tables stay -/
def Kt (p : Addr) (H H' : Hp) : Prop := ∀ b o, b ≠ p → H b = some o → (∀ ps, o ≠ .tbl ps) → H' b = some o
theorem Kt.of {p : Addr} {H H' : Hp} (k : Kd p H H') : Kt p H H' := fun b o n e _ => k b o n e
theorem Kt.ex {p : Addr} {H H' : Hp} (k : Ex H H') : Kt p H H' := fun b o _ e t => k b o e t
theorem Kt.tr {p : Addr} {A B C : Hp} (a : Kt p A B) (b : Kt p B C) : Kt p A C := fun c o n e t => b c o n (a c o n e t) t
theorem lst_t {xs : List V} : ∀ ps, HO.lst xs ≠ .tbl ps := fun _ z => by cases z
theorem tup_t {xs : List V} : ∀ ps, HO.tup xs ≠ .tbl ps := fun _ z => by cases z
theorem dK_t {xs : List (Key × V)} : ∀ ps, HO.dK xs ≠ .tbl ps := fun _ z => by cases z
theorem xd_t {xs : List (Str × V)} : ∀ ps, HO.xd xs ≠ .tbl ps := fun _ z => by cases z
theorem DiceAt.ex {H H' : Hp} {p : Addr} (d : DiceAt H p) (e : Ex H H') : DiceAt H' p := by
  obtain ⟨x, y, z, h⟩ := d
  exact ⟨x, y, z, e _ _ h lst_t⟩
theorem tabs_kd {T : List (Addr × Str)} {H H' : Hp} {p : Addr} (t : LamX.Tabs T H) (d : DiceAt H p) (k : Kd p H H') : LamX.Tabs T H' := fun c hc => by
  obtain ⟨ps, h1, h2, h3⟩ := t c hc
  obtain ⟨x, y, z, e⟩ := d
  refine ⟨ps, k _ _ (fun q => ?_) h1, h2, fun pos cv hq => ?_⟩
  · rw [q, e] at h1
    cases h1
  · obtain ⟨c2, e1, e2⟩ := h3 pos cv hq
    refine ⟨c2, e1, k _ _ (fun q => ?_) e2⟩
    rw [q, e] at e2
    unfold LamX.CodeO at e2
    cases e2
theorem tabs_same {T : List (Addr × Str)} {H H' : Hp} (t : LamX.Tabs T H) (s : Same H H') : LamX.Tabs T H' := t.ext s
mutual
theorem dp_ex {K : PySem.W.Frag} {H H' : Hp} (e : Ex H H') : ∀ (d : PyData) (v : V), Dp K H v d → Dp K H' v d
  | .none, _, h => by cases h; exact .non
  | .bool _, _, h => by cases h; exact .bl _
  | .int _, _, h => by cases h; exact .int _
  | .str _, _, h => by cases h; exact .str _
  | .list ds, _, h => by
    cases h with
    | lst h1 ha => exact .lst (h1.imp (fun r => r.imp (fun z => e _ _ z lst_t) fun ⟨o, z⟩ => ⟨o, e _ _ z fun ps q => by cases q⟩) id) (dps_ex e ds _ ha)
  | .tuple ds, _, h => by
    cases h with
    | tup h1 ha => exact .tup (h1.imp (fun r => r.imp (fun z => e _ _ z tup_t) fun ⟨o, z⟩ => ⟨o, e _ _ z fun ps q => by cases q⟩) id) (dps_ex e ds _ ha)
  | .dict _, _, h => by cases h
theorem dps_ex {K : PySem.W.Frag} {H H' : Hp} (e : Ex H H') : ∀ (ds : List PyData) (vs : List V), DpAll K H vs ds → DpAll K H' vs ds
  | [], _, h => by cases h; exact .nil
  | d :: ds, _, h => by
    cases h with
    | cons h1 h2 => exact .cons (dp_ex e d _ h1) (dps_ex e ds _ h2)
end
theorem Dq.ex {K : PySem.W.Frag} {H H' : Hp} {v : V} {d : PyData} (h : Dq K H v d) (e : Ex H H') : Dq K H' v d := by
  cases h with
  | of z => exact .of (dp_ex e _ _ z)
  | emp z => exact .emp (e _ _ z dK_t)
theorem Da.ex {H H' : Hp} {v : V} (d : Da H v) (e : Ex H H') : Da H' v := by
  cases d with
  | non => exact .non
  | bl b => exact .bl b
  | int i => exact .int i
  | str x => exact .str x
  | lst h => exact .lst (e _ _ h lst_t)
  | tup h => exact .tup (e _ _ h tup_t)
  | dK h => exact .dK (e _ _ h dK_t)
/-- a value to be refused, told by its text -/
structure Bad (K : PySem.W.Frag) (H : Hp) (v : V) (pd : PyData) : Prop where
  da : Da H v
  dq : Dq K H v pd
  sh : pd.showable = true
  dep : pd.depth ≤ 20
  len : pd.shown.length ≤ 900
  shp : SeqAt.shaped (.str (("number " : Str) ++ pd.shown)) = true
theorem Bad.ex {K : PySem.W.Frag} {H H' : Hp} {v : V} {pd : PyData} (b : Bad K H v pd) (e : Ex H H') : Bad K H' v pd := ⟨b.da.ex e, b.dq.ex e, b.sh, b.dep, b.len, b.shp⟩
/-! ### the numbers -/
theorem num_bd {a b : Int} (a0 : 0 ≤ a) (a1 : a ≤ 400) (b0 : 0 ≤ b) (b1 : b ≤ 1000) : 0 ≤ a * b * (10 : Int) ^ (20 : Int).toNat ∧ a * b * (10 : Int) ^ (20 : Int).toNat < big ∧ (a * b * (10 : Int) ^ (20 : Int).toNat).natAbs < 2 ^ 100 := by
  have h1 : 0 ≤ a * b := Int.mul_nonneg a0 b0
  have h2 : a * b ≤ 400 * 1000 := Int.le_trans (Int.mul_le_mul_of_nonneg_right a1 b0) (Int.mul_le_mul_of_nonneg_left b1 (by decide))
  have e : (10 : Int) ^ (20 : Int).toNat = 100000000000000000000 := by decide
  have e2 : (2 : Nat) ^ 100 = 1267650600228229401496703205376 := by decide +kernel
  have e3 : (10 : Int) ^ 30 < big := by unfold big; decide +kernel
  have e4 : (10 : Int) ^ 30 = 1000000000000000000000000000000 := by decide
  rw [e]
  rw [e2]
  omega
theorem cop_eq {a b : Nat} (h : 0 < b) : a / Nat.gcd a b * b = b / Nat.gcd a b * a := by
  have g1 := Nat.gcd_dvd_left a b
  have g2 := Nat.gcd_dvd_right a b
  obtain ⟨x, hx⟩ := g1
  obtain ⟨y, hy⟩ := g2
  have gp : 0 < Nat.gcd a b := Nat.gcd_pos_of_pos_right _ h
  generalize Nat.gcd a b = g at *
  subst hx hy
  rw [Nat.mul_div_cancel_left _ gp, Nat.mul_div_cancel_left _ gp]
  rw [Nat.mul_left_comm, Nat.mul_comm y (g * x), Nat.mul_assoc]
theorem cop_no {a b e : Nat} (h : 0 < b) (he : 2 ≤ e) : a / Nat.gcd a b % e + b / Nat.gcd a b % e ≠ 0 := by
  intro z
  have h1 : a / Nat.gcd a b % e = 0 := by omega
  have h2 : b / Nat.gcd a b % e = 0 := by omega
  have gp : 0 < Nat.gcd a b := Nat.gcd_pos_of_pos_right _ h
  have c : Nat.gcd (a / Nat.gcd a b) (b / Nat.gcd a b) = 1 := Nat.gcd_div_gcd_div_gcd_of_pos_right h
  have d := Nat.dvd_gcd (Nat.dvd_of_mod_eq_zero h1) (Nat.dvd_of_mod_eq_zero h2)
  rw [c] at d
  have := Nat.le_of_dvd (by decide) d
  omega
end K0

/-! ## A14 -/
set_option maxRecDepth 100000
set_option maxHeartbeats 4000000
namespace K0
open PySem PySem.Spec PyProof.Rows L2
/-- a def whose code object is at c -/
structure FunC (K : PySem.W.Frag) (x qual : Str) (st : Stmt) (f : Addr) (fd : FuncData) (c : Addr) : Prop where
  ex : ∃ (oc : Value) (od : Option Addr) (kV doc pm : Value) (an : Option Addr) (ct : Value) (osl : Array (Option Value)), fd = PySem.W.fnOf x qual (defArgs st) (defBody st) (defScope st) .none kV doc pm an (.ref c) ct ∧
    K.lookup f = some ⟨oc, od, .func (PySem.W.fnOf x qual (defArgs st) (defBody st) (defScope st) .none kV doc pm an (.ref c) ct), osl⟩ ∧ PySem.W.codeIn K (.ref c) qual = true
  kp : PySem.W.keepIn K (.ref f) = true
section
variable {P : Program} {w : World} {K : PySem.W.Frag} {mg : Str → Option Value} {base : Heap}
theorem FunC.fn {x qual : Str} {st : Stmt} {f c : Addr} {fd : FuncData} (F : FunC K x qual st f fd c) : Fun K x qual st f fd := by
  obtain ⟨oc, od, kV, doc, pm, an, ct, osl, rfl, lk, hcd⟩ := F.ex
  exact ⟨⟨oc, od, kV, doc, pm, an, _, ct, osl, rfl, lk, hcd⟩, F.kp⟩
/-- such a def's body, where nothing is being shown -/
theorem gfnC {x qual : Str} {st : Stmt} {f c : Addr} {fd : FuncData} {N ps : List Str} {k : Nat} {sp : Sp} {CX : CXT} (F : FunC K x qual st f fd c) (S : FnScope N ps (defScope st)) (len : ∀ vs H Q E, sp vs H Q E → vs.length = ps.length)
    (hbody : ∀ (A : Around) (outer : List Env) (s : Shared) (H : Hp) (vs : List V) (Q : VK) (E : XK), Room k (A.deeper (envOfC qual (defScope st) s.heap.objs.size f (.ref c))) → (A.deeper (envOfC qual (defScope st) s.heap.objs.size f (.ref c))).guards = some [] → sp vs H Q E →
      ∃ t, PSs (cxOf CX P w K mg base N qual (defScope st) f (.ref c) A outer s H E) (defBody st) t ∧ t { nx := fun _ H' => Q .non H', rt := Q } (L2.start N vs) H) : FnG P w K mg base CX (k + 1) f fd ps sp := by
  obtain ⟨oc, od, kV, doc, pm, an, ct, osl, rfl, lk, hcd⟩ := F.ex
  refine ⟨len, fun A outer s H args us vs Q E hr hgd e0 hb r hsp => ?_⟩
  have hl := len _ _ _ _ hsp
  have KX : K.In s.heap := e0.mod.kin.keeps fun b o e => (e0.bs b o e).1
  have lim : s.heap.NoLimit := e0.mod.nolimit.keeps fun b o e => (e0.bs b o e).1
  have kinds : ∀ y ∈ ps.zip us, (defScope st).names.lookup y.1 = some .local ∨ ((defScope st).names.lookup y.1 = some .cell ∧ ((cellsFrom (s.heap.objs.size + 1) (defScope st).names []).lookup y.1).isSome = true) := fun ⟨n, v⟩ hy => by
    rcases S.par n (List.of_mem_zip hy).1 with q | q
    · exact .inl q
    · exact .inr ⟨q, PySem.W.cellsFrom_some _ _ _ (.inl q)⟩
  refine codeAny_call_function hr.depth (KX _ _ lk) rfl S.co S.gen rfl (PySem.W.codeRec_of KX hcd) (hb _ _ _ _ (wpAny_newFunctionEnv_cells S.kind kinds fun env he s1 x => ?_))
  subst he
  refine ⟨lim.keeps x.toInCall.keep, codeAny_func ?_⟩
  obtain ⟨t, ht, hq⟩ := hbody A outer s H vs Q E (hr.deeper _) (by show A.guards = some []; exact hgd) hsp
  have I : Inv (cxOf CX P w K mg base N qual (defScope st) f (.ref c) A outer s H E) [] (L2.start N vs) H s1 := inv_start S hr.hd e0 hl r x
  have fin : ∀ {s' : Shared} {σ' : L2.St} {H' : Hp} {v : V} {u : Value}, Inv (cxOf CX P w K mg base N qual (defScope st) f (.ref c) A outer s H E) [] σ' H' s' → RelV v u → Q v H' → CE outer P w H s Q u s' :=
    fun {s' σ' H' v u} J rv q => ⟨v, H', J.os, J.bare, J.base, J.hok, rv, q⟩
  refine wpAny_mono (ht.run [] s1 (L2.start N vs) H _ I hq) (fun fl s' hs => ?_) fun e s' hs => hs
  rcases fl with _ | _ | _ | u
  · obtain ⟨σ', H', J, q⟩ := hs
    exact fin (v := V.non) (u := Value.none) J rfl q
  · obtain ⟨_, _, _, q⟩ := hs
    exact False.elim q
  · obtain ⟨_, _, _, q⟩ := hs
    exact False.elim q
  · obtain ⟨v, σ', H', J, rv, q⟩ := hs
    exact fin J rv q
theorem passF {X : Cx} : Passes (L2.CX X.prog X.w) X (fun _ _ _ => False) := fun _ _ _ _ _ _ _ ⟨_, _, _, _, _, _, _, _, _, _, _, _, z⟩ => z.elim
end
end K0

/-! ## A15 -/
set_option maxRecDepth 100000
set_option maxHeartbeats 4000000
namespace K0
open PySem L2
abbrev nCo : List Str := ["_law_dice_here", "_law_one", "_law_other", "_law_times", "_law_found", "_law_told", "_law_bad", "_law_wrong", "_law_each"]
theorem scCopR : FnScope nCo ["_law_dice_here"] (defScope sCopR) := ⟨rfl, rfl, rfl, by decide +kernel, rfl, by decide +kernel, by decide +kernel⟩
structure TCR (K : PySem.W.Frag) (mg : Str → Option Value) (fCo fMe : Addr) : Prop where
  gCo : mg "coprime" = some (.ref fCo)
  kCo : PySem.W.keepIn K (.ref fCo) = true
  gMe : mg "_law_met" = some (.ref fMe)
  kMe : PySem.W.keepIn K (.ref fMe) = true
/-- every call answers True and leaves all but the dice and the tables -/
def spRun (T : List (Addr × Str)) : Sp := fun vs H Q _ => ∃ (p : Addr), vs = [.ref p] ∧ DiceAt H p ∧ LamX.Tabs T H ∧ ∀ H', Kt p H H' → DiceAt H' p → LamX.Tabs T H' → Q (.bl true) H'
theorem mul3 {a b : Int} (a0 : 0 ≤ a) (a1 : a ≤ 400) (b0 : 0 ≤ b) (b1 : b ≤ 1000) : CMulW a b ∧ CMulW (a * b) ((10 : Int) ^ (20 : Int).toNat) := by
  have h1 : a.natAbs < 2 ^ 10 := by have : (2 : Nat) ^ 10 = 1024 := by decide
                                    omega
  have h2 : b.natAbs < 2 ^ 10 := by have : (2 : Nat) ^ 10 = 1024 := by decide
                                    omega
  exact ⟨wide_mul h1 h2 (by decide) (by decide) (by decide), wide_mul (b := 70) (wide_lt h1 h2) (by decide +kernel) (by decide) (by decide) (by decide)⟩
theorem div_eq {a b : Int} (a0 : 0 ≤ a) (b0 : 0 < b) : a / ((Nat.gcd a.natAbs b.natAbs : Nat) : Int) = ((a.toNat / Nat.gcd a.toNat b.toNat : Nat) : Int) := by
  obtain ⟨n, rfl⟩ := Int.eq_ofNat_of_zero_le a0
  obtain ⟨m, rfl⟩ := Int.eq_ofNat_of_zero_le (Int.le_of_lt b0)
  rfl
theorem div_eq2 {a b : Int} (a0 : 0 ≤ a) (b0 : 0 < b) : b / ((Nat.gcd a.natAbs b.natAbs : Nat) : Int) = ((b.toNat / Nat.gcd a.toNat b.toNat : Nat) : Int) := by
  obtain ⟨n, rfl⟩ := Int.eq_ofNat_of_zero_le a0
  obtain ⟨m, rfl⟩ := Int.eq_ofNat_of_zero_le (Int.le_of_lt b0)
  rfl
theorem isC_of {a : Int} (a0 : 0 ≤ a) (a1 : a < big) : isC (.int a) = true := by
  have b0 : 0 < big := by unfold big; decide
  show ((decide (-big < a) && decide (a < big)) && decide (0 ≤ a)) = true
  rw [decide_eq_true (show -big < a by omega), decide_eq_true a1, decide_eq_true a0]
  rfl
theorem ne_int {i j : Int} (h : i = j) : (!decide (V.int i = V.int j)) = false := by rw [h, decide_eq_true rfl]; rfl
/-- the slots of coprime_right -/
def SlC (p : Addr) (b c : Option V) (σ : L2.St) : Prop := ∃ a1 a2 a3 a4 a5 a8 : Option V, σ = [some (.ref p), a1, a2, a3, a4, a5, b, c, a8]
theorem big_no : isC (.int ((10 : Int) ^ (60 : Int).toNat)) = false := by
  have e : ((10 : Int) ^ (60 : Int).toNat) = big := by unfold big; rfl
  rw [e]
  show ((decide (-big < big) && decide (big < big)) && decide (0 ≤ big)) = false
  rw [decide_eq_false (Int.lt_irrefl big), Bool.and_false]
  rfl
theorem tabs_app {T : List (Addr × Str)} {H : Hp} {l : Addr} {xs ys : List V} (t : LamX.Tabs T H) (h : H l = some (.lst xs)) : LamX.Tabs T (upd H l (.lst ys)) := fun c hc => by
  obtain ⟨ps, h1, h2, h3⟩ := t c hc
  refine ⟨ps, ?_, h2, fun pos cv hq => ?_⟩
  · rw [upd_ne (fun q => by rw [q, h] at h1; cases h1)]
    exact h1
  · obtain ⟨c2, e1, e2⟩ := h3 pos cv hq
    refine ⟨c2, e1, ?_⟩
    rw [upd_ne (fun q => by rw [q, h] at e2; unfold LamX.CodeO at e2; cases e2)]
    exact e2
theorem shp2 {a b : Str} (ha : SeqAt.shaped (.str a) = true) (hb : SeqAt.shaped (.str b) = true) : SeqAt.shaped (.list [.str a, .str b]) = true := by
  have h1 := SeqAt.canLay_of_shaped ha
  have h2 := SeqAt.canLay_of_shaped hb
  show ((PyData.canLay0 (.str a) && (PyData.canLay0 (.str b) && true)) && decide (_ ≤ 64)) = true
  rw [h1, h2]
  rfl
theorem eqv_strs2 (a b : Str) : PyData.eqv (.list [.str a, .str b]) (.list [.str a, .str b]) = true := by
  show ((a == a) && ((b == b) && true)) = true
  rw [beq_self_eq_true, beq_self_eq_true]
  rfl
/-- what coprime made: the pair of a * c * 10 ^ 20 and b * c * 10 ^ 20 -/
theorem pair_ok {a b c : Int} (a0 : 0 ≤ a) (b0 : 0 < b) (c0 : 0 < c) : ∃ x y : Nat, (a * c * (10 : Int) ^ (20 : Int).toNat) / ((Nat.gcd (a * c * (10 : Int) ^ (20 : Int).toNat).natAbs (b * c * (10 : Int) ^ (20 : Int).toNat).natAbs : Nat) : Int) = (x : Int) ∧
    (b * c * (10 : Int) ^ (20 : Int).toNat) / ((Nat.gcd (a * c * (10 : Int) ^ (20 : Int).toNat).natAbs (b * c * (10 : Int) ^ (20 : Int).toNat).natAbs : Nat) : Int) = (y : Int) ∧ (x : Int) * b = (y : Int) * a ∧ (∀ e : Nat, 2 ≤ e → x % e + y % e ≠ 0) ∧ (x : Int) ≤ a * c * (10 : Int) ^ (20 : Int).toNat ∧ (y : Int) ≤ b * c * (10 : Int) ^ (20 : Int).toNat := by
  have t0 : (0 : Int) < (10 : Int) ^ (20 : Int).toNat := by decide
  generalize (10 : Int) ^ (20 : Int).toNat = d at *
  obtain ⟨n, rfl⟩ := Int.eq_ofNat_of_zero_le a0
  obtain ⟨m, rfl⟩ := Int.eq_ofNat_of_zero_le (Int.le_of_lt b0)
  obtain ⟨k, rfl⟩ := Int.eq_ofNat_of_zero_le (Int.le_of_lt c0)
  obtain ⟨l, rfl⟩ := Int.eq_ofNat_of_zero_le (Int.le_of_lt t0)
  have e1 : (n : Int) * k * l = ((n * k * l : Nat) : Int) := by simp
  have e2 : (m : Int) * k * l = ((m * k * l : Nat) : Int) := by simp
  have pk : 0 < k * l := Nat.mul_pos (by omega) (by omega)
  have pm : 0 < m := by omega
  have pp : 0 < m * k * l := by rw [Nat.mul_assoc]; exact Nat.mul_pos pm pk
  rw [e1, e2]
  refine ⟨n * k * l / Nat.gcd (n * k * l) (m * k * l), m * k * l / Nat.gcd (n * k * l) (m * k * l), rfl, rfl, ?_, fun e he => cop_no pp he, ?_, ?_⟩
  · rw [Nat.mul_assoc, Nat.mul_assoc, Nat.gcd_mul_right, Nat.mul_div_mul_right _ _ pk, Nat.mul_div_mul_right _ _ pk]
    have z := cop_eq (a := n) pm
    rw [← Int.natCast_mul, ← Int.natCast_mul, z]
  · exact Int.ofNat_le.mpr (Nat.div_le_self _ _)
  · exact Int.ofNat_le.mpr (Nat.div_le_self _ _)
section
variable {P : Program} {w : World} {K : PySem.W.Frag} {mg : Str → Option Value} {base : Heap} {fR fP fCo fMe CN CO : Addr} {fdR fdP fdCo fdMe : FuncData} {T : List (Addr × Str)}
theorem ok_copR {f c PT : Addr} {fd : FuncData} (F : FunC K "_law_coprime_right" "_law_coprime_right" sCopR f fd c) (L : TM K mg fR fP) (J : TCR K mg fCo fMe) (M : TMe K mg CN CO)
    (Gr : FnOk P w K mg base CX0 1 fR fdR ["_law_dice_here", "_law_total"] spRoll) (bR : Binds K fdR ["_law_dice_here", "_law_total"] []) (Gp : FnOk P w K mg base CX0 2 fP fdP ["_law_dice_here", "_law_items"] spPick) (bP : Binds K fdP ["_law_dice_here", "_law_items"] [])
    (GC : FnOk P w K mg base (L2.CX P w) 3 fCo fdCo ["one", "other"] (spCop CN)) (bC : Binds K fdCo ["one", "other"] []) (FM : Fun K "_law_met" "_law_met" sMet fMe fdMe) (bM : Binds K fdMe ["_law_call"] [])
    (TB : LamX.TabB base mg c PT) (hT : ∀ q, (PT, q) ∈ T ↔ q = ("_law_coprime_right.<locals>.<lambda>" : Str)) : FnG P w K mg base CX0 6 f fd ["_law_dice_here"] (spRun T) := by
  obtain ⟨oc, od, kV, doc, pm, an, cdv, ct, osl, rfl, lkM, hcM⟩ := FM.ex
  refine gfnC F scCopR (fun vs H Q E h => ?_) (fun A outer s H vs Q E hr hgd h => ?_)
  · obtain ⟨p, rfl, _⟩ := h
    rfl
  · obtain ⟨p, rfl, hp, ht, k⟩ := h
    have hr1 : Room 1 _ := hr.mono (by decide)
    have hr2 : Room 2 _ := hr.mono (by decide)
    have hr3 : Room 3 _ := hr.mono (by decide)
    have hu : (A.deeper (PyProof.Rows.envOfC "_law_coprime_right" (defScope sCopR) s.heap.objs.size f (.ref c))).units + 200 < cLine := by
      have := hr.un
      omega
    refine ⟨_, PSs.nox (pss_cons (ps_par3 (i := 1) (j := 2) (l := 3) rfl scCopR.nd rfl rfl rfl (by decide) (by decide) (by decide) rfl rfl rfl (pa_cons (pe_call Gr hr1 (by rfl) L.gR L.kR bR .nil pass0 (pa_cons (pv 0) (pa_cons pe_int pa_nil)))
          (pa_cons (pe_op op_add pe_int (pe_call Gr hr1 (by rfl) L.gR L.kR bR .nil pass0 (pa_cons (pv 0) (pa_cons pe_int pa_nil)))) (pa_cons (pe_op op_add pe_int (pe_call Gr hr1 (by rfl) L.gR L.kR bR .nil pass0 (pa_cons (pv 0) (pa_cons pe_int pa_nil)))) pa_nil))) rfl)
      (pss_cons (ps_set (i := 4) scCopR.nd rfl (Or.inr rfl) (pe_call (E := fun _ _ _ => False) GC hr3 (by rfl) J.gCo J.kCo bC .nil passF (pa_cons (pe_op op_mulW (pe_op op_mulW (pv 1) (pv 3)) (pe_op op_pow pe_int pe_int)) (pa_cons (pe_op op_mulW (pe_op op_mulW (pv 2) (pv 3)) (pe_op op_pow pe_int pe_int)) pa_nil))))
      (C8.pss_cut (ps_if (pt_cmpR op_ne (pe_op op_mulW (pe_ix ix_tup (pv 4) pe_int (fun _ _ => rfl)) (pv 2)) (pe_op op_mulW (pe_ix ix_tup (pv 4) pe_int (fun _ _ => rfl)) (pv 1)) (nomark _)) (pss_one (ps_ret pe_bl)) pss_nil)
      (C8.pss_cut (ps_if (pt_cmpR (op_neD hr.units) (pe_lc (own := [("_law_each", 8)]) (g := gName 8) (by rfl) scCopR.nd (pi_range2 (by rfl) L.range (pa_cons pe_int (pa_cons pe_int pa_nil)))
          (blkOk_by (own := [("_law_each", 8)]) (N := nCo) (sc := defScope sCopR) (by decide +kernel)) (fun _ _ _ _ _ => pg_name (i := 8) scCopR.nd rfl (Or.inl rfl))
          (fun _ _ _ _ _ => pts_one (pt_cmpR op_eq (pe_op op_add (pe_op op_mod (pe_ix (r := rIxT K) ix_tup (pv 4) pe_int (fun _ _ => rfl)) (pv 8)) (pe_op op_mod (pe_ix (r := rIxT K) ix_tup (pv 4) pe_int (fun _ _ => rfl)) (pv 8))) pe_int (nomark _)))
          (fun _ _ _ _ _ => pv 8)) (pe_lst pa_nil) (nomark _)) (pss_one (ps_ret pe_bl)) pss_nil)
      (C8.pss_cut (ps_set (i := 6) scCopR.nd rfl (Or.inr rfl) (pe_call Gp hr2 (by rfl) L.gP L.kP bP .nil pass0 (pa_cons (pv 0) (pa_cons (pe_lst (pa_cons (pe_un un_neg pe_int) (pa_cons pe_non (pa_cons pe_bl (pa_cons pe_str (pa_cons (pe_tup (pa_cons pe_int pa_nil)) (pa_cons (pe_lst pa_nil) (pa_cons pe_dnewK (pa_cons (pe_op op_pow pe_int pe_int) pa_nil))))))))) pa_nil))))
      (C8.pss_cut (ps_set (i := 7) scCopR.nd rfl (Or.inr rfl) (pe_call Gp hr2 (by rfl) L.gP L.kP bP .nil pass0 (pa_cons (pv 0) (pa_cons (pe_lst (pa_cons pe_int (pa_cons (pe_un un_neg pe_int) (pa_cons pe_non (pa_cons pe_bl (pa_cons pe_str (pa_cons (pe_tup (pa_cons pe_int pa_nil)) (pa_cons (pe_lst pa_nil) (pa_cons (pe_op op_pow pe_int pe_int) pa_nil))))))))) pa_nil))))
      (C8.pss_cut (ps_set (i := 5) scCopR.nd rfl (Or.inl rfl) (pe_lst (pa_cons (LamX.pe_lamcall (T := T) (k := 3) (t := fun E => tCall (spCop CN) [] E (tCons (tVar 6) (tCons (tVar 7) tNil))) (by rfl) J.gMe J.kMe lkM hcM bM scMet rfl (Or.inl rfl) (met_gives M hgd hu) TB rfl ((hT _).mpr rfl) (fun q hq e => (hT _).mp (by rw [← e]; exact hq)) hr (LamX.lamS_by (by show LamX.lamSB (defScope sCopR) _ = true; decide +kernel)) rfl (fun _ _ _ _ _ => rfl)
          (by exact fun A2 o2 s2 H2 E2 f2 c2 hr4 => pe_call GC hr4 (by rfl) J.gCo J.kCo bC .nil (passes_call (takes_of rfl rfl rfl rfl) (fun _ _ _ _ h => h)) (pa_cons (pv 6) (pa_cons (pv 7) pa_nil)))) pa_nil)))
      (C8.pss_cut (ps_expr (pe_bm PySem.F.plainAttrs_list PySem.F.slot_list_append PySem.F.type_list_append mt_append (pv 5) (pa_cons (LamX.pe_lamcall (T := T) (k := 3) (t := fun E => tCall (spCop CN) [] E (tCons (tC (.int 0)) (tCons (tVar 7) tNil))) (by rfl) J.gMe J.kMe lkM hcM bM scMet rfl (Or.inl rfl) (met_gives M hgd hu) TB rfl ((hT _).mpr rfl) (fun q hq e => (hT _).mp (by rw [← e]; exact hq)) hr (LamX.lamS_by (by show LamX.lamSB (defScope sCopR) _ = true; decide +kernel)) rfl (fun _ _ _ _ _ => rfl)
          (by exact fun A2 o2 s2 H2 E2 f2 c2 hr4 => pe_call GC hr4 (by rfl) J.gCo J.kCo bC .nil (passes_call (takes_of rfl rfl rfl rfl) (fun _ _ _ _ h => h)) (pa_cons pe_int (pa_cons (pv 7) pa_nil)))) pa_nil)))
      (pss_one (ps_ret (pe_cmpR (op_eqD hr.units) (pv 5) (pe_lst (pa_cons (pe_op op_add_str pe_str (pe_callB (cr_repr hgd hr.units) (by rfl) M.repr (by decide +kernel) (pa_cons (pv 6) pa_nil))) (pa_cons (pe_op op_add_str pe_str (pe_callB (cr_repr hgd hr.units) (by rfl) M.repr (by decide +kernel) (pa_cons (pv 7) pa_nil))) pa_nil))) (nomark _)))))))))))), ?_⟩
    refine ⟨_, rfl, p, _, rfl, hp, by decide, by decide, fun r1 H1 r10 r11 kd1 dc1 => ?_⟩
    refine ⟨_, rfl, p, _, rfl, dc1, by decide, by decide, fun r2 H2 r20 r21 kd2 dc2 => ⟨_, _, rfl, rfl, ?_⟩⟩
    refine ⟨_, rfl, p, _, rfl, dc2, by decide, by decide, fun r3 H3 r30 r31 kd3 dc3 => ⟨_, _, rfl, rfl, _, _, _, rfl, ?_⟩⟩
    have kdA := (kd1.tr kd2).tr kd3
    obtain ⟨m1, m2⟩ := mul3 (a := r1) (b := 1 + r3) r10 (by omega) (by omega) (by omega)
    obtain ⟨m3, m4⟩ := mul3 (a := 1 + r2) (b := 1 + r3) (by omega) (by omega) (by omega) (by omega)
    obtain ⟨n1, n2, n3⟩ := num_bd (a := r1) (b := 1 + r3) r10 (by omega) (by omega) (by omega)
    obtain ⟨n4, n5, n6⟩ := num_bd (a := 1 + r2) (b := 1 + r3) (by omega) (by omega) (by omega) (by omega)
    obtain ⟨x, y, p1, p2, p3, p4, p5, p6⟩ := pair_ok (a := r1) (b := 1 + r2) (c := 1 + r3) r10 (by omega) (by omega)
    refine ⟨_, rfl, _, rfl, _, _, rfl, rfl, m1, _, _, rfl, rfl, ⟨by decide, by decide, by decide⟩, _, _, rfl, rfl, m2, ?_⟩
    refine ⟨_, rfl, _, rfl, _, _, rfl, rfl, m3, _, _, rfl, rfl, ⟨by decide, by decide, by decide⟩, _, _, rfl, rfl, m4, ?_⟩
    have bpos : 0 < (1 + r2) * (1 + r3) * (10 : Int) ^ (20 : Int).toNat := Int.mul_pos (Int.mul_pos (by omega) (by omega)) (by decide)
    refine ⟨_, _, rfl, .int _, .int _, fun z => ?_, fun _ z => ?_, fun a b e1 e2 _ _ _ _ t ht4 => ?_⟩
    · rw [isC_of n1 n2] at z
      cases z
    · rcases z with z | z
      · rw [isC_of n4 n5] at z
        cases z
      · have z' := V.int.inj z
        omega
    cases e1
    cases e2
    rw [p1, p2]
    have hq4 : upd H3 t (.tup [.int (x : Int), .int (y : Int)]) t = some (.tup [.int (x : Int), .int (y : Int)]) := upd_same
    have kdB : Kd p H (upd H3 t (.tup [.int (x : Int), .int (y : Int)])) := kdA.tr (Kd.of (K0.Same.new _ ht4))
    have dc4 : DiceAt (upd H3 t (.tup [.int (x : Int), .int (y : Int)])) p := by
      obtain ⟨u1, u2, u3, e⟩ := dc3
      exact ⟨u1, u2, u3, by rw [upd_ne (ne_of_none e ht4)]; exact e⟩
    have tb4 := tabs_kd ht hp kdB
    generalize upd H3 t (.tup [.int (x : Int), .int (y : Int)]) = H4 at *
    have xb : (x : Int).natAbs < 2 ^ 100 := wide_le (by omega) p5 n3
    have yb : (y : Int).natAbs < 2 ^ 100 := wide_le (by omega) p6 n6
    have e10 : (2 : Nat) ^ 10 = 1024 := by decide
    refine ⟨fun σ H' => σ = [some (.ref p), some (.int r1), some (.int (1 + r2)), some (.int (1 + r3)), some (.ref t), none, none, none, none] ∧ H' = H4, ?_, ?_⟩
    · refine ⟨_, rfl, t, _, _, _, rfl, rfl, SqT.of hq4, rfl, _, rfl, _, _, rfl, rfl, wide_mul (b := 10) xb (by omega) (by decide) (by decide) (by decide), ?_⟩
      refine ⟨_, rfl, t, _, _, _, rfl, rfl, SqT.of hq4, rfl, _, rfl, _, _, rfl, rfl, wide_mul (b := 10) yb (by omega) (by decide) (by decide) (by decide), ?_⟩
      exact ⟨rfl, _, rfl, if_neg_of (ne_int p3) ⟨rfl, rfl⟩⟩
    rintro σ H' ⟨rfl, rfl⟩
    refine ⟨fun σ H2 => SlC p none none σ ∧ Kd p H H2 ∧ DiceAt H2 p, ?_, ?_⟩
    · refine ⟨2, 60, rfl, by decide, fun D hD => lc_sieve (f := fun i => .int (2 + (i : Nat))) (keep := fun _ => false) (walk_range (lo := 2) (n := 58)) (small1000 (by decide)) hD (fun _ _ => True.intro) ?_ gName_mono ?_⟩
      · rintro i z H5 H6 hi s5 ⟨rfl, rfl⟩
        refine ⟨rfl, fun R q => ?_, fun H7 Q' s7 q => ⟨_, rfl, q _ K0.Same.rfl'⟩⟩
        have hq6 := s5 _ _ hq4
        refine ⟨_, rfl, t, _, _, _, rfl, rfl, SqT.of hq6, rfl, _, rfl, _, _, rfl, rfl, (by show (0 : Int) < 2 + (i : Nat); omega), ?_⟩
        refine ⟨_, rfl, t, _, _, _, rfl, rfl, SqT.of hq6, rfl, _, rfl, _, _, rfl, rfl, (by show (0 : Int) < 2 + (i : Nat); omega), _, _, rfl, rfl, rfl, _, rfl, ?_⟩
        have e0 : (x : Int) % (2 + (i : Nat)) + (y : Int) % (2 + (i : Nat)) = ((x % (2 + i) + y % (2 + i) : Nat) : Int) := rfl
        have e1 : decide (V.int ((x : Int) % (2 + (i : Nat)) + (y : Int) % (2 + (i : Nat))) = V.int 0) = false := decide_eq_false fun z => p4 (2 + i) (by omega) (by
          have z' := V.int.inj z
          rw [e0] at z'
          omega)
        show R (decide (V.int ((x : Int) % (2 + (i : Nat)) + (y : Int) % (2 + (i : Nat))) = V.int 0)) _
        rw [e1]
        exact q _ K0.Same.rfl'
      · intro H5 s5 hD5
        refine ⟨Nat.zero_le _, fun q hq => ?_⟩
        have eL : ((List.range 58).filter fun _ => false).map (fun i => V.int (2 + (i : Nat))) = [] := by
          rw [List.filter_eq_nil_iff.mpr (fun _ _ => by decide)]
          rfl
        rw [eL] at hD5
        have ndq : D ≠ q := ne_of_none hD5 hq
        refine ⟨.list [], .list [], .lst (SqL.of (by rw [upd_ne ndq]; exact hD5)) .nil, .lst (SqL.of upd_same) .nil, rfl, rfl, _, rfl, if_neg_of rfl ⟨⟨_, _, _, _, _, _, rfl⟩, kdB.tr (Kd.of (K0.Same.tr s5 (K0.Same.new _ hq))), ?_⟩⟩
        obtain ⟨u1, u2, u3, e⟩ := dc4
        exact ⟨u1, u2, u3, K0.Same.tr s5 (K0.Same.new _ hq) _ _ e⟩
    rintro σ H5 ⟨⟨a1, a2, a3, a4, a5, a8, rfl⟩, kd5, dc5⟩
    refine ⟨fun σ H' => ∃ v pd, SlC p (some v) none σ ∧ Kd p H H' ∧ DiceAt H' p ∧ isC v = false ∧ ∀ H2, Kt p H' H2 → Bad K H2 v pd, ?_, ?_⟩
    · refine ⟨_, rfl, _, rfl, by show 1 ≤ sizeLine; decide, fun t1 h1 => ⟨Nat.zero_le _, fun t2 h2 t3 h3 => ⟨_, _, rfl, rfl, ⟨by decide, by decide, by decide⟩, by show 8 ≤ sizeLine; decide, fun t4 h4 => ?_⟩⟩⟩
      have s1 := K0.Same.new (.tup [.int 1]) h1
      have s2 := K0.Same.new (.lst []) h2
      have s3 := K0.Same.new (.dK []) h3
      have s4 := K0.Same.new (.lst [V.int (-1), .non, .bl true, .str "1", .ref t1, .ref t2, .ref t3, .int ((10 : Int) ^ (60 : Int).toNat)]) h4
      have z3 := K0.Same.tr s3 s4
      have z2 := K0.Same.tr s2 z3
      have z1 := K0.Same.tr s1 z2
      obtain ⟨x1, x2, x3, e⟩ := dc5
      have n1 : t1 ≠ p := (ne_of_none e h1).symm
      have n2 : t2 ≠ p := (ne_of_none (s1 _ _ e) h2).symm
      have n3 : t3 ≠ p := (ne_of_none (K0.Same.tr s1 s2 _ _ e) h3).symm
      have n4 : t4 ≠ p := (ne_of_none (K0.Same.tr s1 (K0.Same.tr s2 s3) _ _ e) h4).symm
      refine ⟨p, t4, _, rfl, ⟨x1, x2, x3, z1 _ _ e⟩, n4, upd_same, by simp, by simp, fun v H' hv kd dc => ?_⟩
      have i1 := kd _ _ n1 (z2 _ _ upd_same)
      have i2 := kd _ _ n2 (z3 _ _ upd_same)
      have i3 := kd _ _ n3 (s4 _ _ upd_same)
      have kk := kd5.tr ((Kd.of z1).tr kd)
      have slot : SlC p (some v) none [some (.ref p), a1, a2, a3, a4, a5, some v, none, a8] := ⟨_, _, _, _, _, _, rfl⟩
      simp only [List.mem_cons, List.not_mem_nil, or_false] at hv
      rcases hv with h | h | h | h | h | h | h | h <;> subst h
      · exact ⟨_, .int (-1), slot, kk, dc, by decide +kernel, fun H2 _ => ⟨.int _, .of (.int _), by decide +kernel, by decide +kernel, by decide +kernel, by decide +kernel⟩⟩
      · exact ⟨_, .none, slot, kk, dc, rfl, fun H2 _ => ⟨.non, .of .non, by decide +kernel, by decide +kernel, by decide +kernel, by decide +kernel⟩⟩
      · exact ⟨_, .bool true, slot, kk, dc, rfl, fun H2 _ => ⟨.bl _, .of (.bl _), by decide +kernel, by decide +kernel, by decide +kernel, by decide +kernel⟩⟩
      · exact ⟨_, .str "1", slot, kk, dc, rfl, fun H2 _ => ⟨.str _, .of (.str _), by decide +kernel, by decide +kernel, by decide +kernel, by decide +kernel⟩⟩
      · exact ⟨_, .tuple [.int 1], slot, kk, dc, rfl, fun H2 kt => ⟨.tup (kt _ _ n1 i1 tup_t), .of (.tup (SqT.of (kt _ _ n1 i1 tup_t)) (.cons (.int _) .nil)), by decide +kernel, by decide +kernel, by decide +kernel, by decide +kernel⟩⟩
      · exact ⟨_, .list [], slot, kk, dc, rfl, fun H2 kt => ⟨.lst (kt _ _ n2 i2 lst_t), .of (.lst (SqL.of (kt _ _ n2 i2 lst_t)) .nil), by decide +kernel, by decide +kernel, by decide +kernel, by decide +kernel⟩⟩
      · exact ⟨_, .dict [], slot, kk, dc, rfl, fun H2 kt => ⟨.dK (kt _ _ n3 i3 dK_t), .emp (kt _ _ n3 i3 dK_t), by decide +kernel, by decide +kernel, by decide +kernel, by decide +kernel⟩⟩
      · exact ⟨_, .int ((10 : Int) ^ (60 : Int).toNat), slot, kk, dc, big_no, fun H2 _ => ⟨.int _, .of (.int _), by decide +kernel, by decide +kernel, by decide +kernel, by decide +kernel⟩⟩
    clear kd5 dc5
    rintro σ H6 ⟨v1, pd1, ⟨a1, a2, a3, a4, a5, a8, rfl⟩, kd6, dc6, c1, bd1⟩
    refine ⟨fun σ H' => ∃ v pd, SlC p (some v1) (some v) σ ∧ Kd p H H' ∧ DiceAt H' p ∧ (isC v = false ∨ v = .int 0) ∧ (∀ H2, Kt p H' H2 → Bad K H2 v1 pd1) ∧ ∀ H2, Kt p H' H2 → Bad K H2 v pd, ?_, ?_⟩
    · refine ⟨_, rfl, _, rfl, by show 1 ≤ sizeLine; decide, fun t1 h1 => ⟨Nat.zero_le _, fun t2 h2 => ⟨_, _, rfl, rfl, ⟨by decide, by decide, by decide⟩, by show 8 ≤ sizeLine; decide, fun t4 h4 => ?_⟩⟩⟩
      have s1 := K0.Same.new (.tup [.int 1]) h1
      have s2 := K0.Same.new (.lst []) h2
      have s4 := K0.Same.new (.lst [.int 0, V.int (-1), .non, .bl false, .str "1", .ref t1, .ref t2, .int ((10 : Int) ^ (60 : Int).toNat)]) h4
      have z2 := K0.Same.tr s2 s4
      have z1 := K0.Same.tr s1 z2
      obtain ⟨x1, x2, x3, e⟩ := dc6
      have n1 : t1 ≠ p := (ne_of_none e h1).symm
      have n2 : t2 ≠ p := (ne_of_none (s1 _ _ e) h2).symm
      have n4 : t4 ≠ p := (ne_of_none (K0.Same.tr s1 s2 _ _ e) h4).symm
      refine ⟨p, t4, _, rfl, ⟨x1, x2, x3, z1 _ _ e⟩, n4, upd_same, by simp, by simp, fun v H' hv kd dc => ?_⟩
      have i1 := kd _ _ n1 (z2 _ _ upd_same)
      have i2 := kd _ _ n2 (s4 _ _ upd_same)
      have kk := kd6.tr ((Kd.of z1).tr kd)
      have slot : SlC p (some v1) (some v) [some (.ref p), a1, a2, a3, a4, a5, some v1, some v, a8] := ⟨_, _, _, _, _, _, rfl⟩
      have bd2 : ∀ H2, Kt p H' H2 → Bad K H2 v1 pd1 := fun H2 k2 => bd1 H2 ((Kt.ex (Ex.of z1)).tr ((Kt.of kd).tr k2))
      simp only [List.mem_cons, List.not_mem_nil, or_false] at hv
      rcases hv with h | h | h | h | h | h | h | h <;> subst h
      · exact ⟨_, .int 0, slot, kk, dc, .inr rfl, bd2, fun H2 _ => ⟨.int _, .of (.int _), by decide +kernel, by decide +kernel, by decide +kernel, by decide +kernel⟩⟩
      · exact ⟨_, .int (-1), slot, kk, dc, .inl (by decide +kernel), bd2, fun H2 _ => ⟨.int _, .of (.int _), by decide +kernel, by decide +kernel, by decide +kernel, by decide +kernel⟩⟩
      · exact ⟨_, .none, slot, kk, dc, .inl rfl, bd2, fun H2 _ => ⟨.non, .of .non, by decide +kernel, by decide +kernel, by decide +kernel, by decide +kernel⟩⟩
      · exact ⟨_, .bool false, slot, kk, dc, .inl rfl, bd2, fun H2 _ => ⟨.bl _, .of (.bl _), by decide +kernel, by decide +kernel, by decide +kernel, by decide +kernel⟩⟩
      · exact ⟨_, .str "1", slot, kk, dc, .inl rfl, bd2, fun H2 _ => ⟨.str _, .of (.str _), by decide +kernel, by decide +kernel, by decide +kernel, by decide +kernel⟩⟩
      · exact ⟨_, .tuple [.int 1], slot, kk, dc, .inl rfl, bd2, fun H2 kt => ⟨.tup (kt _ _ n1 i1 tup_t), .of (.tup (SqT.of (kt _ _ n1 i1 tup_t)) (.cons (.int _) .nil)), by decide +kernel, by decide +kernel, by decide +kernel, by decide +kernel⟩⟩
      · exact ⟨_, .list [], slot, kk, dc, .inl rfl, bd2, fun H2 kt => ⟨.lst (kt _ _ n2 i2 lst_t), .of (.lst (SqL.of (kt _ _ n2 i2 lst_t)) .nil), by decide +kernel, by decide +kernel, by decide +kernel, by decide +kernel⟩⟩
      · exact ⟨_, .int ((10 : Int) ^ (60 : Int).toNat), slot, kk, dc, .inl big_no, bd2, fun H2 _ => ⟨.int _, .of (.int _), by decide +kernel, by decide +kernel, by decide +kernel, by decide +kernel⟩⟩
    clear kd6 dc6 bd1
    rintro σ H7 ⟨v2, pd2, ⟨a1, a2, a3, a4, a5, a8, rfl⟩, kd7, dc7, c2, bd1, bd2⟩
    have tb7 := tabs_kd ht hp kd7
    have kt7 : Kt p H H7 := Kt.of kd7
    clear kd7
    -- the first call
    refine ⟨fun σ H' => ∃ l, (∃ a1 a2 a3 a4 a8 : Option V, σ = [some (.ref p), a1, a2, a3, a4, some (.ref l), some v1, some v2, a8]) ∧ Kt p H7 H' ∧ DiceAt H' p ∧ LamX.Tabs T H' ∧ (l ≠ p ∧ ∀ o, (∀ ps, o ≠ .tbl ps) → H7 l ≠ some o) ∧ H' l = some (.lst [.str (("number " : Str) ++ pd1.shown)]), ?_, ?_⟩
    · refine ⟨tb7, fun H8 e8 tb8 => ?_⟩
      have b1 := bd1 H8 (Kt.ex e8)
      have b2 := bd2 H8 (Kt.ex e8)
      refine ⟨_, rfl, _, rfl, v1, v2, rfl, b1.da, b2.da, fun _ d hd => ?_, fun z => ?_, fun a b e1 _ a0 a1 _ _ => ?_⟩
      · refine .inl ⟨d, v1, pd1, rfl, rfl, upd_same, b1.dq.ex (Ex.of (K0.Same.new _ hd)), b1.sh, b1.dep, b1.len, by show 1 ≤ sizeLine; decide, fun l hl => ⟨l, ⟨_, _, _, _, _, rfl⟩, ?_, ?_, ?_, ?_, upd_same⟩⟩
        · exact Kt.ex (Ex.tr e8 (Ex.of (K0.Same.tr (K0.Same.new _ hd) (K0.Same.new _ hl))))
        · exact dc7.ex (Ex.tr e8 (Ex.of (K0.Same.tr (K0.Same.new _ hd) (K0.Same.new _ hl))))
        · exact tabs_same tb8 (K0.Same.tr (K0.Same.new _ hd) (K0.Same.new _ hl))
        · obtain ⟨x1, x2, x3, e⟩ := dc7.ex (Ex.tr e8 (Ex.of (K0.Same.new (.xd [("value", v1)]) hd)))
          refine ⟨(ne_of_none e hl).symm, fun o to eo => ?_⟩
          rw [Ex.tr e8 (Ex.of (K0.Same.new (.xd [("value", v1)]) hd)) _ _ eo to] at hl
          cases hl
      · rw [c1] at z
        cases z
      · subst e1
        rw [isC_of a0 a1] at c1
        cases c1
    rintro σ H9 ⟨l, ⟨b1, b2, b3, b4, b8, rfl⟩, kt9, dc9, tb9, ⟨nl, nl7⟩, hl9⟩
    -- the second one
    refine ⟨fun σ H' => (∃ a1 a2 a3 a4 a8 : Option V, σ = [some (.ref p), a1, a2, a3, a4, some (.ref l), some v1, some v2, a8]) ∧ Kt p H7 H' ∧ DiceAt H' p ∧ LamX.Tabs T H' ∧ H' l = some (.lst [.str (("number " : Str) ++ pd1.shown), .str (("number " : Str) ++ pd2.shown)]), ?_, ?_⟩
    · refine ⟨_, rfl, .inl ⟨rfl, _, SqL.of hl9⟩, tb9, fun H8 e8 tb8 => ?_⟩
      have y2 := bd2 H8 (kt9.tr (Kt.ex e8))
      refine ⟨_, rfl, .int 0, v2, rfl, .int 0, y2.da, fun z => ?_, fun _ _ d hd => ?_, fun a b _ e2 _ _ b0 b9 => ?_⟩
      · rw [isC_of (Int.le_refl 0) (by unfold big; decide)] at z
        cases z
      · refine .inl ⟨d, v2, pd2, rfl, rfl, upd_same, y2.dq.ex (Ex.of (K0.Same.new _ hd)), y2.sh, y2.dep, y2.len, ?_⟩
        have e9 : Ex H9 (upd H8 d (.xd [("value", v2)])) := Ex.tr e8 (Ex.of (K0.Same.new _ hd))
        have hl8 := e9 _ _ hl9 lst_t
        refine ⟨l, [.str (("number " : Str) ++ pd1.shown)], _, rfl, rfl, hl8, small1000 (by show 1 ≤ 1000; decide), ⟨_, _, _, _, _, rfl⟩, fun b o nb eb to => ?_, ?_, ?_, upd_same⟩
        · rw [upd_ne (fun z => nl7 o to (by rw [← z]; exact eb))]
          exact e9 _ _ (kt9 _ _ nb eb to) to
        · obtain ⟨x1, x2, x3, e⟩ := dc9.ex e9
          exact ⟨x1, x2, x3, by rw [upd_ne nl.symm]; exact e⟩
        · exact tabs_app (tabs_same tb8 (K0.Same.new _ hd)) hl8
      · subst e2
        rcases c2 with c2 | c2
        · rw [isC_of (Int.le_of_lt b0) b9] at c2
          cases c2
        · have := V.int.inj c2
          omega
    rintro σ H10 ⟨⟨d1, d2, d3, d4, d8, rfl⟩, kt10, dc10, tb10, hl10⟩
    have y1 := bd1 H10 kt10
    have y2 := bd2 H10 kt10
    have z7 : ("number " : Str).length = 7 := by decide
    have yl1 := y1.len
    have yl2 := y2.len
    have le1 : (("number " : Str)).length + pd1.shown.length ≤ sizeLine := Nat.le_of_lt (small1000 (by omega))
    have le2 : (("number " : Str)).length + pd2.shown.length ≤ sizeLine := Nat.le_of_lt (small1000 (by omega))
    refine ⟨_, rfl, _, rfl, v1, pd1, rfl, y1.dq, y1.sh, y1.dep, by have := y1.len; omega, _, _, rfl, rfl, le1, ?_⟩
    refine ⟨_, rfl, v2, pd2, rfl, y2.dq, y2.sh, y2.dep, by have := y2.len; omega, _, _, rfl, rfl, le2, by show 2 ≤ sizeLine; decide, fun q hq => ?_⟩
    have nlq : l ≠ q := ne_of_none hl10 hq
    have sq := K0.Same.new (.lst [.str (("number " : Str) ++ pd1.shown), .str (("number " : Str) ++ pd2.shown)]) hq
    have shp : SeqAt.shaped (.list [.str (("number " : Str) ++ pd1.shown), .str (("number " : Str) ++ pd2.shown)]) = true := shp2 y1.shp y2.shp
    refine ⟨.list [.str (("number " : Str) ++ pd1.shown), .str (("number " : Str) ++ pd2.shown)], .list [.str (("number " : Str) ++ pd1.shown), .str (("number " : Str) ++ pd2.shown)],
      .lst (SqL.of (sq _ _ hl10)) (.cons (.str _) (.cons (.str _) .nil)), .lst (SqL.of upd_same) (.cons (.str _) (.cons (.str _) .nil)), shp, shp, ?_⟩
    rw [eqv_strs2]
    refine k _ (kt7.tr (kt10.tr (Kt.ex (Ex.of sq)))) ?_ (tabs_same tb10 sq)
    obtain ⟨x1, x2, x3, e⟩ := dc10
    exact ⟨x1, x2, x3, sq _ _ e⟩
end
end K0

/-! ## A16 -/
set_option maxRecDepth 100000
set_option maxHeartbeats 4000000
namespace K0
open PySem L2
/-! ### dicts of texts to texts, as lists of pairs -/
abbrev TT2 : Type := List (Str × Str)
def mkd (ps : TT2) : List (Key × V) := ps.map fun p => (Sum.inr p.1, V.str p.2)
def put2 (ps : TT2) (k v : Str) : TT2 := if k ∈ ps.map (·.1) then ps.map (fun p => if p.1 = k then (p.1, v) else p) else ps ++ [(k, v)]
def mer2 (ps : TT2) (more : TT2) : TT2 := more.foldl (fun acc p => put2 acc p.1 p.2) ps
theorem any_mkd (ps : TT2) (k : Str) : ((mkd ps).any fun kv => decide (kv.1 = Sum.inr k)) = decide (k ∈ ps.map (·.1)) := by
  induction ps with
  | nil => rfl
  | cons p r ih =>
    show (decide ((Sum.inr p.1 : Key) = Sum.inr k) || (mkd r).any _) = _
    rw [ih, List.map_cons]
    by_cases h : p.1 = k
    · rw [decide_eq_true (show (Sum.inr p.1 : Key) = Sum.inr k by rw [h]), decide_eq_true (show k ∈ p.1 :: r.map (·.1) by rw [h]; exact List.mem_cons_self)]
      rfl
    · rw [decide_eq_false (show ¬ (Sum.inr p.1 : Key) = Sum.inr k from fun z => h (Sum.inr.inj z)), Bool.false_or]
      refine decide_eq_decide.mpr ⟨List.mem_cons_of_mem _, fun z => ?_⟩
      rcases List.mem_cons.mp z with e | e
      · exact absurd e.symm h
      · exact e
theorem putK_mkd (ps : TT2) (k v : Str) : putK (mkd ps) (Sum.inr k) (.str v) = mkd (put2 ps k v) := by
  unfold putK put2
  rw [any_mkd]
  by_cases h : k ∈ ps.map (·.1)
  · rw [decide_eq_true h, if_pos rfl, if_pos h]
    unfold mkd
    rw [List.map_map, List.map_map]
    refine List.map_congr_left fun p _ => ?_
    show (if (Sum.inr p.1 : Key) = Sum.inr k then ((Sum.inr p.1 : Key), V.str v) else (Sum.inr p.1, V.str p.2)) = _
    by_cases e : p.1 = k
    · rw [if_pos (by rw [e])]
      show _ = ((Sum.inr (if p.1 = k then (p.1, v) else p).1 : Key), V.str (if p.1 = k then (p.1, v) else p).2)
      rw [if_pos e]
    · rw [if_neg (fun z => e (Sum.inr.inj z))]
      show _ = ((Sum.inr (if p.1 = k then (p.1, v) else p).1 : Key), V.str (if p.1 = k then (p.1, v) else p).2)
      rw [if_neg e]
  · rw [decide_eq_false h, if_neg Bool.false_ne_true, if_neg h]
    unfold mkd
    rw [List.map_append]
    rfl
theorem merge_mkd : ∀ (more ps : TT2), mergeK (mkd ps) (mkd more) = mkd (mer2 ps more)
  | [], _ => rfl
  | p :: r, ps => by
    show mergeK (putK (mkd ps) (Sum.inr p.1) (V.str p.2)) (mkd r) = _
    rw [putK_mkd, merge_mkd r]
    rfl
theorem put2_keys (ps : TT2) (k v : Str) : (put2 ps k v).map (·.1) = if k ∈ ps.map (·.1) then ps.map (·.1) else ps.map (·.1) ++ [k] := by
  unfold put2
  by_cases h : k ∈ ps.map (·.1)
  · rw [if_pos h, if_pos h, List.map_map]
    refine List.map_congr_left fun p _ => ?_
    show (if p.1 = k then (p.1, v) else p).1 = p.1
    split <;> rfl
  · rw [if_neg h, if_neg h, List.map_append]
    rfl
theorem put2_vals (ps : TT2) (k v : Str) {q : Str × Str} (h : q ∈ put2 ps k v) : q.2 = v ∨ q ∈ ps := by
  unfold put2 at h
  split at h
  · obtain ⟨p, hp, e⟩ := List.mem_map.mp h
    split at e
    · subst e; exact .inl rfl
    · subst e; exact .inr hp
  · rcases List.mem_append.mp h with z | z
    · exact .inr z
    · rw [List.mem_singleton.mp z]; exact .inl rfl
theorem mer2_keys : ∀ (more ps : TT2), (ps.map (·.1)).Nodup → ((mer2 ps more).map (·.1)).Nodup ∧ (∀ k, k ∈ (mer2 ps more).map (·.1) ↔ k ∈ ps.map (·.1) ∨ k ∈ more.map (·.1)) ∧ (∀ q ∈ mer2 ps more, q ∈ ps ∨ q.2 ∈ more.map (·.2)) ∧ (mer2 ps more).length ≤ ps.length + more.length
  | [], ps, h => ⟨h, fun k => ⟨.inl, fun z => z.elim id fun y => by simp at y⟩, fun q hq => .inl hq, Nat.le_refl _⟩
  | p :: r, ps, h => by
    have hk := put2_keys ps p.1 p.2
    have hnd : ((put2 ps p.1 p.2).map (·.1)).Nodup := by
      rw [hk]
      split
      · exact h
      · rename_i hn
        rw [List.nodup_append]
        exact ⟨h, by simp, fun a ha b hb e => hn (by rw [List.mem_singleton.mp hb] at e; rw [← e]; exact ha)⟩
    obtain ⟨i1, i2, i3, i4⟩ := mer2_keys r (put2 ps p.1 p.2) hnd
    refine ⟨i1, fun k => ?_, fun q hq => ?_, ?_⟩
    · show k ∈ (mer2 (put2 ps p.1 p.2) r).map (·.1) ↔ _
      rw [i2, hk, List.map_cons, List.mem_cons]
      split
      · rename_i hm
        constructor
        · rintro (z | z)
          · exact .inl z
          · exact .inr (.inr z)
        · rintro (z | z | z)
          · exact .inl z
          · rw [z]; exact .inl hm
          · exact .inr z
      · rw [List.mem_append, List.mem_singleton]
        constructor
        · rintro ((z | z) | z)
          · exact .inl z
          · exact .inr (.inl z)
          · exact .inr (.inr z)
        · rintro (z | z | z)
          · exact .inl (.inl z)
          · exact .inl (.inr z)
          · exact .inr z
    · rcases i3 q hq with z | z
      · rcases put2_vals ps p.1 p.2 z with e | e
        · exact .inr (by rw [List.map_cons, e]; exact List.mem_cons_self)
        · exact .inl e
      · exact .inr (by rw [List.map_cons]; exact List.mem_cons_of_mem _ z)
    · have l1 : (put2 ps p.1 p.2).length ≤ ps.length + 1 := by
        unfold put2
        split
        · rw [List.length_map]; omega
        · rw [List.length_append]; exact Nat.le_refl _
      show (mer2 (put2 ps p.1 p.2) r).length ≤ _
      rw [List.length_cons]
      omega
theorem mer2_new : ∀ (more ps : TT2), ((ps ++ more).map (·.1)).Nodup → mer2 ps more = ps ++ more
  | [], ps, _ => (List.append_nil ps).symm
  | p :: r, ps, h => by
    have hn : p.1 ∉ ps.map (·.1) := fun z => by
      rw [List.map_append, List.map_cons, List.nodup_append] at h
      exact h.2.2 _ z _ List.mem_cons_self rfl
    show mer2 (put2 ps p.1 p.2) r = _
    have e : put2 ps p.1 p.2 = ps ++ [p] := by unfold put2; rw [if_neg hn]
    rw [e, mer2_new r (ps ++ [p]) (by rw [List.append_assoc]; exact h), List.append_assoc]
    rfl
theorem keys_len {ps : TT2} {zs : List Str} (h : (ps.map (·.1)).Nodup) (m : ∀ k, k ∈ ps.map (·.1) ↔ k ∈ zs) : ps.length = (ded zs).length := by
  have z := ded_len (xs := zs) (L := ps.map (·.1)) h (fun k => by rw [m, decide_eq_true_eq])
  rw [List.length_map] at z
  exact z
theorem mkd_keys (ps : TT2) : (mkd ps).map (fun p => strV p.2) = ps.map (·.2) := by
  unfold mkd
  rw [List.map_map]
  rfl
theorem mkd_len (ps : TT2) : (mkd ps).length = ps.length := List.length_map _
theorem val_some {ps : TT2} {k : Str} (h : k ∈ ps.map (·.1)) : (valV (mkd ps) (Sum.inr k)).isSome = true := by
  rw [← valV_any, any_mkd]
  exact decide_eq_true h
/-- a dict with just the names as keys -/
theorem from_yes {ps : TT2} {zs : List Str} (h : (ps.map (·.1)).Nodup) (m : ∀ k, k ∈ ps.map (·.1) ↔ k ∈ zs) : fromP zs (mkd ps) = true := by
  unfold fromP
  rw [mkd_len, decide_eq_true (keys_len h m), Bool.true_and]
  unfold tkeys
  exact List.all_eq_true.mpr fun k hk => val_some ((m k).mpr hk)
theorem from_no {ps : List (Key × V)} {zs : List Str} (h : ps.length ≠ (ded zs).length) : fromP zs ps = false := by
  unfold fromP
  rw [decide_eq_false h, Bool.false_and]
theorem nmP_no {ps : List (Key × V)} {zs : List Str} (h : ps.length ≠ (ded zs).length) : nmP zs ps = false := by
  unfold nmP
  rw [from_no h, Bool.false_and]
theorem nmP_yes {ps : TT2} {zs : List Str} (h : (ps.map (·.1)).Nodup) (m : ∀ k, k ∈ ps.map (·.1) ↔ k ∈ zs) (hv : ∀ v ∈ ps.map (·.2), nameS v = true) : nmP zs (mkd ps) = decide (ps.map (·.2)).Nodup := by
  unfold nmP
  rw [from_yes h m, mkd_keys, Bool.true_and, List.all_eq_true.mpr hv, Bool.true_and]
theorem mkd_dk {H : Hp} {d : Addr} {ps : TT2} (h : H d = some (.dK (mkd ps))) (hl : ps.length ≤ 1000) : Dk H (.ref d) := fun a kvs e1 e2 => by
  cases e1
  rw [h] at e2
  cases e2
  refine ⟨by rw [mkd_len]; exact hl, fun p hp => ?_⟩
  obtain ⟨q, hq, rfl⟩ := List.mem_map.mp hp
  exact ⟨q.1, rfl⟩
theorem mkd_dv {H : Hp} {d : Addr} {ps : TT2} (h : H d = some (.dK (mkd ps))) (hl : ∀ v ∈ ps.map (·.2), v.length ≤ 1000) : Dv H (.ref d) := fun a kvs e1 e2 p hp => by
  cases e1
  rw [h] at e2
  cases e2
  obtain ⟨q, hq, rfl⟩ := List.mem_map.mp hp
  exact ⟨q.2, rfl, hl _ (List.mem_map.mpr ⟨q, hq, rfl⟩)⟩
end K0

/-! ## A17 -/
set_option maxRecDepth 100000
set_option maxHeartbeats 4000000
namespace K0
open PySem L2
/-- all but the lists stay -/
def Kl (H H' : Hp) : Prop := ∀ b o, (∀ xs, o ≠ .lst xs) → H b = some o → H' b = some o
theorem Kl.of {p : Addr} {H H' : Hp} (d : DiceAt H p) (k : Kd p H H') : Kl H H' := fun b o n e => k b o (fun z => by
  obtain ⟨x, y, u, h⟩ := d
  rw [z, h] at e
  cases e
  exact n _ rfl) e
theorem Kl.put {H : Hp} {D : Addr} {xs ys : List V} (h : H D = some (.lst xs)) : Kl H (upd H D (.lst ys)) := fun b o n e => by
  rw [upd_ne (fun z => by rw [z, h] at e; cases e; exact n _ rfl)]
  exact e
theorem lc_acc {J : It} {n : Nat} {G : Hp → Prop} {Y : Nat → Hp → V → Hp → Prop} (w : Walk J n G Y) {g : TG} {te : TE} {vs : List Nat} {σ : St} {H1 : Hp} {D p : Addr} {Qd : Hp → Prop} (Gd : Nat → Hp → V → Prop) (stab : ∀ i H H' y, Kl H H' → Gd i H y → Gd i H' y)
    (hn : n < sizeLine) (hD : H1 D = none) (hp : DiceAt H1 p) (hG : ∀ H, Kd p H1 H → DiceAt H p → G H)
    (hs : ∀ i x H H', i < n → Kd p H1 H → DiceAt H p → Y i H x H' → g x (wipe σ vs) H' fun σ2 H2 => wipe σ2 vs = wipe σ vs ∧ ∀ (Q : V → Hp → Prop), (∀ y H4, Gd i H4 y → Kd p H H4 → DiceAt H4 p → Q y H4) → te σ2 H2 Q)
    (gm : ∀ x σ H (P R : St → Hp → Prop), (∀ σ2 H2, P σ2 H2 → R σ2 H2) → g x σ H P → g x σ H R)
    (hd : ∀ H acc, Kd p H1 H → DiceAt H p → H D = some (.lst acc) → acc.length = n → (∀ j y, acc[j]? = some y → Gd j H y) → Qd H) :
    ∃ W : Nat → Nat → Hp → Prop, (∃ m, W 0 m (upd H1 D (.lst []))) ∧ ∀ i m H, W i m H →
      (J.stop i H ∧ Qd H) ∨ (J.go i H ∧ ∃ Nx : Hp → Prop, (∀ H', Nx H' → ∃ m', m' < m ∧ W (i + 1) m' H') ∧ ∀ x H', J.yld i H x H' → g x (wipe σ vs) H' fun σ2 H2 => wipe σ2 vs = wipe σ vs ∧ tYes σ2 H2 fun b H3 =>
        if b = true then te σ2 H3 fun y H4 => ∃ acc, H4 D = some (.lst acc) ∧ acc.length < sizeLine ∧ Nx (upd H4 D (.lst (acc ++ [y]))) else Nx H3) := by
  obtain ⟨x0, y0, z0, e0⟩ := hp
  have hDp : p ≠ D := ne_of_none e0 hD
  refine lc_it w (fun i H => Kd p H1 H ∧ DiceAt H p ∧ ∃ acc, H D = some (.lst acc) ∧ acc.length = i ∧ ∀ j y, acc[j]? = some y → Gd j H y)
    ⟨Kd.of (K0.Same.new _ hD), ⟨x0, y0, z0, by rw [upd_ne hDp]; exact e0⟩, [], upd_same, rfl, fun j y h => by cases h⟩ (fun i H _ q => hG H q.1 q.2.1) (fun i x H H' hi q y => ?_) (fun H q => ?_)
  · obtain ⟨q1, q2, acc, q3, q4, q5⟩ := q
    refine gm _ _ _ _ _ (fun σ2 H2 r => ⟨r.1, ?_⟩) (hs i x H H' hi q1 q2 y)
    dsimp only [tYes]
    rw [if_pos rfl]
    refine r.2 _ fun y H4 gy s4 d4 => ⟨acc, s4 _ _ hDp.symm q3, by omega, ?_, ?_, acc ++ [y], upd_same, by rw [List.length_append, q4]; rfl, ?_⟩
    · exact fun b o nb e => by rw [upd_ne (ne_of_none e hD)]; exact s4 _ _ nb (q1 _ _ nb e)
    · obtain ⟨a1, a2, a3, a4⟩ := d4
      exact ⟨a1, a2, a3, by rw [upd_ne hDp]; exact a4⟩
    · have kput := Kl.put (ys := acc ++ [y]) (s4 _ _ hDp.symm q3)
      intro j u hu
      by_cases hj : j < acc.length
      · rw [List.getElem?_append_left hj] at hu
        exact stab _ _ _ _ kput (stab _ _ _ _ (Kl.of q2 s4) (q5 j u hu))
      · have hj2 : j = acc.length := by
          have : j < (acc ++ [y]).length := (List.getElem?_eq_some_iff.mp hu).1
          rw [List.length_append] at this
          simp only [List.length_cons, List.length_nil] at this
          omega
        rw [hj2, List.getElem?_concat_length] at hu
        cases hu
        rw [hj2, q4]
        exact stab _ _ _ _ kput gy
  · obtain ⟨q1, q2, acc, q3, q4, q5⟩ := q
    exact hd H acc q1 q2 q3 q4 q5
/-- a pair of the j-th text and another one -/
def GdP (Pv : Str → Prop) (zs : List Str) : Nat → Hp → V → Prop := fun j H y => ∃ t z v, y = .ref t ∧ zs[j]? = some z ∧ Pv v ∧ H t = some (.tup [.str z, .str v])
theorem gdP_stab {Pv : Str → Prop} {zs : List Str} : ∀ i H H' y, Kl H H' → GdP Pv zs i H y → GdP Pv zs i H' y := fun i H H' y k ⟨t, z, v, e1, e2, e3, e4⟩ => ⟨t, z, v, e1, e2, e3, k _ _ (fun xs q => by cases q) e4⟩
abbrev PT2 (H : Hp) : Addr → (Key × V) → Prop := fun t q => H t = some (.tup [kV q.1, q.2])
theorem pairs_of {Pv : Str → Prop} {H : Hp} : ∀ (acc : List V) (zs : List Str), acc.length = zs.length → (∀ j y, acc[j]? = some y → GdP Pv zs j H y) → ∃ (ts : List Addr) (ps : TT2), acc = ts.map V.ref ∧ ps.map (·.1) = zs ∧ (∀ v ∈ ps.map (·.2), Pv v) ∧ Paired (PT2 H) ts (mkd ps)
  | [], [], _, _ => ⟨[], [], rfl, rfl, (fun v h => by cases h), Paired.nil⟩
  | [], _ :: _, h, _ => by cases h
  | _ :: _, [], h, _ => by cases h
  | y :: acc, z :: zs, h, g => by
    obtain ⟨ts, ps, e1, e2, e3, e4⟩ := pairs_of acc zs (Nat.succ.inj h) fun j u hu => by
      obtain ⟨t, z', v, a1, a2, a3, a4⟩ := g (j + 1) u hu
      exact ⟨t, z', v, a1, a2, a3, a4⟩
    obtain ⟨t, z', v, a1, a2, a3, a4⟩ := g 0 y rfl
    cases a2
    subst a1
    refine ⟨t :: ts, (z, v) :: ps, by rw [e1]; rfl, by rw [List.map_cons, e2], fun u hu => ?_, .cons a4 e4⟩
    rw [List.map_cons] at hu
    rcases List.mem_cons.mp hu with e | e
    · rw [e]; exact a3
    · exact e3 u e
theorem paired_imp {α β : Type} {F G : α → β → Prop} (h : ∀ a b, F a b → G a b) : ∀ {xs : List α} {ys : List β}, Paired F xs ys → Paired G xs ys
  | _, _, .nil => .nil
  | _, _, .cons r t => .cons (h _ _ r) (paired_imp h t)
theorem paired_snoc {α β : Type} {F : α → β → Prop} {a : α} {b : β} (h : F a b) : ∀ {xs : List α} {ys : List β}, Paired F xs ys → Paired F (xs ++ [a]) (ys ++ [b])
  | _, _, .nil => .cons h .nil
  | _, _, .cons r t => .cons r (paired_snoc h t)
theorem paired_tail {α β : Type} {F : α → β → Prop} : ∀ {xs : List α} {ys : List β}, Paired F xs ys → Paired F xs.tail ys.tail
  | _, _, .nil => .nil
  | _, _, .cons _ t => t
theorem pt2_sq {K : PySem.W.Frag} {H H' : Hp} (s : Same H H') {ts : List Addr} {kvs : List (Key × V)} (h : Paired (PT2 H) ts kvs) : Paired (fun p kv => SqT K H' p [kV kv.1, kv.2]) ts kvs := paired_imp (fun _ _ e => SqT.of (s _ _ e)) h
theorem mkd_app (ps qs : TT2) : mkd ps ++ mkd qs = mkd (ps ++ qs) := (List.map_append ..).symm
theorem mkd_tail (ps : TT2) : (mkd ps).tail = mkd ps.tail := by
  cases ps with
  | nil => rfl
  | cons p r => rfl
theorem cut_tail (xs : List V) (h : xs.length ≤ 1000) : cutV xs (some 1) none = xs.tail := by
  unfold cutV
  cases xs with
  | nil => rfl
  | cons x r =>
    have e1 : HT.sIx (x :: r).length 0 (some 1) = 1 := by
      simp [HT.sIx]
      try omega
    have e2 : HT.sIx (x :: r).length (x :: r).length none = (x :: r).length := rfl
    rw [e1, e2]
    show (r.take ((x :: r).length - 1)) = r
    rw [List.length_cons, Nat.add_sub_cancel, List.take_length]
/-- is_naming of names -/
theorem nm_call {CI t : Addr} {zs : List Str} {v : V} {H : Hp} {Q : VK} {E : XK} {b : Bool} (ht : H t = some (.tup (zs.map V.str))) (hz : ∀ z ∈ zs, nameS z = true) (hl : zs.length ≤ 1000) (d : Da H v) (dk : Dk H v) (dv : Dv H v) (hb : onDct H (nmP zs) v = b)
    (k : ∀ H', Same H H' → Q (.bl b) H') : spNaming CI [.ref t, v] H Q E := by
  have ea : onTup H (fun xs => xs.all nameV) (.ref t) = true := by
    simp only [onTup, ht]
    rw [List.all_map]
    exact List.all_eq_true.mpr hz
  have ek : ksOf H (.ref t) = zs := by
    simp only [ksOf, ht]
    rw [List.map_map]
    exact List.map_id zs
  refine ⟨_, _, rfl, .tup ht, fun a xs e1 e2 => ?_, d, dk, dv, fun _ H' s => ?_, fun z => ?_⟩
  · cases e1
    rw [ht] at e2
    cases e2
    refine ⟨by rw [List.length_map]; exact hl, fun x hx => ?_⟩
    obtain ⟨z, hz1, rfl⟩ := List.mem_map.mp hx
    refine ⟨.str _, ?_⟩
    have h8 := hz z hz1
    have h9 : ((decide (1 ≤ z.length) && decide (z.length ≤ 8)) && z.cps.toList.all lowC) = true := h8
    rw [Bool.and_eq_true, Bool.and_eq_true] at h9
    have := of_decide_eq_true h9.1.2
    show z.length ≤ 1000
    omega
  · rw [ek, hb]
    exact k H' s
  · rw [ea] at z
    cases z
end K0

/-! ## A18 -/
set_option maxRecDepth 100000
set_option maxHeartbeats 4000000
namespace K0
open PySem L2
abbrev sNamR : Stmt := top 55
abbrev nNa : List Str := ["_law_dice_here", "_law_names", "_law_some", "_law_due", "_law_more", "_law_less", "_law_odd", "_law_bad", "_law_turn", "_law_name", "_law_value"]
theorem scNamR : FnScope nNa ["_law_dice_here"] (defScope sNamR) := ⟨rfl, rfl, rfl, by decide +kernel, rfl, by decide +kernel, by decide +kernel⟩
structure TNR (K : PySem.W.Frag) (mg : Str → Option Value) (fNm fMx fMe : Addr) : Prop where
  gNm : mg "is_naming" = some (.ref fNm)
  kNm : PySem.W.keepIn K (.ref fNm) = true
  gMx : mg "_law_mixed" = some (.ref fMx)
  kMx : PySem.W.keepIn K (.ref fMx) = true
  gMe : mg "_law_met" = some (.ref fMe)
  kMe : PySem.W.keepIn K (.ref fMe) = true
  tup : mg "tuple" = none
  dct : mg "dict" = none
  srt : mg "sorted" = none
  set : mg "set" = none
  repr : mg "repr" = none
/-! ### what is known on the way -/
theorem DiceAt.same {H H' : Hp} {p : Addr} (d : DiceAt H p) (s : Same H H') : DiceAt H' p := by
  obtain ⟨x, y, z, e⟩ := d
  exact ⟨x, y, z, s _ _ e⟩
theorem DiceAt.ne {H : Hp} {p q : Addr} (d : DiceAt H p) (h : H q = none) : q ≠ p := by
  obtain ⟨x, y, z, e⟩ := d
  exact (ne_of_none e h).symm
theorem texts_in {Pz : Str → Prop} : ∀ (acc : List V), (∀ y ∈ acc, ∃ z : Str, y = .str z ∧ Pz z) → ∃ zs : List Str, acc = zs.map V.str ∧ ∀ z ∈ zs, Pz z
  | [], _ => ⟨[], rfl, fun z h => by cases h⟩
  | y :: r, h => by
    obtain ⟨z, rfl, hz⟩ := h y List.mem_cons_self
    obtain ⟨zs, e, g⟩ := texts_in r fun u hu => h u (List.mem_cons_of_mem _ hu)
    refine ⟨z :: zs, by rw [e]; rfl, fun u hu => ?_⟩
    rcases List.mem_cons.mp hu with q | q
    · rw [q]; exact hz
    · exact g u q
theorem perm_strs {ys : List V} {ns : List Str} (h : ys.Perm (ns.map V.str)) : ∃ zs : List Str, ys = zs.map V.str ∧ zs.Perm ns := by
  refine ⟨ys.map strV, ?_, ?_⟩
  · rw [List.map_map]
    have e : ∀ y ∈ ys, (V.str ∘ strV) y = y := fun y hy => by
      obtain ⟨z, _, rfl⟩ := List.mem_map.mp (h.mem_iff.mp hy)
      rfl
    have e2 : ys.map (V.str ∘ strV) = ys.map id := List.map_congr_left e
    rw [e2, List.map_id]
  · have z := h.map strV
    rw [List.map_map] at z
    have e3 : ns.map (strV ∘ V.str) = ns := List.map_id ns
    rw [e3] at z
    exact z
abbrev oth : TT2 := [("other", "v")]
abbrev xyp : TT2 := [("x", "y")]
def nset : List Str := ["a", "b", "c", "row"]
def vset : List Str := ["a", "b", "zz", "q", "w"]
theorem nset_ok : ∀ z ∈ nset, nameS z = true := by decide
theorem vset_ok : ∀ z ∈ vset, nameS z = true := by decide
theorem vset_len : ∀ z ∈ vset, z.length ≤ 1000 := by decide
structure NS (p t d : Addr) (zs : List Str) (ps : TT2) (H : Hp) : Prop where
  dc : DiceAt H p
  ht : H t = some (.tup (zs.map V.str))
  hl : zs.length ≤ 4
  hz : ∀ z ∈ zs, z ∈ nset
  hd : H d = some (.dK (mkd ps))
  nd : (ps.map (·.1)).Nodup
  ky : ∀ k, k ∈ ps.map (·.1) ↔ k ∈ zs
  vs : ∀ v ∈ ps.map (·.2), v ∈ vset
  pl : ps.length ≤ 4
theorem NS.same {p t d : Addr} {zs : List Str} {ps : TT2} {H H' : Hp} (n : NS p t d zs ps H) (s : Same H H') : NS p t d zs ps H' := ⟨n.dc.same s, s _ _ n.ht, n.hl, n.hz, s _ _ n.hd, n.nd, n.ky, n.vs, n.pl⟩
theorem NS.nm {p t d : Addr} {zs : List Str} {ps : TT2} {H : Hp} (n : NS p t d zs ps H) : ∀ z ∈ zs, nameS z = true := fun z hz => nset_ok z (n.hz z hz)
abbrev xl : List Str := ["x"]
theorem nset_ex : ∀ z ∈ nset, (z ++ ("!" : Str)).length ≤ 20 := by decide
theorem nset_len : ∀ z ∈ nset, z.length ≤ 3 := by decide
theorem nset_x : ("x" : Str) ∉ nset := by decide
/-- the odd values -/
structure OS (zs : List Str) (H : Hp) (l9 l3 t3 t4 t5 d8 : Addr) (qs : TT2) : Prop where
  h9 : H l9 = some (.lst [.non, .int 0, .str "a", .ref l3, .ref t5, .ref d8])
  h3 : H l3 = some (.lst [.ref t3])
  h5 : H t5 = some (.tup [.ref t4])
  h8 : H d8 = some (.dK (mkd qs))
  nd : (qs.map (·.1)).Nodup
  ky : ∀ k, k ∈ qs.map (·.1) ↔ k ∈ zs ++ xl
  ql : qs.length ≤ 5
  vl : ∀ v ∈ qs.map (·.2), v.length ≤ 1000
theorem OS.same {zs : List Str} {H H' : Hp} {l9 l3 t3 t4 t5 d8 : Addr} {qs : TT2} (o : OS zs H l9 l3 t3 t4 t5 d8 qs) (s : Same H H') : OS zs H' l9 l3 t3 t4 t5 d8 qs := ⟨s _ _ o.h9, s _ _ o.h3, s _ _ o.h5, s _ _ o.h8, o.nd, o.ky, o.ql, o.vl⟩
theorem ded_x {zs : List Str} (h : ("x" : Str) ∉ zs) : (ded (zs ++ xl)).length = (ded zs).length + 1 := by
  have h2 : (ded (zs ++ xl)).Perm (("x" : Str) :: ded zs) := by
    refine (List.perm_ext_iff_of_nodup (ded_nodup _) (List.nodup_cons.mpr ⟨by rw [ded_mem]; exact h, ded_nodup _⟩)).mpr fun k => ?_
    rw [ded_mem, List.mem_append]
    constructor
    · rintro (z | z)
      · exact List.mem_cons_of_mem _ ((ded_mem zs k).mpr z)
      · rw [List.mem_singleton.mp z]
        exact List.mem_cons_self
    · intro z
      rcases List.mem_cons.mp z with z | z
      · exact .inr (List.mem_singleton.mpr z)
      · exact .inl ((ded_mem zs k).mp z)
  rw [h2.length_eq]
  rfl
theorem OS.no {zs : List Str} {H : Hp} {l9 l3 t3 t4 t5 d8 : Addr} {qs : TT2} (o : OS zs H l9 l3 t3 t4 t5 d8 qs) (hx : ("x" : Str) ∉ zs) {v : V} (hv : v ∈ [V.non, .int 0, .str "a", .ref l3, .ref t5, .ref d8]) : Da H v ∧ Dk H v ∧ Dv H v ∧ onDct H (nmP zs) v = false := by
  have nod : ∀ {a : Addr} {u : HO}, H a = some u → (∀ kvs, u ≠ .dK kvs) → Dk H (.ref a) ∧ Dv H (.ref a) := fun {a u} e n => by
    constructor
    · intro b kvs e1 e2
      cases e1
      rw [e] at e2
      cases e2
      exact absurd rfl (n _)
    · intro b kvs e1 e2
      cases e1
      rw [e] at e2
      cases e2
      exact absurd rfl (n _)
  simp only [List.mem_cons, List.not_mem_nil, or_false] at hv
  rcases hv with e | e | e | e | e | e <;> subst e
  · exact ⟨.non, fun _ _ e => (by cases e), fun _ _ e => (by cases e), rfl⟩
  · exact ⟨.int _, fun _ _ e => (by cases e), fun _ _ e => (by cases e), rfl⟩
  · exact ⟨.str _, fun _ _ e => (by cases e), fun _ _ e => (by cases e), rfl⟩
  · exact ⟨.lst o.h3, (nod o.h3 fun _ z => by cases z).1, (nod o.h3 fun _ z => by cases z).2, by simp only [onDct, o.h3]⟩
  · exact ⟨.tup o.h5, (nod o.h5 fun _ z => by cases z).1, (nod o.h5 fun _ z => by cases z).2, by simp only [onDct, o.h5]⟩
  · refine ⟨.dK o.h8, mkd_dk o.h8 (by have := o.ql; omega), mkd_dv o.h8 o.vl, ?_⟩
    simp only [onDct, o.h8]
    refine nmP_no ?_
    rw [mkd_len, keys_len o.nd o.ky, ded_x hx]
    omega
/-- a value that is no tuple of names -/
structure BadN (H : Hp) (v : V) : Prop where
  da : Da H v
  tu : Tu H v
  no : onTup H (fun xs => xs.all nameV) v = false
/-- the slots of namings_right -/
def SlN (p t d : Addr) (b e g o : Option V) (σ : L2.St) : Prop := ∃ a7 a8 a9 a10 : Option V, σ = [some (.ref p), some (.ref t), some (.ref d), b, e, g, o, a7, a8, a9, a10]
section
variable {P : Program} {w : World} {K : PySem.W.Frag} {mg : Str → Option Value} {base : Heap} {fR fP fNm fMx fMe CN CO : Addr} {fdR fdP fdNm fdMx fdMe : FuncData} {T : List (Addr × Str)}
theorem ok_namR {f c PT : Addr} {fd : FuncData} (F : FunC K "_law_namings_right" "_law_namings_right" sNamR f fd c) (L : TM K mg fR fP) (J : TNR K mg fNm fMx fMe) (M : TMe K mg CN CO)
    (Gr : FnOk P w K mg base CX0 1 fR fdR ["_law_dice_here", "_law_total"] spRoll) (bR : Binds K fdR ["_law_dice_here", "_law_total"] []) (Gp : FnOk P w K mg base CX0 2 fP fdP ["_law_dice_here", "_law_items"] spPick) (bP : Binds K fdP ["_law_dice_here", "_law_items"] [])
    (Gm : FnOk P w K mg base CX0 2 fMx fdMx ["_law_dice_here", "_law_items"] spMixed) (bMx : Binds K fdMx ["_law_dice_here", "_law_items"] [])
    (GN : FnOk P w K mg base (L2.CX P w) 3 fNm fdNm ["names", "value"] (spNaming CO)) (bN : Binds K fdNm ["names", "value"] []) (FM : Fun K "_law_met" "_law_met" sMet fMe fdMe) (bM : Binds K fdMe ["_law_call"] [])
    (TB : LamX.TabB base mg c PT) (hT : ∀ q, (PT, q) ∈ T ↔ q = ("_law_namings_right.<locals>.<lambda>" : Str)) : FnG P w K mg base CX0 6 f fd ["_law_dice_here"] (spRun T) := by
  obtain ⟨oc, od, kV, doc, pm, an, cdv, ct, osl, rfl, lkM, hcM⟩ := FM.ex
  refine gfnC F scNamR (fun vs H Q E h => ?_) (fun A outer s H vs Q E hr hgd h => ?_)
  · obtain ⟨p, rfl, _⟩ := h
    rfl
  · obtain ⟨p, rfl, hp, ht, k⟩ := h
    have hr1 : Room 1 _ := hr.mono (by decide)
    have hr2 : Room 2 _ := hr.mono (by decide)
    have hr3 : Room 3 _ := hr.mono (by decide)
    have hu : (A.deeper (PyProof.Rows.envOfC "_law_namings_right" (defScope sNamR) s.heap.objs.size f (.ref c))).units + 200 < cLine := by
      have := hr.un
      omega
    refine ⟨_, PSs.nox (C8.pss_cut (ps_set (i := 1) scNamR.nd rfl (Or.inr rfl) (pe_callTy call_tuple_of (by rfl) J.tup (by decide +kernel) (pa_cons (pe_lc (own := [("_law_turn", 8)]) (g := gName 8) (tt := tYes) rfl scNamR.nd (pi_range1 (by rfl) L.range (pa_cons (pe_call Gr hr1 (by rfl) L.gR L.kR bR .nil pass0 (pa_cons (pv 0) (pa_cons pe_int pa_nil))) pa_nil))
          (blkOk_by (own := [("_law_turn", 8)]) (N := nNa) (sc := defScope sNamR) (by decide +kernel)) (fun _ _ _ _ _ => pg_name (i := 8) scNamR.nd rfl (Or.inl rfl)) (fun _ _ _ _ _ => pts_nil)
          (fun _ _ _ _ _ => pe_call Gp hr2 (by rfl) L.gP L.kP bP .nil pass0 (pa_cons (pv 0) (pa_cons (pe_lst (pa_cons pe_str (pa_cons pe_str (pa_cons pe_str (pa_cons pe_str pa_nil))))) pa_nil)))) pa_nil)))
      (C8.pss_cut (ps_set (i := 2) scNamR.nd rfl (Or.inl rfl) (pe_callTy (call_dictP rfl) (by rfl) J.dct (by decide +kernel) (pa_cons (pe_lc (own := [("_law_name", 9)]) (g := gName 9) (tt := tYes) rfl scNamR.nd
          (pi_list (pe_call Gm hr2 (by rfl) J.gMx J.kMx bMx .nil pass0 (pa_cons (pv 0) (pa_cons (pe_callB (cr_sortTx rfl) (by rfl) J.srt (by decide +kernel) (pa_cons (pe_callTy (cr_setTx rfl) (by rfl) J.set (by decide +kernel) (pa_cons (pv 1) pa_nil)) pa_nil)) pa_nil))))
          (blkOk_by (own := [("_law_name", 9)]) (N := nNa) (sc := defScope sNamR) (by decide +kernel)) (fun _ _ _ _ _ => pg_name (i := 9) scNamR.nd rfl (Or.inl rfl)) (fun _ _ _ _ _ => pts_nil)
          (fun _ _ _ _ _ => pe_tup (pa_cons (pv 9) (pa_cons (pe_call Gp hr2 (by rfl) L.gP L.kP bP .nil pass0 (pa_cons (pv 0) (pa_cons (pe_lst (pa_cons pe_str (pa_cons pe_str (pa_cons pe_str (pa_cons pe_str (pa_cons pe_str pa_nil)))))) pa_nil))) pa_nil)))) pa_nil)))
      (C8.pss_cut (ps_set (i := 3) scNamR.nd rfl (Or.inl rfl) (pe_cmpR op_eq (pe_callB call_lenTx (by rfl) L.len PySem.boot_len (pa_cons (pe_callTy (cr_setTx rfl) (by rfl) J.set (by decide +kernel) (pa_cons (pe_callTy (call_listVals rfl) (by rfl) L.list (by decide +kernel) (pa_cons (pe_bm0 PySem.F.plainAttrs_dict PySem.F.slot_dict_values PySem.F.type_dict_values mt_dvals (pv 2)) pa_nil)) pa_nil)) pa_nil))
          (pe_callB call_lenD (by rfl) L.len PySem.boot_len (pa_cons (pv 2) pa_nil)) (nomark _)))
      (C8.pss_cut (ps_if (pt_cmpR op_ne (pe_callB (cr_repr hgd hr.units) (by rfl) J.repr (by decide +kernel) (pa_cons (pe_call (E := fun _ _ _ => False) GN hr3 (by rfl) J.gNm J.kNm bN .nil passF (pa_cons (pv 1) (pa_cons (pv 2) pa_nil))) pa_nil)) (pe_callB (cr_repr hgd hr.units) (by rfl) J.repr (by decide +kernel) (pa_cons (pv 3) pa_nil)) (nomark _)) (pss_one (ps_ret pe_bl)) pss_nil)
      (C8.pss_cut (ps_set (i := 4) scNamR.nd rfl (Or.inl rfl) (pe_callTy (call_dictP rfl) (by rfl) J.dct (by decide +kernel) (pa_cons (pe_op op_cat (LiI.pe_listItems rfl (pv 2) (by rfl) L.list (by decide +kernel)) (pe_lst (pa_cons (pe_tup (pa_cons pe_str (pa_cons pe_str pa_nil))) pa_nil))) pa_nil)))
      (C8.pss_cut (ps_set (i := 5) scNamR.nd rfl (Or.inl rfl) (pe_callTy (call_dictP rfl) (by rfl) J.dct (by decide +kernel) (pa_cons (pe_slice sl_list (LiI.pe_listItems rfl (pv 2) (by rfl) L.list (by decide +kernel)) (po_some pe_int) po_none) pa_nil)))
      (C8.pss_cut (ps_if (pw_or (pt_cmpR op_isnot_bl (pe_call (E := fun _ _ _ => False) GN hr3 (by rfl) J.gNm J.kNm bN .nil passF (pa_cons (pv 1) (pa_cons (pv 4) pa_nil))) pe_bl (nomark _))
          (pw_or1 (pw_and (pt_cmpR op_gt (pe_callB call_lenD (by rfl) L.len PySem.boot_len (pa_cons (pv 2) pa_nil)) pe_int (nomark _)) (pw_and1 (pt_cmpR op_isnot_bl (pe_call (E := fun _ _ _ => False) GN hr3 (by rfl) J.gNm J.kNm bN .nil passF (pa_cons (pv 1) (pa_cons (pv 5) pa_nil))) pe_bl (nomark _)))).pt)).pt (pss_one (ps_ret pe_bl)) pss_nil)
      (C8.pss_cut (ps_set (i := 6) scNamR.nd rfl (Or.inl rfl) (pe_lst (pa_cons pe_non (pa_cons pe_int (pa_cons pe_str (pa_cons (pe_lst (pa_cons (pe_tup (pa_cons pe_str (pa_cons pe_str pa_nil))) pa_nil)) (pa_cons (pe_tup (pa_cons (pe_tup (pa_cons pe_str (pa_cons pe_str pa_nil))) pa_nil)) (pa_cons (pe_callTy (call_dictP rfl) (by rfl) J.dct (by decide +kernel) (pa_cons
          (pe_op op_cat (pe_lc (own := [("_law_name", 9)]) (g := gName 9) (tt := tYes) rfl scNamR.nd (pi_tup (pv 1)) (blkOk_by (own := [("_law_name", 9)]) (N := nNa) (sc := defScope sNamR) (by decide +kernel)) (fun _ _ _ _ _ => pg_name (i := 9) scNamR.nd rfl (Or.inl rfl)) (fun _ _ _ _ _ => pts_nil)
            (fun _ _ _ _ _ => pe_tup (pa_cons (pv 9) (pa_cons (pe_op op_add_str (pv 9) pe_str) pa_nil)))) (pe_lst (pa_cons (pe_tup (pa_cons pe_str (pa_cons pe_str pa_nil))) pa_nil))) pa_nil)) pa_nil))))))))
      (C8.pss_cut (ps_if (pt_cmpR (op_neD hr.units) (pe_lc (own := [("_law_value", 10)]) (g := gName 10) (by rfl) scNamR.nd (pi_list (pv 6)) (blkOk_by (own := [("_law_value", 10)]) (N := nNa) (sc := defScope sNamR) (by decide +kernel)) (fun _ _ _ _ _ => pg_name (i := 10) scNamR.nd rfl (Or.inl rfl))
          (fun _ _ _ _ _ => pts_one (pt_cmpR op_isnot_bl (pe_call (E := fun _ _ _ => False) GN hr3 (by rfl) J.gNm J.kNm bN .nil passF (pa_cons (pv 1) (pa_cons (pv 10) pa_nil))) pe_bl (nomark _))) (fun _ _ _ _ _ => pv 10)) (pe_lst pa_nil) (nomark _)) (pss_one (ps_ret pe_bl)) pss_nil)
      (C8.pss_cut (ps_set (i := 7) scNamR.nd rfl (Or.inr rfl) (pe_call Gp hr2 (by rfl) L.gP L.kP bP .nil pass0 (pa_cons (pv 0) (pa_cons (pe_lst (pa_cons pe_non (pa_cons pe_int (pa_cons pe_str (pa_cons (pe_lst (pa_cons pe_str pa_nil)) (pa_cons (pe_tup (pa_cons pe_str (pa_cons pe_int pa_nil))) (pa_cons (pe_tup (pa_cons pe_str pa_nil)) (pa_cons (pe_tup (pa_cons pe_str pa_nil)) (pa_cons pe_dnewK pa_nil))))))))) pa_nil))))
      (pss_one (ps_ret (pe_and (pe_cmpR op_eq (LamX.pe_lamcall (T := T) (k := 3) (t := fun E => tCall (spNaming CO) [] E (tCons (tVar 7) (tCons tDNewK tNil))) (by rfl) J.gMe J.kMe lkM hcM bM scMet rfl (Or.inl rfl) (met_gives M hgd hu) TB rfl ((hT _).mpr rfl) (fun q hq e => (hT _).mp (by rw [← e]; exact hq)) hr (LamX.lamS_by (by show LamX.lamSB (defScope sNamR) _ = true; decide +kernel)) rfl (fun _ _ _ _ _ => rfl)
          (by exact fun A2 o2 s2 H2 E2 f2 c2 hr4 => pe_call GN hr4 (by rfl) J.gNm J.kNm bN .nil (passes_call (takes_of rfl rfl rfl rfl) (fun _ _ _ _ h => h)) (pa_cons (pv 7) (pa_cons pe_dnewK pa_nil)))) pe_str (nomark _))
          (pe_one (pe_cmpR op_is_bl (pe_call (E := fun _ _ _ => False) GN hr3 (by rfl) J.gNm J.kNm bN .nil passF (pa_cons (pe_tup (pa_cons pe_str pa_nil)) (pa_cons (pe_disp (pps_cons pe_str pe_str pps_nil) rfl rfl (by decide) (by decide)) pa_nil))) pe_bl (nomark _)))))))))))))))), ?_⟩
    refine ⟨fun σ H' => ∃ (t : Addr) (zs : List Str), (∃ a2 a3 a4 a5 a6 a7 a8 a9 a10 : Option V, σ = [some (.ref p), some (.ref t), a2, a3, a4, a5, a6, a7, a8, a9, a10]) ∧ Kd p H H' ∧ DiceAt H' p ∧ H' t = some (.tup (zs.map V.str)) ∧ zs.length ≤ 4 ∧ ∀ z ∈ zs, z ∈ nset, ?_, ?_⟩
    · refine ⟨_, rfl, p, _, rfl, hp, by decide, by decide, fun r2 H5 r20 r21 kd5 dc5 => ⟨r2, rfl, by omega, by omega, fun D hD => lc_roll (p := p) (Gd := fun y => ∃ z : Str, y = .str z ∧ z ∈ nset) walk_range (small1000 (by omega)) hD dc5 (fun _ _ _ => True.intro) ?_ gName_mono ?_⟩⟩
      · rintro i x H6 H7 hi kd6 dc6 ⟨rfl, rfl⟩
        refine ⟨rfl, fun Q' q => ⟨_, rfl, by show 4 ≤ sizeLine; decide, fun l hl => ?_⟩⟩
        have sl := K0.Same.new (.lst [.str "a", .str "b", .str "c", .str "row"]) hl
        refine ⟨p, l, _, rfl, dc6.same sl, dc6.ne hl, upd_same, by simp, by simp, fun v H8 hv kd8 dc8 => q v H8 ?_ ((Kd.of sl).tr kd8) dc8⟩
        simp only [List.mem_cons, List.not_mem_nil, or_false] at hv
        rcases hv with e | e | e | e <;> subst e <;> exact ⟨_, rfl, by decide⟩
      · intro H6 acc kd6 dc6 hD6 hacc hall
        obtain ⟨zs, rfl, hzs⟩ := texts_in acc hall
        rw [List.length_map] at hacc
        refine ⟨D, _, rfl, .inl ⟨SqL.of hD6, fun t ht => ?_⟩⟩
        exact ⟨t, zs, ⟨_, _, _, _, _, _, _, _, _, rfl⟩, (kd5.tr kd6).tr (Kd.of (K0.Same.new _ ht)), dc6.same (K0.Same.new _ ht), upd_same, by omega, hzs⟩
    rintro σ H1 ⟨t, zs, ⟨a2, a3, a4, a5, a6, a7, a8, a9, a10, rfl⟩, kd1, dc1, ht1, hl1, hz1⟩
    -- the dict
    refine ⟨fun σ H' => ∃ (d : Addr) (ps : TT2), (∃ b e g o, SlN p t d b e g o σ) ∧ Kd p H H' ∧ NS p t d zs ps H', ?_, ?_⟩
    · refine ⟨_, rfl, _, rfl, t, zs, rfl, .inl (SqT.of ht1), by omega, fun q n hn hq => ⟨q, _, n, rfl, upd_same, by omega, fun ns l _ hnd hm hlen hl => ?_⟩⟩
      have s1 := K0.Same.new (SetTO w q (fun j => decide (j ∈ zs)) n) hq
      have s2 := K0.Same.new (.lst (ns.map V.str)) hl
      have s12 := K0.Same.tr s1 s2
      refine ⟨p, l, _, rfl, dc1.same s12, (dc1.same s1).ne hl, upd_same, by rw [List.length_map]; omega, fun ys m H2 pm hm0 hm1 kd2 dc2 => ?_⟩
      obtain ⟨zs2, rfl, pm2⟩ := perm_strs pm
      have hmp : m ≠ p := (dc1.same s12).ne hm0
      have l2 : zs2.length = ns.length := pm2.length_eq
      have ht2 : H2 t = some (.tup (zs.map V.str)) := kd2 _ _ (fun z => by
        obtain ⟨x, y, u, e⟩ := dc1
        rw [z, e] at ht1
        cases ht1) (s12 _ _ ht1)
      have kdT := kd1.tr ((Kd.of s12).tr kd2)
      refine ⟨m, rfl, ⟨_, SqL.of hm1⟩, fun D hD => lc_acc (p := p) (Gd := GdP (· ∈ vset) zs2) (stab := gdP_stab) (walk_list (K := K) (a := m) (xs := zs2.map V.str)) (by rw [List.length_map]; exact small1000 (by omega)) hD dc2 (fun H6 kd6 _ => SqL.of (kd6 _ _ hmp hm1)) ?_ gName_mono ?_⟩
      · rintro i x H6 H7 hi kd6 dc6 ⟨rfl, hxi⟩
        rw [List.getElem?_map] at hxi
        obtain ⟨z, hz, rfl⟩ := Option.map_eq_some_iff.mp hxi
        refine ⟨rfl, fun Q' q => ⟨_, rfl, _, rfl, by show 5 ≤ sizeLine; decide, fun l3 hl3 => ?_⟩⟩
        have sl := K0.Same.new (.lst [.str "a", .str "b", .str "zz", .str "q", .str "w"]) hl3
        refine ⟨p, l3, _, rfl, dc6.same sl, dc6.ne hl3, upd_same, by simp, by simp, fun v H8 hv kd8 dc8 => ⟨by show 2 ≤ sizeLine; decide, fun t2 ht2 => ?_⟩⟩
        have hv2 : ∃ y : Str, v = .str y ∧ y ∈ vset := by
          simp only [List.mem_cons, List.not_mem_nil, or_false] at hv
          rcases hv with e | e | e | e | e <;> subst e <;> exact ⟨_, rfl, by decide⟩
        obtain ⟨y, rfl, hy⟩ := hv2
        exact q _ _ ⟨t2, z, y, rfl, hz, hy, upd_same⟩ (((Kd.of sl).tr kd8).tr (Kd.of (K0.Same.new _ ht2))) (dc8.same (K0.Same.new _ ht2))
      · intro H6 acc kd6 dc6 hD6 hacc hall
        obtain ⟨ts, ps, rfl, e2, e3, e4⟩ := pairs_of acc zs2 (by rw [hacc, List.length_map]) hall
        have ht6 : H6 t = some (.tup (zs.map V.str)) := kd6 _ _ (fun z => by
          obtain ⟨x, y, u, e⟩ := dc2
          rw [z, e] at ht2
          cases ht2) ht2
        refine ⟨D, ts, mkd ps, rfl, SqL.of hD6, pt2_sq K0.Same.rfl' e4, fun d hd => ?_⟩
        have nd2 : (ps.map (·.1)).Nodup := by rw [e2]; exact pm2.nodup_iff.mpr hnd
        have em : mergeK [] (mkd ps) = mkd ps := by
          rw [show ([] : List (Key × V)) = mkd [] from rfl, merge_mkd, mer2_new ps [] nd2]
          rfl
        rw [em]
        have sd := K0.Same.new (.dK (mkd ps)) hd
        refine ⟨d, ps, ⟨_, _, _, _, _, _, _, _, rfl⟩, (kdT.tr kd6).tr (Kd.of sd), ⟨dc6.same sd, sd _ _ ht6, hl1, hz1, upd_same, nd2, fun k => ?_, e3, ?_⟩⟩
        · rw [e2, pm2.mem_iff, hm, decide_eq_true_eq]
        · have l3 : (ps.map (·.1)).length = zs2.length := by rw [e2]
          rw [List.length_map] at l3
          omega
    rintro σ H2 ⟨d, ps, ⟨b0, e0, g0, o0, a7, a8, a9, a10, rfl⟩, kd2, n2⟩
    have da2 : ∀ {H' : Hp} {d' : Addr} {qs : TT2}, H' d' = some (.dK (mkd qs)) → Da H' (.ref d') := fun e => .dK e
    -- due
    refine ⟨fun σ H' => (∃ e g o, SlN p t d (some (.bl (decide (ps.map (·.2)).Nodup))) e g o σ) ∧ Kd p H H' ∧ NS p t d zs ps H', ?_, ?_⟩
    · refine ⟨_, rfl, .inr (.inr (.inl ⟨rfl, .inl ⟨_, n2.hd⟩⟩)), d, _, rfl, rfl, n2.hd, fun q hq => ⟨q, d, _, rfl, upd_same, (K0.Same.new _ hq) _ _ n2.hd, fun l hl => ?_⟩⟩
      have s1 := K0.Same.new (ValO q d) hq
      have s2 := K0.Same.new (.lst ((mkd ps).map (·.2))) hl
      have ev : (mkd ps).map (·.2) = (ps.map (·.2)).map V.str := by
        unfold mkd
        rw [List.map_map, List.map_map]
        rfl
      refine ⟨l, ps.map (·.2), rfl, .inr (SqL.of (by rw [upd_same, ev])), by rw [List.length_map]; have := n2.pl; omega, fun u n hn hu => ⟨u, _, n, rfl, upd_same, by rw [List.length_map] at hn; have := n2.pl; omega, fun ⟨L0, l1, l2, l3⟩ => ?_⟩⟩
      have s3 := K0.Same.tr (K0.Same.tr s1 s2) (K0.Same.new (SetTO w u (fun j => decide (j ∈ ps.map (·.2))) n) hu)
      refine ⟨_, rfl, d, _, rfl, s3 _ _ n2.hd, rfl, ?_⟩
      have en : n = (ded (ps.map (·.2))).length := by rw [← l3]; exact ded_len l1 l2
      have e2 : decide (V.int (n : Int) = V.int ((mkd ps).length : Int)) = decide (ps.map (·.2)).Nodup := by
        refine decide_eq_decide.mpr ?_
        rw [V.int.injEq, mkd_len, Int.ofNat_inj, en]
        have z := ded_full (ps.map (·.2))
        rw [List.length_map] at z
        exact z
      rw [e2]
      exact ⟨⟨_, _, _, _, _, _, _, rfl⟩, kd2.tr (Kd.of s3), n2.same s3⟩
    clear kd2 n2
    rintro σ H3 ⟨⟨e0, g0, o0, a7, a8, a9, a10, rfl⟩, kd3, n3⟩
    -- is it a naming?
    refine ⟨fun σ H' => (∃ b e g o, SlN p t d b e g o σ) ∧ Kd p H H' ∧ NS p t d zs ps H', ?_, ?_⟩
    · have b1 : onDct H3 (nmP zs) (.ref d) = decide (ps.map (·.2)).Nodup := by
        simp only [onDct, n3.hd]
        exact nmP_yes n3.nd n3.ky fun v hv => vset_ok v (n3.vs v hv)
      refine ⟨_, rfl, _, rfl, ?_⟩
      dsimp only [tCall, tCons, tNil, List.cons_append, List.nil_append, List.append_nil]
      refine nm_call n3.ht n3.nm (by have := n3.hl; omega) (da2 n3.hd) (mkd_dk n3.hd (by have := n3.pl; omega)) (mkd_dv n3.hd fun v hv => vset_len v (n3.vs v hv)) b1 fun H4 s4 => ?_
      generalize decide (ps.map (·.2)).Nodup = bb
      have sh : (PyData.bool bb).showable = true ∧ (PyData.bool bb).depth ≤ 20 ∧ (PyData.bool bb).shown.length ≤ 1000 := by cases bb <;> decide
      refine ⟨_, .bool bb, rfl, .of (.bl _), sh.1, sh.2.1, sh.2.2, _, rfl, _, .bool bb, rfl, .of (.bl _), sh.1, sh.2.1, sh.2.2, rfl, _, rfl, if_neg_of (ne_same rfl) ⟨⟨_, _, _, _, _, _, _, _, rfl⟩, kd3.tr (Kd.of s4), n3.same s4⟩⟩
    clear kd3 n3
    rintro σ H4 ⟨⟨b0, e0, g0, o0, a7, a8, a9, a10, rfl⟩, kd4, n4⟩
    -- one more
    have noth : ("other" : Str) ∉ ps.map (·.1) := fun z => by
      have z2 := n4.hz _ ((n4.ky _).mp z)
      revert z2
      decide
    refine ⟨fun σ H' => ∃ (d4 : Addr), (∃ b g o, SlN p t d b (some (.ref d4)) g o σ) ∧ Kd p H H' ∧ NS p t d zs ps H' ∧ H' d4 = some (.dK (mkd (ps ++ oth))), ?_, ?_⟩
    · refine ⟨_, rfl, d, _, rfl, n4.hd, fun H5 q ts s5 hq hts hqn hq5 pr => ?_⟩
      refine ⟨by show 2 ≤ sizeLine; decide, fun t2 ht2 => ⟨by show 1 ≤ sizeLine; decide, fun l2 hl2 => ?_⟩⟩
      have z1 := K0.Same.new (.tup [.str "other", .str "v"]) ht2
      have z2 := K0.Same.new (.lst [.ref t2]) hl2
      have lts : ts.length = ps.length := (Paired.length pr).trans (mkd_len ps)
      refine ⟨q, l2, ts.map V.ref, [.ref t2], rfl, rfl, z2 _ _ (z1 _ _ hq5), upd_same, Nat.le_of_lt (small1000 (by rw [List.length_map]; have := n4.pl; simp only [List.length_cons, List.length_nil]; omega)), fun p3 hp3 => ?_⟩
      have z3 := K0.Same.new (.lst (ts.map V.ref ++ [.ref t2])) hp3
      have s6 := K0.Same.tr z1 (K0.Same.tr z2 z3)
      have pr2 : Paired (PT2 (upd (upd (upd H5 t2 (.tup [.str "other", .str "v"])) l2 (.lst [.ref t2])) p3 (.lst (ts.map V.ref ++ [.ref t2])))) (ts ++ [t2]) (mkd ps ++ mkd oth) :=
        paired_snoc (F := PT2 _) (b := (Sum.inr ("other" : Str), V.str "v")) (K0.Same.tr z2 z3 _ _ upd_same) (paired_imp (fun _ _ e => s6 _ _ e) pr)
      rw [mkd_app] at pr2
      refine ⟨p3, ts ++ [t2], mkd (ps ++ oth), rfl, SqL.of (by rw [upd_same, List.map_append]; rfl), pt2_sq K0.Same.rfl' pr2, fun d4 hd4 => ?_⟩
      have em : mergeK [] (mkd (ps ++ oth)) = mkd (ps ++ oth) := by
        rw [show ([] : List (Key × V)) = mkd [] from rfl, merge_mkd, mer2_new _ []]
        · rfl
        · rw [List.nil_append, List.map_append, List.nodup_append]
          exact ⟨n4.nd, by simp, fun a ha b hb e => noth (by
            have hb' : b = ("other" : Str) := List.mem_singleton.mp hb
            have e' := e.trans hb'
            rw [← e']
            exact ha)⟩
      rw [em]
      have s7 : Same H4 _ := K0.Same.tr s5 (K0.Same.tr s6 (K0.Same.new (.dK (mkd (ps ++ oth))) hd4))
      exact ⟨d4, ⟨_, _, _, _, _, _, _, rfl⟩, kd4.tr (Kd.of s7), n4.same s7, upd_same⟩
    clear kd4 n4
    rintro σ H5 ⟨d4, ⟨b0, g0, o0, a7, a8, a9, a10, rfl⟩, kd5, n5, hd4⟩
    -- one less
    refine ⟨fun σ H' => ∃ (d5 : Addr), (∃ b o, SlN p t d b (some (.ref d4)) (some (.ref d5)) o σ) ∧ Kd p H H' ∧ NS p t d zs ps H' ∧ H' d4 = some (.dK (mkd (ps ++ oth))) ∧ H' d5 = some (.dK (mkd ps.tail)), ?_, ?_⟩
    · refine ⟨_, rfl, d, _, rfl, n5.hd, fun H6 q ts s6 hq hts hqn hq6 pr => ?_⟩
      have lts : ts.length = ps.length := (Paired.length pr).trans (mkd_len ps)
      refine ⟨1, rfl, q, _, rfl, SqL.of hq6, fun p3 hp3 => ?_⟩
      rw [cut_tail _ (by rw [List.length_map]; have := n5.pl; omega)]
      have z3 := K0.Same.new (.lst (ts.map V.ref).tail) hp3
      have pr2 := paired_tail pr
      rw [mkd_tail] at pr2
      refine ⟨p3, ts.tail, mkd ps.tail, rfl, SqL.of (by rw [upd_same, List.map_tail]), pt2_sq z3 pr2, fun d5 hd5 => ?_⟩
      have em : mergeK [] (mkd ps.tail) = mkd ps.tail := by
        rw [show ([] : List (Key × V)) = mkd [] from rfl, merge_mkd, mer2_new _ []]
        · rfl
        · rw [List.nil_append, List.map_tail]
          exact n5.nd.sublist (List.tail_sublist _)
      rw [em]
      have s7 : Same H5 _ := K0.Same.tr s6 (K0.Same.tr z3 (K0.Same.new (.dK (mkd ps.tail)) hd5))
      exact ⟨d5, ⟨_, _, _, _, _, _, rfl⟩, kd5.tr (Kd.of s7), n5.same s7, s7 _ _ hd4, upd_same⟩
    clear kd5 n5 hd4
    rintro σ H6 ⟨d5, ⟨b0, o0, a7, a8, a9, a10, rfl⟩, kd6, n6, hd4, hd5⟩
    have len0 := keys_len n6.nd n6.ky
    refine ⟨fun σ H' => (∃ b e g o, SlN p t d b e g o σ) ∧ Kd p H H' ∧ NS p t d zs ps H', ?_, ?_⟩
    · have c1 : onDct H6 (nmP zs) (.ref d4) = false := by
        simp only [onDct, hd4]
        exact nmP_no (by rw [mkd_len, List.length_append, ← len0]; simp)
      have c2 : 0 < ps.length → ∀ H', Same H6 H' → onDct H' (nmP zs) (.ref d5) = false := fun h0 H' s' => by
        simp only [onDct, s' _ _ hd5]
        exact nmP_no (by rw [mkd_len, List.length_tail, ← len0]; omega)
      have v4 : ∀ v ∈ (ps ++ oth).map (·.2), v.length ≤ 1000 := fun v hv => by
        rw [List.map_append] at hv
        rcases List.mem_append.mp hv with e | e
        · exact vset_len v (n6.vs v e)
        · rw [List.map_cons, List.map_nil, List.mem_singleton] at e
          rw [e]
          decide
      have v5 : ∀ v ∈ ps.tail.map (·.2), v.length ≤ 1000 := fun v hv => vset_len v (n6.vs v (by
        rw [List.map_tail] at hv
        exact List.mem_of_mem_tail hv))
      refine ⟨_, rfl, _, rfl, ?_⟩
      dsimp only [tCall, tCons, tNil, List.cons_append, List.nil_append, List.append_nil]
      refine nm_call n6.ht n6.nm (by have := n6.hl; omega) (da2 hd4) (mkd_dk hd4 (by rw [List.length_append]; have := n6.pl; simp only [List.length_cons, List.length_nil]; omega)) (mkd_dv hd4 v4) c1 fun H7 s7 => ⟨_, _, rfl, rfl, _, rfl, if_neg_of rfl ⟨_, rfl, d, _, rfl, s7 _ _ n6.hd, _, _, rfl, rfl, _, rfl, ?_⟩⟩
      have n7 := n6.same s7
      rw [mkd_len]
      by_cases h0 : (0 : Int) < ps.length
      · refine if_pos_of (decide_eq_true h0) ⟨_, rfl, _, rfl, ?_⟩
        dsimp only [tCall, tCons, tNil, List.cons_append, List.nil_append, List.append_nil]
        refine nm_call n7.ht n7.nm (by have := n7.hl; omega) (da2 (s7 _ _ hd5)) (mkd_dk (s7 _ _ hd5) (by rw [List.length_tail]; have := n6.pl; omega)) (mkd_dv (s7 _ _ hd5) v5) (c2 (by omega) _ s7) fun H8 s8 => ⟨_, _, rfl, rfl, _, rfl, ?_⟩
        exact if_neg_of rfl ⟨⟨_, _, _, _, _, _, _, _, rfl⟩, kd6.tr (Kd.of (K0.Same.tr s7 s8)), n6.same (K0.Same.tr s7 s8)⟩
      · refine if_neg_of (decide_eq_false h0) ?_
        exact if_neg_of rfl ⟨⟨_, _, _, _, _, _, _, _, rfl⟩, kd6.tr (Kd.of s7), n7⟩
    clear kd6 n6 hd4 hd5
    rintro σ H7 ⟨⟨b0, e0, g0, o0, a7, a8, a9, a10, rfl⟩, kd7, n7⟩
    have hxz : ("x" : Str) ∉ zs := fun z => nset_x (n7.hz _ z)
    refine ⟨fun σ H' => ∃ (l9 l3 t3 t4 t5 d8 : Addr) (qs : TT2), (∃ b e g, SlN p t d b e g (some (.ref l9)) σ) ∧ Kd p H H' ∧ NS p t d zs ps H' ∧ OS zs H' l9 l3 t3 t4 t5 d8 qs, ?_, ?_⟩
    · refine ⟨by show 2 ≤ sizeLine; decide, fun t3 h3 => ⟨by show 1 ≤ sizeLine; decide, fun l3 hl3 => ⟨by show 2 ≤ sizeLine; decide, fun t4 h4 => ⟨by show 1 ≤ sizeLine; decide, fun t5 h5 => ?_⟩⟩⟩⟩
      have z1 := K0.Same.new (.tup [.str "a", .str "b"]) h3
      have z2 := K0.Same.new (.lst [.ref t3]) hl3
      have z3 := K0.Same.new (.tup [.str "a", .str "b"]) h4
      have z4 := K0.Same.new (.tup [.ref t4]) h5
      have z34 := K0.Same.tr z3 z4
      have zA := K0.Same.tr z1 (K0.Same.tr z2 z34)
      have k3 := z34 _ _ (upd_same (H := upd H7 t3 (.tup [.str "a", .str "b"])) (a := l3) (o := .lst [.ref t3]))
      have k5 : (upd (upd (upd (upd H7 t3 (.tup [.str "a", .str "b"])) l3 (.lst [.ref t3])) t4 (.tup [.str "a", .str "b"])) t5 (.tup [.ref t4])) t5 = some (.tup [.ref t4]) := upd_same
      generalize upd (upd (upd (upd H7 t3 (.tup [.str "a", .str "b"])) l3 (.lst [.ref t3])) t4 (.tup [.str "a", .str "b"])) t5 (.tup [.ref t4]) = H8 at *
      have n8 := n7.same zA
      refine ⟨_, rfl, t, rfl, ⟨_, SqT.of n8.ht⟩, fun D hD => lc_acc (p := p) (Gd := GdP (fun v => v.length ≤ 20) zs) (stab := gdP_stab) (walk_tup (K := K) (a := t) (xs := zs.map V.str)) (by rw [List.length_map]; have := n8.hl; exact small1000 (by omega)) hD n8.dc (fun H6 kd6 _ => SqT.of (kd6 _ _ (fun z => by
        obtain ⟨x, y, u, e⟩ := n8.dc
        have e2 := n8.ht
        rw [z, e] at e2
        cases e2) n8.ht)) ?_ gName_mono ?_⟩
      · rintro i x H6 H9 hi kd6 dc6 ⟨rfl, hxi⟩
        rw [List.getElem?_map] at hxi
        obtain ⟨z, hz, rfl⟩ := Option.map_eq_some_iff.mp hxi
        have zn := n8.hz z (List.mem_of_getElem? hz)
        refine ⟨rfl, fun Q' q => ⟨_, rfl, _, rfl, _, _, rfl, rfl, ?_, by show 2 ≤ sizeLine; decide, fun t6 ht6 => ?_⟩⟩
        · have := nset_len z zn
          have e1 : ("!" : Str).length = 1 := by decide
          rw [e1]
          exact Nat.le_of_lt (small1000 (by omega))
        · exact q _ _ ⟨t6, z, z ++ ("!" : Str), rfl, hz, nset_ex z zn, upd_same⟩ (Kd.of (K0.Same.new _ ht6)) (dc6.same (K0.Same.new _ ht6))
      · intro H6 acc kd6 dc6 hD6 hacc hall
        obtain ⟨ts, ps2, rfl, e2, e3, e4⟩ := pairs_of acc zs (by rw [hacc, List.length_map]) hall
        have lts : ts.length = zs.length := by
          rw [List.length_map, List.length_map] at hacc
          exact hacc
        refine ⟨by show 2 ≤ sizeLine; decide, fun t7 h7 => ⟨by show 1 ≤ sizeLine; decide, fun l7 hl7 => ?_⟩⟩
        have y1 := K0.Same.new (.tup [.str "x", .str "y"]) h7
        have y2 := K0.Same.new (.lst [.ref t7]) hl7
        refine ⟨D, l7, ts.map V.ref, [.ref t7], rfl, rfl, y2 _ _ (y1 _ _ hD6), upd_same, Nat.le_of_lt (small1000 (by rw [List.length_map]; have := n8.hl; simp only [List.length_cons, List.length_nil]; omega)), fun p8 hp8 => ?_⟩
        have y3 := K0.Same.new (.lst (ts.map V.ref ++ [.ref t7])) hp8
        have y6 := K0.Same.tr y1 (K0.Same.tr y2 y3)
        have pr2 : Paired (PT2 (upd (upd (upd H6 t7 (.tup [.str "x", .str "y"])) l7 (.lst [.ref t7])) p8 (.lst (ts.map V.ref ++ [.ref t7])))) (ts ++ [t7]) (mkd ps2 ++ mkd xyp) :=
          paired_snoc (F := PT2 _) (b := (Sum.inr ("x" : Str), V.str "y")) (K0.Same.tr y2 y3 _ _ upd_same) (paired_imp (fun _ _ e => y6 _ _ e) e4)
        rw [mkd_app] at pr2
        refine ⟨p8, ts ++ [t7], mkd (ps2 ++ xyp), rfl, SqL.of (by rw [upd_same, List.map_append]; rfl), pt2_sq K0.Same.rfl' pr2, fun d8 hd8 => ⟨by show 6 ≤ sizeLine; decide, fun l9 hl9 => ?_⟩⟩
        obtain ⟨q1, q2, q3, q4⟩ := mer2_keys (ps2 ++ xyp) [] List.Pairwise.nil
        have em : mergeK [] (mkd (ps2 ++ xyp)) = mkd (mer2 [] (ps2 ++ xyp)) := merge_mkd _ []
        rw [em] at hl9 ⊢
        generalize mer2 [] (ps2 ++ xyp) = qs at *
        have y7 := K0.Same.new (.dK (mkd qs)) hd8
        have y8 := K0.Same.new (.lst [.non, .int 0, .str "a", .ref l3, .ref t5, .ref d8]) hl9
        have yB := K0.Same.tr y6 (K0.Same.tr y7 y8)
        have kT : Kd p H8 _ := kd6.tr (Kd.of yB)
        have nT : ∀ {b : Addr} {o : HO}, H8 b = some o → (∀ a b c : Int, o ≠ .lst [.int a, .int b, .int c]) → b ≠ p := fun {b o} e n z => by
          obtain ⟨x, y, u, e'⟩ := n8.dc
          rw [z, e'] at e
          cases e
          exact n _ _ _ rfl
        refine ⟨l9, l3, t3, t4, t5, d8, qs, ⟨_, _, _, _, _, _, _, rfl⟩, kd7.tr ((Kd.of zA).tr kT), ⟨dc6.same yB, kT _ _ (nT n8.ht fun _ _ _ z => by cases z) n8.ht, n8.hl, n8.hz, kT _ _ (nT n8.hd fun _ _ _ z => by cases z) n8.hd, n8.nd, n8.ky, n8.vs, n8.pl⟩,
          ⟨upd_same, kT _ _ (nT k3 fun _ _ _ z => by cases z) k3, kT _ _ (nT k5 fun _ _ _ z => by cases z) k5, y8 _ _ upd_same, q1, fun k => ?_, ?_, fun v hv => ?_⟩⟩
        · rw [q2, List.map_append, e2]
          exact ⟨fun z => z.elim (fun y => by simp at y) id, .inr⟩
        · have l4 : (ps2.map (·.1)).length = zs.length := by rw [e2]
          rw [List.length_map] at l4
          rw [List.length_append] at q4
          have := n8.hl
          simp only [List.length_cons, List.length_nil] at q4
          omega
        · obtain ⟨q, hq, rfl⟩ := List.mem_map.mp hv
          rcases q3 q hq with z | z
          · cases z
          · rw [List.map_append] at z
            rcases List.mem_append.mp z with z | z
            · exact Nat.le_trans (e3 _ z) (by decide)
            · rw [List.mem_singleton.mp z]
              decide
    clear kd7 n7
    rintro σ H8 ⟨l9, l3, t3, t4, t5, d8, qs, ⟨b0, e0, g0, a7, a8, a9, a10, rfl⟩, kd8, n8, o8⟩
    refine ⟨fun σ H' => (∃ d b e g o, SlN p t d b e g o σ) ∧ Kd p H H' ∧ DiceAt H' p, ?_, ?_⟩
    · refine ⟨_, rfl, l9, rfl, ⟨_, SqL.of o8.h9⟩, fun D hD => lc_sieve (f := fun i => [V.non, .int 0, .str "a", .ref l3, .ref t5, .ref d8].getD i .non) (keep := fun _ => false) (walk_list (K := K) (a := l9) (xs := [V.non, .int 0, .str "a", .ref l3, .ref t5, .ref d8])) (small1000 (by show 6 ≤ 1000; decide)) hD (fun H9 s9 => SqL.of (s9 _ _ o8.h9)) ?_ gName_mono ?_⟩
      · rintro i x H9 H10 hi s9 ⟨rfl, hxi⟩
        have n9 := n8.same s9
        obtain ⟨e1, e2, e3, e4⟩ := (o8.same s9).no hxz (List.mem_of_getElem? hxi)
        refine ⟨rfl, fun R q => ?_, fun H11 Q' s11 q => ⟨_, rfl, ?_⟩⟩
        · refine ⟨_, rfl, _, rfl, ?_⟩
          dsimp only [tCall, tCons, tNil, List.cons_append, List.nil_append, List.append_nil]
          exact nm_call n9.ht n9.nm (by have := n9.hl; omega) e1 e2 e3 e4 fun H11 s11 => ⟨_, _, rfl, rfl, _, rfl, q _ s11⟩
        · have q0 := q _ K0.Same.rfl'
          rw [List.getD_eq_getElem?_getD, hxi] at q0
          exact q0
      · intro H9 s9 hD9
        refine ⟨Nat.zero_le _, fun q hq => ?_⟩
        have eL : ((List.range 6).filter fun _ => false).map (fun i => [V.non, .int 0, .str "a", .ref l3, .ref t5, .ref d8].getD i .non) = [] := rfl
        have hD10 : H9 D = some (.lst []) := hD9
        have ndq : D ≠ q := ne_of_none hD10 hq
        have sB := K0.Same.tr s9 (K0.Same.new (.lst []) hq)
        exact ⟨.list [], .list [], .lst (SqL.of (by rw [upd_ne ndq]; exact hD10)) .nil, .lst (SqL.of upd_same) .nil, rfl, rfl, _, rfl, if_neg_of rfl ⟨⟨_, _, _, _, _, _, _, _, _, rfl⟩, kd8.tr (Kd.of sB), n8.dc.same sB⟩⟩
    clear kd8 n8 o8
    rintro σ H9 ⟨⟨d, b0, e0, g0, o0, a7, a8, a9, a10, rfl⟩, kd9, dc9⟩
    refine ⟨fun σ H' => ∃ v, (∃ a2 a3 a4 a5 a6 a8 a9 a10 : Option V, σ = [some (.ref p), some (.ref t), a2, a3, a4, a5, a6, some v, a8, a9, a10]) ∧ Kd p H H' ∧ DiceAt H' p ∧ ∀ H2, Kt p H' H2 → BadN H2 v, ?_, ?_⟩
    · refine ⟨_, rfl, by show 1 ≤ sizeLine; decide, fun t1 h1 => ⟨by show 2 ≤ sizeLine; decide, fun t2 h2 => ⟨by show 1 ≤ sizeLine; decide, fun t3 h3 => ⟨by show 1 ≤ sizeLine; decide, fun t4 h4 t6 h6 => ⟨by show 8 ≤ sizeLine; decide, fun t7 h7 => ?_⟩⟩⟩⟩⟩
      have z1 := K0.Same.new (.lst [.str "a"]) h1
      have z2 := K0.Same.new (.tup [.str "a", .int 1]) h2
      have z3 := K0.Same.new (.tup [.str "A"]) h3
      have z4 := K0.Same.new (.tup [.str ""]) h4
      have z6 := K0.Same.new (.dK []) h6
      have z7 := K0.Same.new (.lst [.non, .int 0, .str "a", .ref t1, .ref t2, .ref t3, .ref t4, .ref t6]) h7
      have y6 := K0.Same.tr z6 z7
      have y4 := K0.Same.tr z4 y6
      have y3 := K0.Same.tr z3 y4
      have y2 := K0.Same.tr z2 y3
      have y1 := K0.Same.tr z1 y2
      have n1 := dc9.ne h1
      have n2 := (dc9.same z1).ne h2
      have n3 := (dc9.same (K0.Same.tr z1 z2)).ne h3
      have n4 := (dc9.same (K0.Same.tr z1 (K0.Same.tr z2 z3))).ne h4
      have n6 := (dc9.same (K0.Same.tr z1 (K0.Same.tr z2 (K0.Same.tr z3 z4)))).ne h6
      have n7 := (dc9.same (K0.Same.tr z1 (K0.Same.tr z2 (K0.Same.tr z3 (K0.Same.tr z4 z6))))).ne h7
      refine ⟨p, t7, _, rfl, dc9.same y1, n7, upd_same, by simp, by simp, fun v H' hv kd dc => ?_⟩
      have i1 := kd _ _ n1 (y2 _ _ upd_same)
      have i2 := kd _ _ n2 (y3 _ _ upd_same)
      have i3 := kd _ _ n3 (y4 _ _ upd_same)
      have i4 := kd _ _ n4 (y6 _ _ upd_same)
      have i6 := kd _ _ n6 (z7 _ _ upd_same)
      refine ⟨v, ⟨_, _, _, _, _, _, _, _, rfl⟩, kd9.tr ((Kd.of y1).tr kd), dc, fun H2 kt => ?_⟩
      have j1 := kt _ _ n1 i1 lst_t
      have j2 := kt _ _ n2 i2 tup_t
      have j3 := kt _ _ n3 i3 tup_t
      have j4 := kt _ _ n4 i4 tup_t
      have j6 := kt _ _ n6 i6 dK_t
      have noT : ∀ {x : V}, (∀ a xs, x = .ref a → H2 a = some (.tup xs) → False) → Tu H2 x := fun z a xs e1 e2 => (z a xs e1 e2).elim
      have isT : ∀ {a : Addr} {xs : List V}, H2 a = some (.tup xs) → xs.length ≤ 1000 → (∀ x ∈ xs, Da H2 x ∧ Sz x) → Tu H2 (.ref a) := fun e h1 h2 b ys e1 e2 => by
        cases e1
        rw [e] at e2
        cases e2
        exact ⟨h1, h2⟩
      simp only [List.mem_cons, List.not_mem_nil, or_false] at hv
      rcases hv with e | e | e | e | e | e | e | e <;> subst e
      · exact ⟨.non, noT fun _ _ e _ => (by cases e), rfl⟩
      · exact ⟨.int _, noT fun _ _ e _ => (by cases e), rfl⟩
      · exact ⟨.str _, noT fun _ _ e _ => (by cases e), rfl⟩
      · exact ⟨.lst j1, noT fun _ _ e e2 => (by cases e; rw [j1] at e2; cases e2), by simp only [onTup, j1]⟩
      · refine ⟨.tup j2, isT j2 (by show 2 ≤ 1000; decide) (fun x hx => ?_), by simp only [onTup, j2]; decide⟩
        rcases List.mem_cons.mp hx with e | e
        · rw [e]; exact ⟨.str _, (by decide : ("a" : Str).length ≤ 1000)⟩
        · rw [List.mem_singleton.mp e]; exact ⟨.int _, True.intro⟩
      · refine ⟨.tup j3, isT j3 (by show 1 ≤ 1000; decide) (fun x hx => ?_), by simp only [onTup, j3]; decide⟩
        rw [List.mem_singleton.mp hx]; exact ⟨.str _, (by decide : ("A" : Str).length ≤ 1000)⟩
      · refine ⟨.tup j4, isT j4 (by show 1 ≤ 1000; decide) (fun x hx => ?_), by simp only [onTup, j4]; decide⟩
        rw [List.mem_singleton.mp hx]; exact ⟨.str _, (by decide : ("" : Str).length ≤ 1000)⟩
      · exact ⟨.dK j6, noT fun _ _ e e2 => (by cases e; rw [j6] at e2; cases e2), by simp only [onTup, j6]⟩
    rintro σ H10 ⟨v, ⟨a2, a3, a4, a5, a6, a8, a9, a10, rfl⟩, kd10, dc10, bd⟩
    have tb10 := tabs_kd ht hp kd10
    refine ⟨tb10, fun H11 e11 tb11 => ?_⟩
    refine ⟨_, rfl, fun d2 hd2 => ?_⟩
    have sd := K0.Same.new (.dK []) hd2
    have b1 := bd _ (Kt.ex (Ex.tr e11 (Ex.of sd)))
    have emp : Da (upd H11 d2 (.dK [])) (.ref d2) := .dK upd_same
    refine ⟨v, .ref d2, rfl, b1.da, b1.tu, emp, mkd_dk (ps := []) upd_same (by decide), mkd_dv (ps := []) upd_same (fun _ z => by cases z), fun z => ?_, fun _ H12 s12 => .inr ⟨rfl, rfl, _, rfl, if_pos_of (decide_eq_true rfl) ⟨by show 1 ≤ sizeLine; decide, fun t2 h2 d3 hd3 => ⟨upd_same, [(Sum.inr ("a" : Str), V.str "B")], rfl, by decide, ?_⟩⟩⟩⟩
    · rw [b1.no] at z
      cases z
    · have ez : Ex H10 H12 := Ex.tr e11 (Ex.of (K0.Same.tr sd s12))
      have y1 := K0.Same.new (.tup [.str "a"]) h2
      have y2 : Same (upd H12 t2 (.tup [.str "a"])) (upd (upd (upd H12 t2 (.tup [.str "a"])) d3 (.dK [])) d3 (.dK (mergeK [] [(Sum.inr ("a" : Str), V.str "B")]))) := fun b o e => by
        rw [upd_ne (ne_of_none e hd3), upd_ne (ne_of_none e hd3)]
        exact e
      have h3 : (upd (upd (upd H12 t2 (.tup [.str "a"])) d3 (.dK [])) d3 (.dK (mergeK [] [(Sum.inr ("a" : Str), V.str "B")]))) d3 = some (.dK (mkd [("a", "B")])) := upd_same
      have h4 := y2 _ _ (upd_same (H := H12) (a := t2) (o := .tup [.str "a"]))
      generalize (upd (upd (upd H12 t2 (.tup [.str "a"])) d3 (.dK [])) d3 (.dK (mergeK [] [(Sum.inr ("a" : Str), V.str "B")]))) = H13 at *
      dsimp only [tCall, tCons, tNil, List.cons_append, List.nil_append, List.append_nil]
      refine nm_call (zs := ["a"]) (b := false) h4 (by decide) (by decide) (.dK h3) (mkd_dk h3 (by decide)) (mkd_dv h3 (by decide)) (by simp only [onDct, h3]; decide) fun H14 s14 => ⟨_, _, rfl, rfl, ?_⟩
      have eA : Ex H10 H14 := Ex.tr ez (Ex.of (K0.Same.tr y1 (K0.Same.tr y2 s14)))
      exact k _ ((Kt.of kd10).tr (Kt.ex eA)) (dc10.ex eA) (tabs_same tb11 (K0.Same.tr sd (K0.Same.tr s12 (K0.Same.tr y1 (K0.Same.tr y2 s14)))))
end
end K0

/-! ## L1 -/
set_option maxRecDepth 100000
set_option maxHeartbeats 4000000
namespace K0
open PySem L2
abbrev sLaw : Stmt := top 65
abbrev nLa : List Str := ["_law_script", "_law_spot", "_law_dice_here", "_law_turn", "_law_some", "_law_told"]
theorem scLaw : FnScope nLa ["_law_script"] (defScope sLaw) := ⟨rfl, rfl, rfl, by decide +kernel, rfl, by decide +kernel, by decide +kernel⟩
def pds : List PyData := [.none, .bool true, .int 0, .str "7", .str "", .tuple [.int 4, .int 6], .list [.int 7], .dict [(.int 7, .int 7)], .tuple [.tuple [], .tuple [.str "a", .int 1]], .str "row r 1", .int ((10 : Int) ^ (40 : Int).toNat)]
def ixs : List PyData := [.none, .int 0, .int 3, .int ((10 : Int) ^ (30 : Int).toNat)]
def showB (pd ix : PyData) : Bool := pd.showable && (decide (pd.depth ≤ 20) && (decide (pd.shown.length ≤ 900) && ((dueD pd ix).showable && (decide ((dueD pd ix).depth ≤ 20) && (decide ((dueD pd ix).shown.length ≤ 1000) && (SeqAt.shaped (.str (("refused " : Str) ++ pd.shown)) && SeqAt.shaped (.str (("layered " : Str) ++ pd.shown))))))))
theorem show_all : pds.all (fun pd => ixs.all fun ix => showB pd ix) = true := by decide +kernel
theorem show_ok {pd ix : PyData} (h1 : pd ∈ pds) (h2 : ix ∈ ixs) : ShowOk pd ix := by
  have h := List.all_eq_true.mp (List.all_eq_true.mp show_all pd h1) ix h2
  unfold showB at h
  simp only [Bool.and_eq_true, decide_eq_true_eq] at h
  obtain ⟨a, b, c, d, e, f, g, i⟩ := h
  exact ⟨a, b, c, d, e, f, g, i⟩
theorem Kt.seq {K : PySem.W.Frag} {H H' : Hp} {p a : Addr} {xs : List V} (k : Kt p H H') (n : a ≠ p) (h : SqL K H a xs) : SqL K H' a xs :=
  h.imp (fun r => r.imp (fun q => k _ _ n q lst_t) fun ⟨o, q⟩ => ⟨o, k _ _ n q fun ps z => by cases z⟩) id
theorem sq_keep {K : PySem.W.Frag} {H : Hp} {p a : Addr} {xs : List V} (h : SqL K H a xs) (hp : H p = none) : ∀ H', Kt p H H' → SqL K H' a xs := by
  rcases h with h | h
  · have ne : a ≠ p := by
      rcases h with q | ⟨o, q⟩
      · exact ne_of_none q hp
      · exact ne_of_none q hp
    exact fun H' k => Kt.seq k ne (.inl h)
  · exact fun H' _ => .inr h
theorem isC_big {a : Int} (a0 : 0 ≤ a) (a1 : a < 1000) : isC (.int a) = true := isC_of a0 (Int.lt_trans a1 (by unfold big; decide +kernel))
structure TLa (K : PySem.W.Frag) (mg : Str → Option Value) (fD fJ fN fC fE fIc fIn fAn fIr fCo : Addr) : Prop where
  min : mg "min" = none
  fig : ∃ t, mg "MAX_FIGURES" = some (.int 60 t)
  let_ : ∃ t, mg "MAX_LETTERS" = some (.int 8 t)
  gD : mg "_law_dice" = some (.ref fD)
  kD : PySem.W.keepIn K (.ref fD) = true
  gJ : mg "_law_judged_right" = some (.ref fJ)
  kJ : PySem.W.keepIn K (.ref fJ) = true
  gN : mg "_law_namings_right" = some (.ref fN)
  kN : PySem.W.keepIn K (.ref fN) = true
  gC : mg "_law_coprime_right" = some (.ref fC)
  kC : PySem.W.keepIn K (.ref fC) = true
  gE : mg "_law_errors_right" = some (.ref fE)
  kE : PySem.W.keepIn K (.ref fE) = true
  gIc : mg "is_count" = some (.ref fIc)
  kIc : PySem.W.keepIn K (.ref fIc) = true
  gIn : mg "is_name" = some (.ref fIn)
  kIn : PySem.W.keepIn K (.ref fIn) = true
  gAn : mg "are_names" = some (.ref fAn)
  kAn : PySem.W.keepIn K (.ref fAn) = true
  gIr : mg "is_row" = some (.ref fIr)
  kIr : PySem.W.keepIn K (.ref fIr) = true
  gCo : mg "coprime" = some (.ref fCo)
  kCo : PySem.W.keepIn K (.ref fCo) = true
def spLaw (K : PySem.W.Frag) (T : List (Addr × Str)) : Sp := fun vs H Q _ => ∃ (a : Addr) (ns : List Int), vs = [.ref a] ∧ SqL K H a (ns.map V.int) ∧ LamX.Tabs T H ∧ ∀ H', Q (.bl true) H'
section
variable {P : Program} {w : World} {K : PySem.W.Frag} {mg : Str → Option Value} {base : Heap} {fR fP fD fJ fN fC fE fIc fIn fAn fIr fCo CN : Addr} {fdR fdP fdD fdJ fdN fdC fdE fdIc fdIn fdAn fdIr fdCo : FuncData} {T : List (Addr × Str)}
theorem ok_law {f : Addr} {fd : FuncData} (F : Fun K "law" "law" sLaw f fd) (L : TM K mg fR fP) (J : TLa K mg fD fJ fN fC fE fIc fIn fAn fIr fCo)
    (GD : FnOk P w K mg base CX0 1 fD fdD ["_law_script", "_law_spot"] (spDice K)) (bD : Binds K fdD ["_law_script", "_law_spot"] []) (Gp : FnOk P w K mg base CX0 2 fP fdP ["_law_dice_here", "_law_items"] spPick) (bP : Binds K fdP ["_law_dice_here", "_law_items"] [])
    (GJ : FnG P w K mg base CX0 4 fJ fdJ ["_law_dice_here"] spRight) (bJ : Binds K fdJ ["_law_dice_here"] []) (GN : FnG P w K mg base CX0 6 fN fdN ["_law_dice_here"] (spRun T)) (bN : Binds K fdN ["_law_dice_here"] [])
    (GC : FnG P w K mg base CX0 6 fC fdC ["_law_dice_here"] (spRun T)) (bC : Binds K fdC ["_law_dice_here"] []) (GE : FnG P w K mg base CX0 4 fE fdE ["_law_told", "_law_index"] (spErR K)) (bE : Binds K fdE ["_law_told", "_law_index"] [])
    (GIc : FnOk P w K mg base CX0 2 fIc fdIc ["value"] spIsCnt) (bIc : Binds K fdIc ["value"] []) (GIn : FnOk P w K mg base CX0 1 fIn fdIn ["value"] spIsNam) (bIn : Binds K fdIn ["value"] [])
    (GAn : FnOk P w K mg base CX0 2 fAn fdAn ["value"] spAreNam) (bAn : Binds K fdAn ["value"] []) (GIr : FnOk P w K mg base CX0 3 fIr fdIr ["value"] spIsRow) (bIr : Binds K fdIr ["value"] [])
    (GCo : FnOk P w K mg base (L2.CX P w) 3 fCo fdCo ["one", "other"] (spCop CN)) (bCo : Binds K fdCo ["one", "other"] []) : FnG P w K mg base CX0 7 f fd ["_law_script"] (spLaw K T) := by
  refine gfn F scLaw (fun vs H Q E h => ?_) (fun cdv A outer s H vs Q E hr hgd h => ?_)
  · obtain ⟨a, ns, rfl, _⟩ := h
    rfl
  · obtain ⟨a, ns, rfl, hS, ht, k⟩ := h
    obtain ⟨tf, hfig⟩ := J.fig
    obtain ⟨tl, hlet⟩ := J.let_
    have hr1 : Room 1 _ := hr.mono (by decide)
    have hr2 : Room 2 _ := hr.mono (by decide)
    have hr3 : Room 3 _ := hr.mono (by decide)
    have hr4 : Room 4 _ := hr.mono (by decide)
    refine ⟨_, PSs.nox (C8.pss_cut (ps_for PassesOwn.never rfl (pi_range1 (by rfl) L.range (pa_cons (pe_callB (call_max2 rfl) (by rfl) L.max (by decide +kernel) (pa_cons pe_int (pa_cons (pe_callB (call_min2 rfl) (by rfl) J.min (by decide +kernel) (pa_cons pe_int (pa_cons (pe_callB call_len_seq (by rfl) L.len PySem.boot_len (pa_cons (pv 0) pa_nil)) pa_nil))) pa_nil))) pa_nil)) (pg_name (i := 1) scLaw.nd rfl (Or.inl rfl))
        (pss_cons (ps_set (i := 2) scLaw.nd rfl (Or.inl rfl) (pe_call GD hr1 (by rfl) J.gD J.kD bD .nil pass0 (pa_cons (pv 0) (pa_cons (pv 1) pa_nil))))
        (C8.pss_cut (ps_for PassesOwn.never rfl (pi_range1 (by rfl) L.range (pa_cons pe_int pa_nil)) (pg_name (i := 3) scLaw.nd rfl (Or.inl rfl))
            (pss_one (ps_if (pw_or (pt_not (pt_val (pe_callG GJ hr4 hgd (by rfl) J.gJ J.kJ bJ .nil pass0 (pa_cons (pv 2) pa_nil)))) (pw_or (pt_not (pt_val (pe_callG GN hr hgd (by rfl) J.gN J.kN bN .nil pass0 (pa_cons (pv 2) pa_nil)))) (pw_or1 (pt_not (pt_val (pe_callG GC hr hgd (by rfl) J.gC J.kC bC .nil pass0 (pa_cons (pv 2) pa_nil))))))).pt (pss_one (ps_ret pe_bl)) pss_nil)))
        (C8.pss_cut (ps_set (i := 4) scLaw.nd rfl (Or.inl rfl) (pe_lst (pa_cons pe_non (pa_cons pe_bl (pa_cons pe_int (pa_cons pe_str (pa_cons pe_str (pa_cons (pe_tup (pa_cons pe_int (pa_cons pe_int pa_nil))) (pa_cons (pe_lst (pa_cons pe_int pa_nil)) (pa_cons (pe_disp (pps_cons pe_int pe_int pps_nil) rfl rfl (by decide) (by decide))
            (pa_cons (pe_tup (pa_cons (pe_tup pa_nil) (pa_cons (pe_tup (pa_cons pe_str (pa_cons pe_int pa_nil))) pa_nil))) (pa_cons pe_str (pa_cons (pe_op op_pow pe_int pe_int) pa_nil)))))))))))))
        (pss_one (ps_if (pt_not (pt_val (pe_callG GE hr4 hgd (by rfl) J.gE J.kE bE .nil pass0 (pa_cons (pe_call Gp hr2 (by rfl) L.gP L.kP bP .nil pass0 (pa_cons (pv 2) (pa_cons (pv 4) pa_nil)))
            (pa_cons (pe_call Gp hr2 (by rfl) L.gP L.kP bP .nil pass0 (pa_cons (pv 2) (pa_cons (pe_lst (pa_cons pe_non (pa_cons pe_int (pa_cons pe_int (pa_cons (pe_op op_pow pe_int pe_int) pa_nil))))) pa_nil))) pa_nil))))) (pss_one (ps_ret pe_bl)) pss_nil))))))
      (C8.pss_cut (ps_set (i := 5) scLaw.nd rfl (Or.inl rfl) (pe_lst (pa_cons (pe_call GIc hr2 (by rfl) J.gIc J.kIc bIc .nil pass0 (pa_cons pe_int pa_nil)) (pa_cons (pe_call GIn hr1 (by rfl) J.gIn J.kIn bIn .nil pass0 (pa_cons pe_str pa_nil)) (pa_cons (pe_call GIn hr1 (by rfl) J.gIn J.kIn bIn .nil pass0 (pa_cons pe_str pa_nil))
          (pa_cons (pe_call GAn hr2 (by rfl) J.gAn J.kAn bAn .nil pass0 (pa_cons (pe_tup pa_nil) pa_nil)) (pa_cons (pe_call GAn hr2 (by rfl) J.gAn J.kAn bAn .nil pass0 (pa_cons (pe_tup (pa_cons pe_str (pa_cons pe_str pa_nil))) pa_nil)) (pa_cons (pe_call GIr hr3 (by rfl) J.gIr J.kIr bIr .nil pass0 (pa_cons (pe_op op_repT (pe_tup (pa_cons pe_int pa_nil)) pe_int) pa_nil)) pa_nil))))))))
      (C8.pss_cut (ps_set (i := 5) scLaw.nd rfl (Or.inl rfl) (pe_op op_cat (pv 5) (pe_lst (pa_cons (pe_glob (v := .int 8) (by rfl) hlet ⟨tl, rfl⟩) (pa_cons (pe_glob (v := .int 60) (by rfl) hfig ⟨tf, rfl⟩) (pa_cons (pe_call (E := fun _ _ _ => False) GCo hr3 (by rfl) J.gCo J.kCo bCo .nil passF (pa_cons pe_int (pa_cons pe_int pa_nil))) (pa_cons (pe_call (E := fun _ _ _ => False) GCo hr3 (by rfl) J.gCo J.kCo bCo .nil passF (pa_cons pe_int (pa_cons pe_int pa_nil))) pa_nil)))))))
      (pss_one (ps_ret (pe_cmpR (op_eqD hr.units) (pv 5) (pe_lst (pa_cons pe_bl (pa_cons pe_bl (pa_cons pe_bl (pa_cons pe_bl (pa_cons pe_bl (pa_cons pe_bl (pa_cons pe_int (pa_cons pe_int (pa_cons (pe_tup (pa_cons pe_int (pa_cons pe_int pa_nil))) (pa_cons (pe_tup (pa_cons pe_int (pa_cons pe_int pa_nil))) pa_nil))))))))))) (nomark _))))))), ?_⟩
    refine ⟨fun σ H' => ∃ b1 b2 b3 b4 b5 : Option V, σ = [some (.ref a), b1, b2, b3, b4, b5], ?_, ?_⟩
    · refine ⟨_, rfl, a, _, rfl, .inl hS, _, _, rfl, _, _, rfl, ?_⟩
      refine ⟨_, rfl, ?_, ?_, for_range (n := _) (fun i σ H' => (∃ b1 b2 b3 b4 b5 : Option V, σ = [some (.ref a), b1, b2, b3, b4, b5]) ∧ SqL K H' a (ns.map V.int) ∧ LamX.Tabs T H') ⟨⟨_, _, _, _, _, rfl⟩, hS, ht⟩ ?_ ?_⟩
      · repeat' split
        all_goals omega
      · repeat' split
        all_goals omega
      · rintro i σ H1 hi ⟨⟨b1, b2, b3, b4, b5, rfl⟩, hS1, tb1⟩
        refine ⟨_, rfl, _, rfl, a, ns, _, rfl, hS1, by show (0 : Int) ≤ 0 + (i : Nat); omega, fun H2 p s2 hp2 dc2 => ?_⟩
        have hp1 : H1 p = none := hp2
        have keep : ∀ H', Kt p H1 H' → SqL K H' a (ns.map V.int) := sq_keep hS1 hp1
        have k2 : Kt p H1 H2 := Kt.ex (Ex.of s2)
        have tb2 := tabs_same tb1 s2
        refine ⟨fun σ H' => (∃ b1 b3 b4 b5 : Option V, σ = [some (.ref a), b1, some (.ref p), b3, b4, b5]) ∧ Kt p H1 H' ∧ DiceAt H' p ∧ LamX.Tabs T H', ?_, ?_⟩
        · refine ⟨2, rfl, by decide, by decide, for_range (n := 2) (fun i σ H' => (∃ b1 b3 b4 b5 : Option V, σ = [some (.ref a), b1, some (.ref p), b3, b4, b5]) ∧ Kt p H1 H' ∧ DiceAt H' p ∧ LamX.Tabs T H') ⟨⟨_, _, _, _, rfl⟩, k2, dc2, tb2⟩ ?_ ?_⟩
          · rintro j σ H3 hj ⟨⟨c1, c3, c4, c5, rfl⟩, k3, dc3, tb3⟩
            refine ⟨_, rfl, p, rfl, dc3, fun H4 kd4 dc4 => ⟨_, rfl, if_neg_of rfl ?_⟩⟩
            have tb4 := tabs_kd tb3 dc3 kd4
            refine ⟨_, rfl, p, rfl, dc4, tb4, fun H5 k5 dc5 tb5 => ⟨_, rfl, if_neg_of rfl ?_⟩⟩
            refine ⟨_, rfl, p, rfl, dc5, tb5, fun H6 k6 dc6 tb6 => ⟨_, rfl, if_neg_of rfl ?_⟩⟩
            exact ⟨⟨_, _, _, _, rfl⟩, k3.tr ((Kt.of kd4).tr (k5.tr k6)), dc6, tb6⟩
          · rintro σ H3 ⟨⟨c1, c3, c4, c5, rfl⟩, k3, dc3, tb3⟩
            exact ⟨⟨_, _, _, _, rfl⟩, k3, dc3, tb3⟩
        rintro σ H3 ⟨⟨c1, c3, c4, c5, rfl⟩, k3, dc3, tb3⟩
        -- the values to be kept
        refine ⟨fun σ H' => ∃ (l : Addr) (xs : List V), (∃ b1 b3 b5 : Option V, σ = [some (.ref a), b1, some (.ref p), b3, some (.ref l), b5]) ∧ Same H3 H' ∧ l ≠ p ∧ H' l = some (.lst xs) ∧ xs.length = 11 ∧ ∀ v ∈ xs, ∃ pd, pd ∈ pds ∧ ∀ H2, Kt p H' H2 → Tk K H2 v pd, ?_, ?_⟩
        · refine ⟨by show 2 ≤ sizeLine; decide, fun t1 h1 => ⟨by show 1 ≤ sizeLine; decide, fun t2 h2 t3 h3 => ⟨upd_same, [(Sum.inl 7, V.int 7)], rfl, by decide, ?_⟩⟩⟩
          have z1 := K0.Same.new (.tup [.int 4, .int 6]) h1
          have z2 := K0.Same.new (.lst [.int 7]) h2
          have z3 : Same (upd (upd H3 t1 (.tup [.int 4, .int 6])) t2 (.lst [.int 7])) (upd (upd (upd (upd H3 t1 (.tup [.int 4, .int 6])) t2 (.lst [.int 7])) t3 (.dK [])) t3 (.dK (mergeK [] [(Sum.inl 7, V.int 7)]))) := fun b o e => by
            rw [upd_ne (ne_of_none e h3), upd_ne (ne_of_none e h3)]
            exact e
          have g3 : (upd (upd (upd (upd H3 t1 (.tup [.int 4, .int 6])) t2 (.lst [.int 7])) t3 (.dK [])) t3 (.dK (mergeK [] [(Sum.inl 7, V.int 7)]))) t3 = some (.dK [(Sum.inl 7, V.int 7)]) := upd_same
          have z13 := K0.Same.tr z1 (K0.Same.tr z2 z3)
          have g1 := (K0.Same.tr z2 z3) _ _ (upd_same (H := H3) (a := t1) (o := .tup [.int 4, .int 6]))
          have g2 := z3 _ _ (upd_same (H := upd H3 t1 (.tup [.int 4, .int 6])) (a := t2) (o := .lst [.int 7]))
          have n1 := dc3.ne h1
          have n2 := (dc3.same z1).ne h2
          have n3 := (dc3.same (K0.Same.tr z1 z2)).ne h3
          have dcA := dc3.same z13
          clear z1 z2 z3 h1 h2 h3
          generalize (upd (upd (upd (upd H3 t1 (.tup [.int 4, .int 6])) t2 (.lst [.int 7])) t3 (.dK [])) t3 (.dK (mergeK [] [(Sum.inl 7, V.int 7)]))) = HA at *
          refine ⟨by show 0 ≤ sizeLine; decide, fun t4 h4 => ⟨by show 2 ≤ sizeLine; decide, fun t5 h5 => ⟨by show 2 ≤ sizeLine; decide, fun t6 h6 => ⟨_, _, rfl, rfl, ⟨by decide, by decide, by decide⟩, by show 11 ≤ sizeLine; decide, fun l hl => ?_⟩⟩⟩⟩
          have z4 := K0.Same.new (.tup []) h4
          have z5 := K0.Same.new (.tup [.str "a", .int 1]) h5
          have z6 := K0.Same.new (.tup [.ref t4, .ref t5]) h6
          have z7 := K0.Same.new (.lst [.non, .bl true, .int 0, .str "7", .str "", .ref t1, .ref t2, .ref t3, .ref t6, .str "row r 1", .int ((10 : Int) ^ (40 : Int).toNat)]) hl
          have y6 := K0.Same.tr z6 z7
          have y5 := K0.Same.tr z5 y6
          have y4 := K0.Same.tr z4 y5
          have n4 := dcA.ne h4
          have n5 := (dcA.same z4).ne h5
          have n6 := (dcA.same (K0.Same.tr z4 z5)).ne h6
          have n7 := (dcA.same (K0.Same.tr z4 (K0.Same.tr z5 z6))).ne hl
          refine ⟨l, _, ⟨_, _, _, rfl⟩, K0.Same.tr z13 y4, n7, upd_same, rfl, fun v hv => ?_⟩
          have m1 := y4 _ _ g1
          have m2 := y4 _ _ g2
          have m3 := y4 _ _ g3
          have m4 := y5 _ _ (upd_same (H := HA) (a := t4) (o := .tup []))
          have m5 := y6 _ _ (upd_same (H := upd HA t4 (.tup [])) (a := t5) (o := .tup [.str "a", .int 1]))
          have m6 := z7 _ _ (upd_same (H := upd (upd HA t4 (.tup [])) t5 (.tup [.str "a", .int 1])) (a := t6) (o := .tup [.ref t4, .ref t5]))
          simp only [List.mem_cons, List.not_mem_nil, or_false] at hv
          rcases hv with e | e | e | e | e | e | e | e | e | e | e <;> subst e
          · exact ⟨.none, by simp [pds], fun H2 _ => .dp .non⟩
          · exact ⟨.bool true, by simp [pds], fun H2 _ => .dp (.bl _)⟩
          · exact ⟨.int 0, by simp [pds], fun H2 _ => .dp (.int _)⟩
          · exact ⟨.str "7", by simp [pds], fun H2 _ => .dp (.str _)⟩
          · exact ⟨.str "", by simp [pds], fun H2 _ => .dp (.str _)⟩
          · exact ⟨.tuple [.int 4, .int 6], by simp [pds], fun H2 kt => .dp (.tup (SqT.of (kt _ _ n1 m1 tup_t)) (.cons (.int _) (.cons (.int _) .nil)))⟩
          · exact ⟨.list [.int 7], by simp [pds], fun H2 kt => .dp (.lst (SqL.of (kt _ _ n2 m2 lst_t)) (.cons (.int _) .nil))⟩
          · exact ⟨.dict [(.int 7, .int 7)], by simp [pds], fun H2 kt => .sc (.d7 (kt _ _ n3 m3 dK_t))⟩
          · exact ⟨.tuple [.tuple [], .tuple [.str "a", .int 1]], by simp [pds], fun H2 kt => .dp (.tup (SqT.of (kt _ _ n6 m6 tup_t)) (.cons (.tup (SqT.of (kt _ _ n4 m4 tup_t)) .nil) (.cons (.tup (SqT.of (kt _ _ n5 m5 tup_t)) (.cons (.str _) (.cons (.int _) .nil))) .nil)))⟩
          · exact ⟨.str "row r 1", by simp [pds], fun H2 _ => .dp (.str _)⟩
          · exact ⟨.int ((10 : Int) ^ (40 : Int).toNat), by simp [pds], fun H2 _ => .dp (.int _)⟩
        rintro σ H4 ⟨l, xs, ⟨d1, d3, d5, rfl⟩, s4, nlp, hl, hlen, hxs⟩
        have dc4 := dc3.same s4
        refine ⟨_, rfl, _, rfl, p, l, xs, rfl, dc4, nlp, hl, by omega, by omega, fun v H5 hv kd5 dc5 => ?_⟩
        refine ⟨_, rfl, _, _, rfl, rfl, ⟨by decide, by decide, by decide⟩, by show 4 ≤ sizeLine; decide, fun l2 hl2 => ?_⟩
        have z2 := K0.Same.new (.lst [.non, .int 0, .int 3, .int ((10 : Int) ^ (30 : Int).toNat)]) hl2
        refine ⟨p, l2, _, rfl, dc5.same z2, dc5.ne hl2, upd_same, by simp, by simp, fun v2 H6 hv2 kd6 dc6 => ?_⟩
        obtain ⟨pd, hpd, htk⟩ := hxs v hv
        have kk : Kt p H4 H6 := (Kt.of kd5).tr ((Kt.ex (Ex.of z2)).tr (Kt.of kd6))
        have hix : ∃ ix, ix ∈ ixs ∧ ∀ H', Dp K H' v2 ix ∧ Sc H' v2 ix := by
          simp only [List.mem_cons, List.not_mem_nil, or_false] at hv2
          rcases hv2 with e | e | e | e <;> subst e
          · exact ⟨.none, by simp [ixs], fun _ => ⟨.non, .non⟩⟩
          · exact ⟨.int 0, by simp [ixs], fun _ => ⟨.int _, .int _⟩⟩
          · exact ⟨.int 3, by simp [ixs], fun _ => ⟨.int _, .int _⟩⟩
          · exact ⟨.int ((10 : Int) ^ (30 : Int).toNat), by simp [ixs], fun _ => ⟨.int _, .int _⟩⟩
        obtain ⟨ix, hi1, hi2⟩ := hix
        refine ⟨v, v2, pd, ix, rfl, htk _ kk, hi2, show_ok hpd hi1, fun H7 s7 => ⟨_, rfl, if_neg_of rfl ?_⟩⟩
        have kE : Kt p H1 H7 := k3.tr ((Kt.ex (Ex.of s4)).tr (kk.tr (Kt.ex (Ex.of s7))))
        refine ⟨⟨_, _, _, _, _, rfl⟩, keep H7 kE, ?_⟩
        exact tabs_same (tabs_kd (tabs_same (tabs_kd (tabs_same tb3 s4) dc4 kd5) z2) (dc5.same z2) kd6) s7
      · rintro σ H1 ⟨⟨b1, b2, b3, b4, b5, rfl⟩, _, _⟩
        exact ⟨_, _, _, _, _, rfl⟩
    rintro σ H1 ⟨b1, b2, b3, b4, b5, rfl⟩
    refine ⟨fun σ H' => ∃ (l : Addr), (∃ b1 b2 b3 b4 : Option V, σ = [some (.ref a), b1, b2, b3, b4, some (.ref l)]) ∧ H' l = some (.lst [.bl true, .bl true, .bl false, .bl true, .bl true, .bl false]), ?_, ?_⟩
    · refine ⟨.int 0, rfl, .int _, .str "abcdefgh", rfl, .str _, (by decide : ("abcdefgh" : Str).length ≤ 1000), fun H2 s2 => ⟨.str "abcdefghi", rfl, .str _, (by decide : ("abcdefghi" : Str).length ≤ 1000), fun H3 s3 => ?_⟩⟩
      have tuOf : ∀ {H' : Hp} {t : Addr} {xs : List V}, H' t = some (.tup xs) → xs.length ≤ 1000 → (∀ x ∈ xs, Da H' x ∧ Sz x) → Tu H' (.ref t) := fun e h1 h2 b ys e1 e2 => by
        cases e1
        rw [e] at e2
        cases e2
        exact ⟨h1, h2⟩
      refine ⟨by show 0 ≤ sizeLine; decide, fun t1 h1 => ⟨.ref t1, rfl, .tup upd_same, tuOf upd_same (by decide) (fun x hx => by cases hx), fun H4 s4 => ?_⟩⟩
      refine ⟨by show 2 ≤ sizeLine; decide, fun t2 h2 => ⟨.ref t2, rfl, .tup upd_same, tuOf upd_same (by show 2 ≤ 1000; decide) (fun x hx => ?_), fun H5 s5 => ?_⟩⟩
      · rcases List.mem_cons.mp hx with e | e
        · rw [e]; exact ⟨.str _, (by decide : ("a" : Str).length ≤ 1000)⟩
        · rw [List.mem_singleton.mp e]; exact ⟨.str _, (by decide : ("a" : Str).length ≤ 1000)⟩
      refine ⟨by show 1 ≤ sizeLine; decide, fun t3 h3 => ⟨t3, 9, [.int 0], rfl, rfl, SqT.of upd_same, by simp, by decide, by decide, by show 1 ≤ 1000; decide, fun t4 h4 => ⟨.ref t4, rfl, .tup upd_same, tuOf upd_same (by decide) (fun x hx => ?_), fun H6 s6 => ?_⟩⟩⟩
      · have e : x = V.int 0 := by
          simp only [List.mem_flatten, List.mem_replicate] at hx
          obtain ⟨q, ⟨_, rfl⟩, hq⟩ := hx
          exact List.mem_singleton.mp hq
        rw [e]
        exact ⟨.int _, True.intro⟩
      refine ⟨by show 6 ≤ sizeLine; decide, fun l hl => ⟨l, ⟨_, _, _, _, rfl⟩, ?_⟩⟩
      have e1 : isC (.int 0) = true := isC_big (Int.le_refl 0) (by decide)
      have e2 : nameV (.str "abcdefgh") = true := by decide
      have e3 : nameV (.str "abcdefghi") = false := by decide
      have e4 : ∀ {H' : Hp} {t : Addr}, onTup (upd H' t (.tup [])) (fun xs => xs.all nameV) (.ref t) = true := by
        intro H' t
        simp only [onTup, upd_same]
        rfl
      have e5 : ∀ {H' : Hp} {t : Addr}, onTup (upd H' t (.tup [.str "a", .str "a"])) (fun xs => xs.all nameV) (.ref t) = true := by
        intro H' t
        simp only [onTup, upd_same]
        decide
      have e6 : ∀ {H' : Hp} {t : Addr}, onTup (upd H' t (.tup (List.replicate (9 : Int).toNat [V.int 0]).flatten)) rowL (.ref t) = false := by
        intro H' t
        simp only [onTup, upd_same]
        show ((isI (.int 9) && (decide ((1 : Int) ≤ 9) && decide ((9 : Int) ≤ 8))) && _) = false
        rw [show (decide ((1 : Int) ≤ 9) && decide ((9 : Int) ≤ 8)) = false by decide, Bool.and_false, Bool.false_and]
      rw [upd_same, e1, e2, e3, e4, e5, e6]
    rintro σ H2 ⟨l, ⟨b1, b2, b3, b4, rfl⟩, hl⟩
    refine ⟨fun σ H' => ∃ (l t1 t2 : Addr), (∃ b1 b2 b3 b4 : Option V, σ = [some (.ref a), b1, b2, b3, b4, some (.ref l)]) ∧ H' l = some (.lst [.bl true, .bl true, .bl false, .bl true, .bl true, .bl false, .int 8, .int 60, .ref t1, .ref t2]) ∧ H' t1 = some (.tup [.int 3, .int 2]) ∧ H' t2 = some (.tup [.int 0, .int 1]), ?_, ?_⟩
    · have i6 := isC_big (a := 6) (by decide) (by decide)
      have i4 := isC_big (a := 4) (by decide) (by decide)
      have i0 := isC_big (a := 0) (by decide) (by decide)
      have i9 := isC_big (a := 9) (by decide) (by decide)
      refine ⟨_, rfl, .int 6, .int 4, rfl, .int _, .int _, fun z => ?_, fun _ z => ?_, fun x y e1 e2 _ _ _ _ t1 h1 => ?_⟩
      · rw [i6] at z
        cases z
      · rcases z with z | z
        · rw [i4] at z
          cases z
        · cases z
      cases e1
      cases e2
      refine ⟨.int 0, .int 9, rfl, .int _, .int _, fun z => ?_, fun _ z => ?_, fun x y e1 e2 _ _ _ _ t2 h2 => ?_⟩
      · rw [i0] at z
        cases z
      · rcases z with z | z
        · rw [i9] at z
          cases z
        · cases z
      cases e1
      cases e2
      refine ⟨by show 4 ≤ sizeLine; decide, fun m hm => ?_⟩
      have z1 := K0.Same.new (.tup [.int 3, .int 2]) h1
      have z2 := K0.Same.new (H := upd H2 t1 (.tup [.int 3, .int 2])) (.tup [.int 0, .int 1]) h2
      have z3 := K0.Same.new (H := upd (upd H2 t1 (.tup [.int 3, .int 2])) t2 (.tup [.int 0, .int 1])) (.lst [.int 8, .int 60, .ref t1, .ref t2]) hm
      refine ⟨l, m, _, _, rfl, rfl, (K0.Same.tr z1 (K0.Same.tr z2 z3)) _ _ hl, upd_same, by show 6 + 4 ≤ sizeLine; decide, fun l2 hl2 => ?_⟩
      have z4 := K0.Same.new (H := upd (upd (upd H2 t1 (.tup [.int 3, .int 2])) t2 (.tup [.int 0, .int 1])) m (.lst [.int 8, .int 60, .ref t1, .ref t2])) (.lst ([V.bl true, .bl true, .bl false, .bl true, .bl true, .bl false] ++ [.int 8, .int 60, .ref t1, .ref t2])) hl2
      exact ⟨l2, t1, t2, ⟨_, _, _, _, rfl⟩, upd_same, (K0.Same.tr z2 (K0.Same.tr z3 z4)) _ _ upd_same, (K0.Same.tr z3 z4) _ _ upd_same⟩
    rintro σ H3 ⟨l2, t1, t2, ⟨b1, b2, b3, b4, rfl⟩, hl2, ht1, ht2⟩
    refine ⟨_, rfl, by show 2 ≤ sizeLine; decide, fun t3 h3 => ⟨by show 2 ≤ sizeLine; decide, fun t4 h4 => ⟨by show 10 ≤ sizeLine; decide, fun q hq => ?_⟩⟩⟩
    have z3 := K0.Same.new (.tup [.int 3, .int 2]) h3
    have z4 := K0.Same.new (.tup [.int 0, .int 1]) h4
    have z5 := K0.Same.new (.lst [.bl true, .bl true, .bl false, .bl true, .bl true, .bl false, .int 8, .int 60, .ref t3, .ref t4]) hq
    have zz := K0.Same.tr z3 (K0.Same.tr z4 z5)
    refine ⟨.list [.bool true, .bool true, .bool false, .bool true, .bool true, .bool false, .int 8, .int 60, .tuple [.int 3, .int 2], .tuple [.int 0, .int 1]], .list [.bool true, .bool true, .bool false, .bool true, .bool true, .bool false, .int 8, .int 60, .tuple [.int 3, .int 2], .tuple [.int 0, .int 1]],
      .lst (SqL.of (zz _ _ hl2)) (.cons (.bl _) (.cons (.bl _) (.cons (.bl _) (.cons (.bl _) (.cons (.bl _) (.cons (.bl _) (.cons (.int _) (.cons (.int _) (.cons (.tup (SqT.of (zz _ _ ht1)) (.cons (.int _) (.cons (.int _) .nil))) (.cons (.tup (SqT.of (zz _ _ ht2)) (.cons (.int _) (.cons (.int _) .nil))) .nil)))))))))),
      .lst (SqL.of upd_same) (.cons (.bl _) (.cons (.bl _) (.cons (.bl _) (.cons (.bl _) (.cons (.bl _) (.cons (.bl _) (.cons (.int _) (.cons (.int _) (.cons (.tup (SqT.of ((K0.Same.tr z4 z5) _ _ upd_same)) (.cons (.int _) (.cons (.int _) .nil))) (.cons (.tup (SqT.of (z5 _ _ upd_same)) (.cons (.int _) (.cons (.int _) .nil))) .nil)))))))))), rfl, rfl, ?_⟩
    exact k _
end
end K0

/-! ## E1 -/
set_option maxRecDepth 100000
set_option maxHeartbeats 2000000
namespace K0
open PySem PySem.Spec PyProof.Rows L2
/-! ### the end: the law called where nothing is being shown, with tables of code objects -/
/-- the script's list and the tables, all that is tracked at the start -/
def startH (K : PySem.W.Frag) (ts : List Addr) (a : Addr) (oS : Obj) (xs : List V) : Hp := fun b => if b ∈ ts then some (.tbl #[]) else if b = a ∧ (K.lookup a).isNone = true then some (.frz oS (.lst xs)) else none
section
variable {P : Program} {w : World} {K : PySem.W.Frag} {mg mb : Str → Option Value} {a fa : Addr} {ts : List Addr} {s : Shared} {us : List Value} {ns : List Int}
abbrev lstO (us : List Value) : Obj := { cls := .type "list", data := .seq us.toArray }
theorem startH_tab {oS : Obj} {xs : List V} {b : Addr} (h : b ∈ ts) : startH K ts a oS xs b = some (.tbl #[]) := if_pos h
theorem startH_cases {oS : Obj} {xs : List V} {b : Addr} {o : HO} (h : startH K ts a oS xs b = some o) : (b ∈ ts ∧ o = .tbl #[]) ∨ (b = a ∧ K.lookup a = none ∧ o = .frz oS (.lst xs)) := by
  unfold startH at h
  split at h
  · rename_i h1
    cases h
    exact .inl ⟨h1, rfl⟩
  · split at h
    · rename_i h2
      cases h
      exact .inr ⟨h2.1, Option.isNone_iff_eq_none.mp h2.2, rfl⟩
    · cases h
theorem startH_no {oS : Obj} {xs : List V} {b : Addr} (h1 : b ∉ ts) (h2 : b = a → K.lookup a ≠ none) : startH K ts a oS xs b = none := by
  cases e : startH K ts a oS xs b with
  | none => rfl
  | some o =>
    rcases startH_cases e with ⟨z, _⟩ | ⟨z, y, _⟩
    · exact absurd z h1
    · exact absurd y (h2 z)
/-- what holds of the world before the call -/
structure Fore (K : PySem.W.Frag) (mg mb : Str → Option Value) (ts : List Addr) (a : Addr) (us : List Value) (ns : List Int) (s : Shared) : Prop where
  k : K.In s.heap
  g : s.heap.Ns mainGlobals mg
  b : s.heap.Ns builtinsNs mb
  bb : ∀ x : Str, x ≠ "__name__" → mb x = bootBuiltins x
  lim : s.heap.NoLimit
  gens : s.gens = #[]
  tab : ∀ q ∈ ts, s.heap.get? q = some { cls := .none, data := .fields #[] }
  noK : ∀ q ∈ ts, K.lookup q = none
  bm : ∃ (bm : Addr) (ob : Obj), mg "__builtins__" = some (.ref bm) ∧ bm ≠ builtinsNs ∧ s.heap.get? bm = some ob ∧ ob.cls = .type "module" ∧ ob.dict = some builtinsNs ∧ ob.data = .plain
  scr : s.heap.get? a = some (lstO us)
  nums : IntsAre us ns
  len : ns.length ≤ sizeLine
theorem Fore.aT (F : Fore K mg mb ts a us ns s) : a ∉ ts := fun z => by
  have q := F.tab a z
  rw [F.scr] at q
  have z2 : (Value.type "list") = Value.none := congrArg Obj.cls (Option.some.inj q)
  cases z2
theorem Fore.off (F : Fore K mg mb ts a us ns s) {b : Addr} {o : Obj} (e : s.heap.get? b = some o) (h : o.cls ≠ .none) (h2 : o.cls ≠ .type "list") : startH K ts a (lstO us) (ns.map V.int) b = none :=
  startH_no (fun z => by
    rw [F.tab b z] at e
    cases e
    exact h rfl) fun z => by
    rw [z, F.scr] at e
    cases e
    exact absurd rfl h2
theorem Fore.offD (F : Fore K mg mb ts a us ns s) {b : Addr} {o : Obj} (e : s.heap.get? b = some o) (h : o.data ≠ .fields #[]) (h2 : ∀ vs n, o.data ≠ .seq vs n) : startH K ts a (lstO us) (ns.map V.int) b = none :=
  startH_no (fun z => by
    rw [F.tab b z] at e
    cases e
    exact h rfl) fun z => by
    rw [z, F.scr] at e
    cases e
    exact absurd rfl (h2 _ _)
/-- the part of the heap that no one tracks -/
abbrev foreB (K : PySem.W.Frag) (ts : List Addr) (a : Addr) (us : List Value) (ns : List Int) (s : Shared) : Heap := hidT s.heap (startH K ts a (lstO us) (ns.map V.int))
theorem Fore.nsB (F : Fore K mg mb ts a us ns s) {b : Addr} {m : Str → Option Value} (h : s.heap.Ns b m) : (foreB K ts a us ns s).Ns b m := by
  obtain ⟨o, es, ep, e, d, r⟩ := h
  refine ⟨o, es, ep, hidT_get e (F.offD e (fun z => ?_) fun vs n z => ?_), d, r⟩
  · rw [d] at z
    cases z
  · rw [d] at z
    cases z
theorem Fore.kB (F : Fore K mg mb ts a us ns s) : K.In (foreB K ts a us ns s) := fun b o e => hidT_get (F.k b o e) (startH_no (fun z => by
  rw [F.noK b z] at e
  cases e) fun z y => by
    rw [z, y] at e
    cases e)
theorem Fore.modB (F : Fore K mg mb ts a us ns s) : L2.Mod K mg (foreB K ts a us ns s) := ⟨F.kB, F.nsB F.g, ⟨mb, F.nsB F.b, F.bb⟩, by
  obtain ⟨mc, h1, h2⟩ := F.lim
  exact ⟨mc, F.nsB h1, h2⟩⟩
theorem Fore.tabB (F : Fore K mg mb ts a us ns s) {c q : Addr} (hq : q ∈ ts) (C : PySem.W.CodeHd s.heap c q) : LamX.TabB (foreB K ts a us ns s) mg c q := by
  have hT := F.tab q hq
  refine ⟨?_, ?_, fun z => ?_⟩
  · obtain ⟨o, vs, file, tf, flags, tg, inF, text, tt, e1, r1, r2, r3, rest⟩ := C
    refine ⟨o, vs, file, tf, flags, tg, inF, text, tt, hidT_get e1 (F.offD e1 (fun z => ?_) fun us n z => ?_), r1, r2, r3, rest⟩
    · rw [r2] at z
      cases z
      simp at r3
    · rw [r2] at z
      cases z
  · obtain ⟨bm, ob, b1, b2, b3, b4, b5, b6⟩ := F.bm
    have pl : ob.data ≠ .fields #[] := fun z => by
      rw [b6] at z
      cases z
    refine ⟨bm, ob, b1, b2, fun z => ?_, fun z => ?_, hidT_get b3 (F.offD b3 pl fun us n z => ?_), b4, b5, b6⟩
    · obtain ⟨o, es, ep, e, hd, _⟩ := F.g
      rw [z, e] at b3
      cases b3
      rw [hd] at b6
      cases b6
    · rw [z, hT] at b3
      cases b3
      cases b6
    · rw [b6] at z
      cases z
  · obtain ⟨o, es, ep, e, hd, _⟩ := F.g
    rw [z, hT] at e
    cases e
    cases hd
theorem Fore.hok (F : Fore K mg mb ts a us ns s) : HOk P w (startH K ts a (lstO us) (ns.map V.int)) s.heap := fun b o e => by
  rcases startH_cases e with ⟨z, rfl⟩ | ⟨z, _, rfl⟩
  · exact F.tab b z
  · rw [z]
    refine ⟨F.scr, by rw [List.length_map]; exact F.len, us, _, vals_ints F.nums, F.scr⟩
theorem Fore.seqS (F : Fore K mg mb ts a us ns s) : SqL K (startH K ts a (lstO us) (ns.map V.int)) a (ns.map V.int) := by
  cases hk : K.lookup a with
  | none =>
    refine .inl (.inr ⟨lstO us, ?_⟩)
    unfold startH
    rw [if_neg F.aT, if_pos ⟨rfl, by rw [hk]; rfl⟩]
  | some o =>
    have e := F.k a o hk
    rw [F.scr] at e
    cases e
    have lu := F.nums.length
    exact .inr ⟨_, us.toArray, _, hk, rfl, rfl, rfl, by rw [List.size_toArray, lu]; exact F.len, by simpa using vals_ints F.nums⟩
theorem law_callG {CX : CXT} {k : Nat} {fd : FuncData} {x : Str} {sp : Sp} {cs : List (Addr × Addr)} (F : Fore K mg mb ts a us ns s) (hc : ∀ p ∈ cs, p.2 ∈ ts ∧ PySem.W.CodeHd s.heap p.1 p.2) (hc2 : ∀ q ∈ ts, ∃ c, PySem.W.CodeHd s.heap c q) (hr : Room k callerA)
    (G : ∀ base : Heap, K.In base → base.Ns mainGlobals mg → (∀ p ∈ cs, LamX.TabB base mg p.1 p.2) → FnG P w K mg base CX k fa fd [x] sp) (hbind : ∀ (s : Shared) (u : Value), BindsTo s fd ⟨[u], []⟩ [(x, u)])
    (hsp : ∀ H : Hp, (∀ q ∈ ts, H q = some (.tbl #[])) → SqL K H a (ns.map V.int) → sp [.ref a] H (fun v _ => v = .bl true) fun _ _ _ => False) (hCX : ∀ H e s', CX [] H s (fun _ _ _ => False) e s' → False) :
    codeAny (model P w) callerA (.call (.ref fa) ⟨[.ref a], []⟩) (fun r s' => r = .ok (.ret (.bool true)) ∧ OldK s.heap s'.heap ∧ s'.os = s.os ∧ AllBare s'.gens) s := by
  have e0 : Env0 P w K mg (foreB K ts a us ns s) callerA [] s (startH K ts a (lstO us) (ns.map V.int)) := ⟨rfl, F.modB, fun b o e => of_hidT e, Nat.le_of_eq (hidT_size _ _), trivial, (fun b hb => nomatch hb), F.hok, .of_eq F.gens⟩
  have g := (G _ F.kB (F.nsB F.g) fun p hp => F.tabB (hc p hp).1 (hc p hp).2).run callerA [] s _ ⟨[.ref a], []⟩ [.ref a] [.ref a] _ _ hr rfl e0 (hbind s (.ref a)) (.cons rfl .nil) (hsp _ (fun q hq => startH_tab hq) F.seqS)
  refine codeAny_mono g fun r s' h => ?_
  rcases r with e | (_ | _ | _ | u)
  · exact (hCX _ e s' h).elim
  · exact False.elim h
  · exact False.elim h
  · exact False.elim h
  · obtain ⟨v, H', os, bare, un, ok2, rv, q⟩ := h
    have q' : v = .bl true := q
    subst q'
    obtain rfl : u = Value.bool true := rv
    have grown : ∀ z ∈ ts, ∃ more : Array Value, s'.heap.get? z = some { cls := .none, data := .fields more } := fun z hz => by
      obtain ⟨more, y⟩ := un.tbls z #[] (startH_tab hz)
      exact ⟨_, ok2 z _ y⟩
    have stay : ∀ b o, b ∉ ts → s.heap.get? b = some o → s'.heap.get? b = some o := fun b o nb e => by
      cases y : startH K ts a (lstO us) (ns.map V.int) b with
      | none => exact un.keep b o e y (fun z => nomatch z) (fun z => nomatch z)
      | some u =>
        rcases startH_cases y with ⟨z, _⟩ | ⟨z, _, rfl⟩
        · exact absurd z nb
        · obtain ⟨e2, _⟩ := ok2 b _ (un.frzs b _ _ y)
          rw [z, F.scr] at e
          cases e
          rw [z] at e2 ⊢
          exact e2
    refine ⟨rfl, ⟨fun b o e => ?_, fun b o e => ?_⟩, os, bare⟩
    · by_cases hb : b ∈ ts
      · obtain ⟨more, y⟩ := grown b hb
        obtain ⟨c, C⟩ := hc2 b hb
        rw [F.tab b hb] at e
        cases e
        exact .inr (.inl ⟨(C.tab (F.tab b hb)).isCodeTable, rfl, #[], more, rfl, by rw [Array.empty_append]; exact y⟩)
      · exact .inl (stay b o hb e)
    · by_cases hb : b ∈ ts
      · obtain ⟨more, y⟩ := grown b hb
        exact ⟨_, y⟩
      · exact ⟨o, stay b o hb e⟩
end
end K0

/-! ## H2 -/
set_option maxRecDepth 100000
set_option maxHeartbeats 4000000
namespace K0
open PySem PySem.Spec PyProof.Rows L2
theorem rng_all {n : Nat} {p : Nat → Bool} (h : (List.range n).all p = true) {i : Nat} (hi : i < n) : p i = true := List.all_eq_true.mp h i (List.mem_range.mpr hi)
theorem both {a b : Bool} (h : (a && b) = true) : a = true ∧ b = true := Bool.and_eq_true_iff.mp h
theorem meta_ok : ∀ j, j < 7 → PySem.W.kitMeta (btn j) = true := by decide +kernel
theorem tabE_self : ∀ i, i < 28 → tabE i i = true := by decide +kernel
section
variable {K : PySem.W.Frag}
/-- what is told of class i -/
structure ClF (K : PySem.W.Frag) (i : Nat) : Prop where
  ga : PySem.W.findIn K (.ref (caK K i)) "__getattribute__" = some (some (.builtin "BaseException.__getattribute__"))
  gg : PySem.W.findIn K (.ref (caK K i)) "__getattr__" = some none
  sb : PySem.W.subIn K (.ref (caK K i)) (.type "BaseException") = some true
  hd : PySem.W.hasDictIn K (caK K i) = true
  cl : PySem.W.findIn K (.ref (caK K i)) "__class__" = some (some (.builtin "object.__class__"))
  mo : PySem.W.mroIn K (caK K i) (.type "object") = some true
  kp : PySem.W.keepIn K (.ref (caK K i)) = true
  ty : PySem.W.typeIn K (.ref (caK K i)) = some (.type "type")
  is : (PySem.W.clsIn K (caK K i)).isSome = true
theorem exA_ok {i : Nat} (h : exA K i = true) : ClF K i := by
  obtain ⟨h1, h⟩ := both h
  obtain ⟨h2, h⟩ := both h
  obtain ⟨h3, h⟩ := both h
  obtain ⟨h4, h⟩ := both h
  obtain ⟨h5, h⟩ := both h
  obtain ⟨h6, h⟩ := both h
  obtain ⟨h7, h⟩ := both h
  obtain ⟨h8, h9⟩ := both h
  exact ⟨of_decide_eq_true h1, of_decide_eq_true h2, of_decide_eq_true h3, h4, of_decide_eq_true h5, of_decide_eq_true h6, h7, of_decide_eq_true h8, h9⟩
theorem exM_ok {i : Nat} (h : exM K i = true) : (∀ j, j < 28 → PySem.W.subIn K (.ref (caK K i)) (.ref (caK K j)) = some (tabE i j)) ∧ ∀ j, j < 7 → PySem.W.subIn K (.ref (caK K i)) (.type (btn j)) = some (tabT i j) := by
  unfold exM at h
  split at h
  · rename_i cd hc
    obtain ⟨h1, h⟩ := both h
    obtain ⟨h2, h3⟩ := both h
    have ne : cd.mro.isEmpty = false := by simpa using h1
    have go : ∀ b, PySem.W.subIn K (.ref (caK K i)) b = some (cd.mro.contains b) := fun b => by
      show (PySem.W.clsIn K (caK K i)).bind _ = _
      rw [hc]
      show (if cd.mro.isEmpty = true then none else some (cd.mro.contains b)) = _
      rw [ne, if_neg Bool.false_ne_true]
    refine ⟨fun j hj => ?_, fun j hj => ?_⟩
    · rw [go, eq_of_beq (rng_all h2 hj)]
    · rw [go, eq_of_beq (rng_all h3 hj)]
  · cases h
theorem kc_of (hA : ∀ i, i < 28 → ClF K i) (hM : ∀ i, i < 28 → exM K i = true) {i j : Nat} (hi : i < 28) (hj : j < 28) : PySem.W.kitCls K (.ref (caK K i)) (.ref (caK K j)) = some (tabE i j) := by
  have e : ((PySem.W.clsIn K (caK K j)).isSome && PySem.W.typeIn K (.ref (caK K j)) == some (.type "type")) = true := by rw [(hA j hj).is, (hA j hj).ty] <;> rfl
  show (if ((PySem.W.clsIn K (caK K j)).isSome && PySem.W.typeIn K (.ref (caK K j)) == some (.type "type")) = true then PySem.W.subIn K (.ref (caK K i)) (.ref (caK K j)) else none) = _
  rw [if_pos e]
  exact (exM_ok (hM i hi)).1 j hj
theorem ke_of (hA : ∀ i, i < 28 → ClF K i) (hM : ∀ i, i < 28 → exM K i = true) {i j : Nat} (hi : i < 28) (hj : j < 28) : PySem.W.kitOne K (.ref (caK K i)) (.ref (caK K j)) = some (tabE i j) := by
  unfold PySem.W.kitOne
  have z := kc_of hA hM hi hj
  split
  · rename_i q
    have q' : Value.ref (caK K i) = .ref (caK K j) := eq_of_beq q
    have z2 := kc_of hA hM hi hi
    rw [← q', z2, tabE_self i hi] at z
    exact z
  · exact z
theorem kt_of (hM : ∀ i, i < 28 → exM K i = true) {i j : Nat} (hi : i < 28) (hj : j < 7) : PySem.W.kitOne K (.ref (caK K i)) (.type (btn j)) = some (tabT i j) := by
  have e : (Value.ref (caK K i) == .type (btn j)) = false := by rfl
  unfold PySem.W.kitOne
  rw [e, if_neg Bool.false_ne_true]
  show (if PySem.W.kitMeta (btn j) = true then PySem.W.subIn K (.ref (caK K i)) (.type (btn j)) else none) = _
  rw [if_pos (meta_ok j hj)]
  exact (exM_ok (hM i hi)).2 j hj
theorem em_of (hA : ∀ i, i < 28 → ClF K i) (hM : ∀ i, i < 28 → exM K i = true) {i j : Nat} (hi : i < 28) (hj : j < 28) : PySem.W.exmOne K (.ref (caK K i)) (.ref (caK K j)) = some (tabE i j) := by
  have e : (PySem.W.subIn K (.ref (caK K j)) (.type "BaseException") == some true) = true := by rw [(hA j hj).sb] <;> rfl
  unfold PySem.W.exmOne
  rw [if_pos e]
  exact kc_of hA hM hi hj
/-- what is told of a class that keeps a value -/
structure KpF (K : PySem.W.Frag) (i : Nat) (f : Str) (bm : List Value) (newId : String) : Prop where
  q : PySem.W.excInitIn K (caK K i) bm newId = true
  ov : PySem.W.excOver K (caK K i) bm = true
  sa : PySem.W.findIn K (.ref (caK K i)) "__setattr__" = some (some (.builtin "object.__setattr__"))
  no : PySem.W.findIn K (.ref (caK K i)) f = some none
  iC : PySem.W.findIn K (.ref (caK K i)) "__init__" = some (some (.ref (He.ma K (caK K i) "__init__")))
  tI : PySem.W.typeIn K (.ref (He.ma K (caK K i) "__init__")) = some (.type "function")
  kw : ∀ oc od fd osl, K.lookup (He.ma K (caK K i) "__init__") = some ⟨oc, od, .func fd, osl⟩ → fd.kwdefaults = .none
theorem exKp_ok {i : Nat} {f : Str} {bm : List Value} {newId : String} (h : exKp K i f bm newId = true) : KpF K i f bm newId := by
  obtain ⟨h1, h⟩ := both h
  obtain ⟨h2, h⟩ := both h
  obtain ⟨h3, h⟩ := both h
  obtain ⟨h4, h⟩ := both h
  obtain ⟨h5, h⟩ := both h
  obtain ⟨h6, h7⟩ := both h
  refine ⟨h1, h2, of_decide_eq_true h3, of_decide_eq_true h4, of_decide_eq_true h5, of_decide_eq_true h6, fun oc od fd osl e => ?_⟩
  rw [e] at h7
  exact of_decide_eq_true h7
theorem funC_of {x qual : Str} {st : Stmt} {p : Str × Option Str} {fd : FuncData} (F : FunD K x qual (defArgs st) (defBody st) (defScope st) [] [] (He.fAd K p) fd) : FunC K x qual st (He.fAd K p) fd (He.codeOf K p) := by
  obtain ⟨oc, od, dV, kV, doc, pm, an, cdv, ct, osl, e, l, c, hd, _⟩ := F.ex
  obtain ⟨c', rfl⟩ := He.codeIn_ref c
  have e0 : dV = .none := by
    rcases hd with ⟨_, z⟩ | ⟨z, _⟩
    · exact z
    · exact absurd rfl z
  subst e0
  subst e
  rw [He.codeOf_eq l rfl]
  exact ⟨⟨oc, od, kV, doc, pm, an, ct, osl, rfl, l, c⟩, F.kp⟩
end
theorem txt20 {K : PySem.W.Frag} {mg : Str → Option Value} {fd : FuncData} (g : mg "ParseError" = some (.ref (caK K 20))) (C : ClF K 20) (Q : KpF K 20 "number" PySem.KeepX.Par.bmB "ValueError.__new__")
    (F : FunD K "__init__" "ParseError.__init__" (defArgs (meth0 23)) (defBody (meth0 23)) (defScope (meth0 23)) [] [] (He.ma K (caK K 20) "__init__") fd) : PySem.KeepX.Par.Txt K mg (caK K 20) (He.ma K (caK K 20) "__init__") := by
  obtain ⟨oc, od, dV, kV, doc, pm, an, cdv, ct, osl, e, l, c, hd, _⟩ := F.ex
  have e0 : dV = .none := by
    rcases hd with ⟨_, z⟩ | ⟨z, _⟩
    · exact z
    · exact absurd rfl z
  have e1 := Q.kw _ _ _ _ l
  subst e
  have e2 : kV = .none := e1
  subst e0 e2
  exact ⟨⟨g, C.kp, Q.q, Q.ov, C.hd, Q.sa, Q.no, C.sb, C.ty⟩, Q.iC, Q.tI, oc, od, doc, pm, an, cdv, ct, osl, _, _, _, _, _, _, l, c⟩
theorem kc20 {K : PySem.W.Frag} {mg : Str → Option Value} {P : Program} {w : World} {fI : Addr} (T : PySem.KeepX.Par.Txt K mg (caK K 20) fI) : KC K mg P w "ParseError" (caK K 20) "number" := ⟨⟨_, _, T.toCls0⟩, fun X hl hr hq => PySem.KeepX.Par.made1 T X hl hr hq⟩
theorem txt21 {K : PySem.W.Frag} {mg : Str → Option Value} {fd : FuncData} (g : mg "UnknownName" = some (.ref (caK K 21))) (C : ClF K 21) (Q : KpF K 21 "word" PySem.KeepX.Unk.bmB "LookupError.__new__")
    (F : FunD K "__init__" "UnknownName.__init__" (defArgs (meth0 24)) (defBody (meth0 24)) (defScope (meth0 24)) [] [] (He.ma K (caK K 21) "__init__") fd) : PySem.KeepX.Unk.Txt K mg (caK K 21) (He.ma K (caK K 21) "__init__") := by
  obtain ⟨oc, od, dV, kV, doc, pm, an, cdv, ct, osl, e, l, c, hd, _⟩ := F.ex
  have e0 : dV = .none := by
    rcases hd with ⟨_, z⟩ | ⟨z, _⟩
    · exact z
    · exact absurd rfl z
  have e1 := Q.kw _ _ _ _ l
  subst e
  have e2 : kV = .none := e1
  subst e0 e2
  exact ⟨⟨g, C.kp, Q.q, Q.ov, C.hd, Q.sa, Q.no, C.sb, C.ty⟩, Q.iC, Q.tI, oc, od, doc, pm, an, cdv, ct, osl, _, _, _, _, _, _, l, c⟩
theorem kc21 {K : PySem.W.Frag} {mg : Str → Option Value} {P : Program} {w : World} {fI : Addr} (T : PySem.KeepX.Unk.Txt K mg (caK K 21) fI) : KC K mg P w "UnknownName" (caK K 21) "word" := ⟨⟨_, _, T.toCls0⟩, fun X hl hr hq => PySem.KeepX.Unk.made1 T X hl hr hq⟩
theorem txt22 {K : PySem.W.Frag} {mg : Str → Option Value} {fd : FuncData} (g : mg "NotLayered" = some (.ref (caK K 22))) (C : ClF K 22) (Q : KpF K 22 "reason" PySem.KeepX.Lay.bmB "LookupError.__new__")
    (F : FunD K "__init__" "NotLayered.__init__" (defArgs (meth0 25)) (defBody (meth0 25)) (defScope (meth0 25)) [] [] (He.ma K (caK K 22) "__init__") fd) : PySem.KeepX.Lay.Txt K mg (caK K 22) (He.ma K (caK K 22) "__init__") := by
  obtain ⟨oc, od, dV, kV, doc, pm, an, cdv, ct, osl, e, l, c, hd, _⟩ := F.ex
  have e0 : dV = .none := by
    rcases hd with ⟨_, z⟩ | ⟨z, _⟩
    · exact z
    · exact absurd rfl z
  have e1 := Q.kw _ _ _ _ l
  subst e
  have e2 : kV = .none := e1
  subst e0 e2
  exact ⟨⟨g, C.kp, Q.q, Q.ov, C.hd, Q.sa, Q.no, C.sb, C.ty⟩, Q.iC, Q.tI, oc, od, doc, pm, an, cdv, ct, osl, _, _, _, _, _, _, l, c⟩
theorem kc22 {K : PySem.W.Frag} {mg : Str → Option Value} {P : Program} {w : World} {fI : Addr} (T : PySem.KeepX.Lay.Txt K mg (caK K 22) fI) : KC K mg P w "NotLayered" (caK K 22) "reason" := ⟨⟨_, _, T.toCls0⟩, fun X hl hr hq => PySem.KeepX.Lay.made1 T X hl hr hq⟩
theorem txt23 {K : PySem.W.Frag} {mg : Str → Option Value} {fd : FuncData} (g : mg "InvalidNumber" = some (.ref (caK K 23))) (C : ClF K 23) (Q : KpF K 23 "value" PySem.KeepX.Num.bmB "IndexError.__new__")
    (F : FunD K "__init__" "InvalidNumber.__init__" (defArgs (meth0 26)) (defBody (meth0 26)) (defScope (meth0 26)) [] [] (He.ma K (caK K 23) "__init__") fd) : PySem.KeepX.Num.Txt K mg (caK K 23) (He.ma K (caK K 23) "__init__") := by
  obtain ⟨oc, od, dV, kV, doc, pm, an, cdv, ct, osl, e, l, c, hd, _⟩ := F.ex
  have e0 : dV = .none := by
    rcases hd with ⟨_, z⟩ | ⟨z, _⟩
    · exact z
    · exact absurd rfl z
  have e1 := Q.kw _ _ _ _ l
  subst e
  have e2 : kV = .none := e1
  subst e0 e2
  exact ⟨⟨g, C.kp, Q.q, Q.ov, C.hd, Q.sa, Q.no, C.sb, C.ty⟩, Q.iC, Q.tI, oc, od, doc, pm, an, cdv, ct, osl, _, _, _, _, _, _, l, c⟩
theorem kc23 {K : PySem.W.Frag} {mg : Str → Option Value} {P : Program} {w : World} {fI : Addr} (T : PySem.KeepX.Num.Txt K mg (caK K 23) fI) : KC K mg P w "InvalidNumber" (caK K 23) "value" := ⟨⟨_, _, T.toCls0⟩, fun X hl hr hq => PySem.KeepX.Num.made1 T X hl hr hq⟩
theorem txt24 {K : PySem.W.Frag} {mg : Str → Option Value} {fd : FuncData} (g : mg "NothingToUndo" = some (.ref (caK K 24))) (C : ClF K 24) (Q : KpF K 24 "many" PySem.KeepX.Und.bmB "RuntimeError.__new__")
    (F : FunD K "__init__" "NothingToUndo.__init__" (defArgs (meth0 27)) (defBody (meth0 27)) (defScope (meth0 27)) [] [] (He.ma K (caK K 24) "__init__") fd) : PySem.KeepX.Und.Txt K mg (caK K 24) (He.ma K (caK K 24) "__init__") := by
  obtain ⟨oc, od, dV, kV, doc, pm, an, cdv, ct, osl, e, l, c, hd, _⟩ := F.ex
  have e0 : dV = .none := by
    rcases hd with ⟨_, z⟩ | ⟨z, _⟩
    · exact z
    · exact absurd rfl z
  have e1 := Q.kw _ _ _ _ l
  subst e
  have e2 : kV = .none := e1
  subst e0 e2
  exact ⟨⟨g, C.kp, Q.q, Q.ov, C.hd, Q.sa, Q.no, C.sb, C.ty⟩, Q.iC, Q.tI, oc, od, doc, pm, an, cdv, ct, osl, _, _, _, _, _, _, l, c⟩
theorem kc24 {K : PySem.W.Frag} {mg : Str → Option Value} {P : Program} {w : World} {fI : Addr} (T : PySem.KeepX.Und.Txt K mg (caK K 24) fI) : KC K mg P w "NothingToUndo" (caK K 24) "many" := ⟨⟨_, _, T.toCls0⟩, fun X hl hr hq => PySem.KeepX.Und.made1 T X hl hr hq⟩
theorem txt25 {K : PySem.W.Frag} {mg : Str → Option Value} {fd : FuncData} (g : mg "TooMany" = some (.ref (caK K 25))) (C : ClF K 25) (Q : KpF K 25 "limit" PySem.KeepX.Too.bmB "OverflowError.__new__")
    (F : FunD K "__init__" "TooMany.__init__" (defArgs (meth0 28)) (defBody (meth0 28)) (defScope (meth0 28)) [] [] (He.ma K (caK K 25) "__init__") fd) : PySem.KeepX.Too.Txt K mg (caK K 25) (He.ma K (caK K 25) "__init__") := by
  obtain ⟨oc, od, dV, kV, doc, pm, an, cdv, ct, osl, e, l, c, hd, _⟩ := F.ex
  have e0 : dV = .none := by
    rcases hd with ⟨_, z⟩ | ⟨z, _⟩
    · exact z
    · exact absurd rfl z
  have e1 := Q.kw _ _ _ _ l
  subst e
  have e2 : kV = .none := e1
  subst e0 e2
  exact ⟨⟨g, C.kp, Q.q, Q.ov, C.hd, Q.sa, Q.no, C.sb, C.ty⟩, Q.iC, Q.tI, oc, od, doc, pm, an, cdv, ct, osl, _, _, _, _, _, _, l, c⟩
theorem kc25 {K : PySem.W.Frag} {mg : Str → Option Value} {P : Program} {w : World} {fI : Addr} (T : PySem.KeepX.Too.Txt K mg (caK K 25) fI) : KC K mg P w "TooMany" (caK K 25) "limit" := ⟨⟨_, _, T.toCls0⟩, fun X hl hr hq => PySem.KeepX.Too.made1 T X hl hr hq⟩
theorem txt26 {K : PySem.W.Frag} {mg : Str → Option Value} {fd : FuncData} (g : mg "Refused" = some (.ref (caK K 26))) (C : ClF K 26) (Q : KpF K 26 "pledge" PySem.KeepX.Ref.bmB "ArithmeticError.__new__")
    (F : FunD K "__init__" "Refused.__init__" (defArgs (meth0 29)) (defBody (meth0 29)) (defScope (meth0 29)) [] [] (He.ma K (caK K 26) "__init__") fd) : PySem.KeepX.Ref.Txt K mg (caK K 26) (He.ma K (caK K 26) "__init__") := by
  obtain ⟨oc, od, dV, kV, doc, pm, an, cdv, ct, osl, e, l, c, hd, _⟩ := F.ex
  have e0 : dV = .none := by
    rcases hd with ⟨_, z⟩ | ⟨z, _⟩
    · exact z
    · exact absurd rfl z
  have e1 := Q.kw _ _ _ _ l
  subst e
  have e2 : kV = .none := e1
  subst e0 e2
  exact ⟨⟨g, C.kp, Q.q, Q.ov, C.hd, Q.sa, Q.no, C.sb, C.ty⟩, Q.iC, Q.tI, oc, od, doc, pm, an, cdv, ct, osl, _, _, _, _, _, _, l, c⟩
theorem kc26 {K : PySem.W.Frag} {mg : Str → Option Value} {P : Program} {w : World} {fI : Addr} (T : PySem.KeepX.Ref.Txt K mg (caK K 26) fI) : KC K mg P w "Refused" (caK K 26) "pledge" := ⟨⟨_, _, T.toCls0⟩, fun X hl hr hq => PySem.KeepX.Ref.made1 T X hl hr hq⟩
def cs0 (K : PySem.W.Frag) : List (Addr × Addr) := [He.cT K ("_law_namings_right", none), He.cT K ("_law_coprime_right", none)]
def T0 (K : PySem.W.Frag) : List (Addr × Str) := [((He.cT K ("_law_namings_right", none)).2, "_law_namings_right.<locals>.<lambda>"), ((He.cT K ("_law_coprime_right", none)).2, "_law_coprime_right.<locals>.<lambda>")]
theorem facts {P : Program} {w w0 : World} {K : PySem.W.Frag} {h : Heap} {mg : Str → Option Value} (X : K.In h) (G : h.Ns mainGlobals mg) (c : He.SaysX fa0 fn [] tf0 ex0 w0 h K) :
    mg "law" = some (.ref (He.ga K "law")) ∧ ∃ fd : FuncData, (∀ (s : Shared) (u : Value), BindsTo s fd ⟨[u], []⟩ [("_law_script", u)]) ∧
      ∀ base : Heap, K.In base → base.Ns mainGlobals mg → (∀ p ∈ cs0 K, LamX.TabB base mg p.1 p.2) → FnG P w K mg base CX0 7 (He.ga K "law") fd ["_law_script"] (spLaw K (T0 K)) := by
  have D := c.t.d
  have gl : ∀ {x : Str} (i : Nat), fa0[i]? = some (.glo x) → mg x = some (.ref (He.ga K x)) := fun i e => He.glo_ok X G (D.fact i e)
  have fr : ∀ {x : Str} (i : Nat), fa0[i]? = some (.free x) → mg x = none := fun i e => He.free_ok X G (D.fact i e)
  have nt : ∀ {x : Str} {k : Int} (i : Nat), fa0[i]? = some (.int x k) → ∃ t, mg x = some (.int k t) := fun i e => He.int_ok X G (D.fact i e)
  obtain ⟨a1, m⟩ := both c.more
  obtain ⟨a2, m⟩ := both m
  obtain ⟨a3, m⟩ := both m
  obtain ⟨a4, m⟩ := both m
  obtain ⟨q20, m⟩ := both m
  obtain ⟨q21, m⟩ := both m
  obtain ⟨q22, m⟩ := both m
  obtain ⟨q23, m⟩ := both m
  obtain ⟨q24, m⟩ := both m
  obtain ⟨q25, m⟩ := both m
  obtain ⟨q26, m⟩ := both m
  obtain ⟨o1, m⟩ := both m
  obtain ⟨o2, m⟩ := both m
  obtain ⟨o3, o4⟩ := both m
  have hA : ∀ i, i < 28 → ClF K i := fun i hi => exA_ok (rng_all a1 hi)
  have hM : ∀ i, i < 28 → exM K i = true := fun i hi => rng_all a2 hi
  have gcd : mg "gcd" = some (.builtin "math.gcd") := PySem.W.mg_of X G (of_decide_eq_true o3)
  have pne : (He.cT K ("_law_namings_right", none)).2 ≠ (He.cT K ("_law_coprime_right", none)).2 := of_decide_eq_true o4
  obtain ⟨fd0, F0⟩ := D.def_ 0 (d := d35) rfl
  obtain ⟨fd1, F1⟩ := D.def_ 1 (d := d36) rfl
  obtain ⟨fd2, F2⟩ := D.def_ 2 (d := d37) rfl
  obtain ⟨fd3, F3⟩ := D.def_ 3 (d := d38) rfl
  obtain ⟨fd4, F4⟩ := D.def_ 4 (d := d39) rfl
  obtain ⟨fd5, F5⟩ := D.def_ 5 (d := d40) rfl
  obtain ⟨fd6, F6⟩ := D.def_ 6 (d := d41) rfl
  obtain ⟨fd7, F7⟩ := D.def_ 7 (d := d42) rfl
  obtain ⟨fd8, F8⟩ := D.def_ 8 (d := d43) rfl
  obtain ⟨fd9, F9⟩ := D.def_ 9 (d := d44) rfl
  obtain ⟨fd10, F10⟩ := D.def_ 10 (d := d46) rfl
  obtain ⟨fd11, F11⟩ := D.def_ 11 (d := d47) rfl
  obtain ⟨fd12, F12⟩ := D.def_ 12 (d := d48) rfl
  obtain ⟨fd13, F13⟩ := D.def_ 13 (d := d49) rfl
  obtain ⟨fd14, F14⟩ := D.def_ 14 (d := d50) rfl
  obtain ⟨fd15, F15⟩ := D.def_ 15 (d := d51) rfl
  obtain ⟨fd16, F16⟩ := D.def_ 16 (d := d52) rfl
  obtain ⟨fd17, F17⟩ := D.def_ 17 (d := d53) rfl
  obtain ⟨fd18, F18⟩ := D.def_ 18 (d := d54) rfl
  obtain ⟨fd19, F19⟩ := D.def_ 19 (d := d55) rfl
  obtain ⟨fd20, F20⟩ := D.def_ 20 (d := d56) rfl
  obtain ⟨fd21, F21⟩ := D.def_ 21 (d := d57) rfl
  obtain ⟨fd22, F22⟩ := D.def_ 22 (d := d58) rfl
  obtain ⟨fd23, F23⟩ := D.def_ 23 (d := d59) rfl
  obtain ⟨fd24, F24⟩ := D.def_ 24 (d := d60) rfl
  obtain ⟨fd25, F25⟩ := D.def_ 25 (d := d61) rfl
  obtain ⟨fd26, F26⟩ := D.def_ 26 (d := d62) rfl
  obtain ⟨fd27, F27⟩ := D.def_ 27 (d := d63) rfl
  obtain ⟨fd28, F28⟩ := D.def_ 28 (d := d64) rfl
  obtain ⟨fd29, F29⟩ := D.def_ 29 (d := d65) rfl
  obtain ⟨ft20, I20⟩ := D.def_ 30 (d := dc20) rfl
  obtain ⟨ft21, I21⟩ := D.def_ 31 (d := dc21) rfl
  obtain ⟨ft22, I22⟩ := D.def_ 32 (d := dc22) rfl
  obtain ⟨ft23, I23⟩ := D.def_ 33 (d := dc23) rfl
  obtain ⟨ft24, I24⟩ := D.def_ 34 (d := dc24) rfl
  obtain ⟨ft25, I25⟩ := D.def_ 35 (d := dc25) rfl
  obtain ⟨ft26, I26⟩ := D.def_ 36 (d := dc26) rfl
  have x20 := txt20 (mg := mg) (gl 20 rfl) (hA 20 (by decide)) (exKp_ok q20) I20
  have x21 := txt21 (mg := mg) (gl 21 rfl) (hA 21 (by decide)) (exKp_ok q21) I21
  have x22 := txt22 (mg := mg) (gl 22 rfl) (hA 22 (by decide)) (exKp_ok q22) I22
  have x23 := txt23 (mg := mg) (gl 23 rfl) (hA 23 (by decide)) (exKp_ok q23) I23
  have x24 := txt24 (mg := mg) (gl 24 rfl) (hA 24 (by decide)) (exKp_ok q24) I24
  have x25 := txt25 (mg := mg) (gl 25 rfl) (hA 25 (by decide)) (exKp_ok q25) I25
  have x26 := txt26 (mg := mg) (gl 26 rfl) (hA 26 (by decide)) (exKp_ok q26) I26
  have KE : EK K mg P w (caK K) := ⟨kc20 x20, kc21 x21, kc22 x22, kc23 x23, kc24 x24, kc25 x25, kc26 x26⟩
  have EC0 : EC K mg (caK K) := ⟨(fr 58 rfl), (fr 59 rfl), (gl 0 rfl), (gl 1 rfl), (gl 2 rfl), (gl 3 rfl), (gl 4 rfl), (gl 5 rfl), (gl 6 rfl), (gl 7 rfl), (gl 8 rfl), (gl 9 rfl), (gl 10 rfl), (gl 11 rfl), (gl 12 rfl), (gl 13 rfl), (gl 14 rfl), (gl 15 rfl), (gl 16 rfl), (gl 17 rfl), (gl 18 rfl), (gl 19 rfl), (gl 20 rfl), (gl 21 rfl), (gl 22 rfl), (gl 23 rfl), (gl 24 rfl), (gl 25 rfl), (gl 26 rfl), (gl 27 rfl), (fr 75 rfl), (fr 76 rfl), (fr 77 rfl), (fr 78 rfl), (fr 79 rfl), (fr 80 rfl), (fr 81 rfl), fun i hi => ⟨(hA i hi).ga, (hA i hi).gg, (hA i hi).sb, (hA i hi).hd, (hA i hi).cl, of_decide_eq_true o1, of_decide_eq_true o2, (hA i hi).mo⟩, fun i j hi hj => ke_of hA hM hi hj, fun i j hi hj => kt_of hM hi hj⟩
  have EM0 : EM K (caK K) := ⟨fun i hi => by
    rcases hi with hi | rfl
    · exact rng_all a3 hi
    · exact a4, fun i hi => (hA i hi).kp⟩
  have U0 : Fun K "is_integer" "is_integer" (top 35) (He.ga K "is_integer") fd0 := He5.fun_of F0
  have U1 : Fun K "is_count" "is_count" (top 36) (He.ga K "is_count") fd1 := He5.fun_of F1
  have U2 : Fun K "is_width" "is_width" (top 37) (He.ga K "is_width") fd2 := He5.fun_of F2
  have U3 : Fun K "is_name" "is_name" (top 38) (He.ga K "is_name") fd3 := He5.fun_of F3
  have U4 : Fun K "are_names" "are_names" (top 39) (He.ga K "are_names") fd4 := He5.fun_of F4
  have U5 : Fun K "is_row" "is_row" (top 40) (He.ga K "is_row") fd5 := He5.fun_of F5
  have U6 : Fun K "are_different" "are_different" (top 41) (He.ga K "are_different") fd6 := He5.fun_of F6
  have U7 : Fun K "is_dict_from" "is_dict_from" (top 42) (He.ga K "is_dict_from") fd7 := He5.fun_of F7
  have U8 : Fun K "is_naming" "is_naming" (top 43) (He.ga K "is_naming") fd8 := He5.fun_of F8
  have U9 : Fun K "coprime" "coprime" (top 44) (He.ga K "coprime") fd9 := He5.fun_of F9
  have U10 : Fun K "_law_dice" "_law_dice" (top 46) (He.ga K "_law_dice") fd10 := He5.fun_of F10
  have U11 : Fun K "_law_roll" "_law_roll" (top 47) (He.ga K "_law_roll") fd11 := He5.fun_of F11
  have U12 : Fun K "_law_pick" "_law_pick" (top 48) (He.ga K "_law_pick") fd12 := He5.fun_of F12
  have U13 : Fun K "_law_mixed" "_law_mixed" (top 49) (He.ga K "_law_mixed") fd13 := He5.fun_of F13
  have U14 : Fun K "_law_is_word" "_law_is_word" (top 50) (He.ga K "_law_is_word") fd14 := He5.fun_of F14
  have U15 : Fun K "_law_word" "_law_word" (top 51) (He.ga K "_law_word") fd15 := He5.fun_of F15
  have U16 : Fun K "_law_number" "_law_number" (top 52) (He.ga K "_law_number") fd16 := He5.fun_of F16
  have U17 : Fun K "_law_met" "_law_met" (top 53) (He.ga K "_law_met") fd17 := He5.fun_of F17
  have U18 : Fun K "_law_judged_right" "_law_judged_right" (top 54) (He.ga K "_law_judged_right") fd18 := He5.fun_of F18
  have U19 := funC_of (st := top 55) (p := ("_law_namings_right", none)) F19
  have U20 := funC_of (st := top 56) (p := ("_law_coprime_right", none)) F20
  have U21 : Fun K "_law_made_all" "_law_made_all" (top 57) (He.ga K "_law_made_all") fd21 := He5.fun_of F21
  have U22 : Fun K "_law_first_half" "_law_first_half" (top 58) (He.ga K "_law_first_half") fd22 := He5.fun_of F22
  have U23 : Fun K "_law_second_half" "_law_second_half" (top 59) (He.ga K "_law_second_half") fd23 := He5.fun_of F23
  have U24 : Fun K "_law_kinds" "_law_kinds" (top 60) (He.ga K "_law_kinds") fd24 := He5.fun_of F24
  have U25 : Fun K "_law_all" "_law_all" (top 61) (He.ga K "_law_all") fd25 := He5.fun_of F25
  have U26 : Fun K "_law_kept" "_law_kept" (top 62) (He.ga K "_law_kept") fd26 := He5.fun_of F26
  have U27 : Fun K "_law_caught" "_law_caught" (top 63) (He.ga K "_law_caught") fd27 := He5.fun_of F27
  have U28 : Fun K "_law_errors_right" "_law_errors_right" (top 64) (He.ga K "_law_errors_right") fd28 := He5.fun_of F28
  have U29 : Fun K "law" "law" (top 65) (He.ga K "law") fd29 := He5.fun_of F29
  have B0 : Binds K fd0 ["value"] [] := L2.Fun.binds U0 fun _ _ _ _ _ _ us hl => match us, hl with | [_], _ => rfl
  have B1 : Binds K fd1 ["value"] [] := L2.Fun.binds U1 fun _ _ _ _ _ _ us hl => match us, hl with | [_], _ => rfl
  have B2 : Binds K fd2 ["value"] [] := L2.Fun.binds U2 fun _ _ _ _ _ _ us hl => match us, hl with | [_], _ => rfl
  have B3 : Binds K fd3 ["value"] [] := L2.Fun.binds U3 fun _ _ _ _ _ _ us hl => match us, hl with | [_], _ => rfl
  have B4 : Binds K fd4 ["value"] [] := L2.Fun.binds U4 fun _ _ _ _ _ _ us hl => match us, hl with | [_], _ => rfl
  have B5 : Binds K fd5 ["value"] [] := L2.Fun.binds U5 fun _ _ _ _ _ _ us hl => match us, hl with | [_], _ => rfl
  have B6 : Binds K fd6 ["values"] [] := L2.Fun.binds U6 fun _ _ _ _ _ _ us hl => match us, hl with | [_], _ => rfl
  have B7 : Binds K fd7 ["keys", "value"] [] := L2.Fun.binds U7 fun _ _ _ _ _ _ us hl => match us, hl with | [_, _], _ => rfl
  have B8 : Binds K fd8 ["names", "value"] [] := L2.Fun.binds U8 fun _ _ _ _ _ _ us hl => match us, hl with | [_, _], _ => rfl
  have B9 : Binds K fd9 ["one", "other"] [] := L2.Fun.binds U9 fun _ _ _ _ _ _ us hl => match us, hl with | [_, _], _ => rfl
  have B10 : Binds K fd10 ["_law_script", "_law_spot"] [] := L2.Fun.binds U10 fun _ _ _ _ _ _ us hl => match us, hl with | [_, _], _ => rfl
  have B11 : Binds K fd11 ["_law_dice_here", "_law_total"] [] := L2.Fun.binds U11 fun _ _ _ _ _ _ us hl => match us, hl with | [_, _], _ => rfl
  have B12 : Binds K fd12 ["_law_dice_here", "_law_items"] [] := L2.Fun.binds U12 fun _ _ _ _ _ _ us hl => match us, hl with | [_, _], _ => rfl
  have B13 : Binds K fd13 ["_law_dice_here", "_law_items"] [] := L2.Fun.binds U13 fun _ _ _ _ _ _ us hl => match us, hl with | [_, _], _ => rfl
  have B14 : Binds K fd14 ["_law_value"] [] := L2.Fun.binds U14 fun _ _ _ _ _ _ us hl => match us, hl with | [_], _ => rfl
  have B15 : Binds K fd15 ["_law_dice_here"] [] := L2.Fun.binds U15 fun _ _ _ _ _ _ us hl => match us, hl with | [_], _ => rfl
  have B16 : Binds K fd16 ["_law_dice_here"] [] := L2.Fun.binds U16 fun _ _ _ _ _ _ us hl => match us, hl with | [_], _ => rfl
  have B17 : Binds K fd17 ["_law_call"] [] := L2.Fun.binds U17 fun _ _ _ _ _ _ us hl => match us, hl with | [_], _ => rfl
  have B18 : Binds K fd18 ["_law_dice_here"] [] := L2.Fun.binds U18 fun _ _ _ _ _ _ us hl => match us, hl with | [_], _ => rfl
  have B19 : Binds K fd19 ["_law_dice_here"] [] := L2.Fun.binds U19.fn fun _ _ _ _ _ _ us hl => match us, hl with | [_], _ => rfl
  have B20 : Binds K fd20 ["_law_dice_here"] [] := L2.Fun.binds U20.fn fun _ _ _ _ _ _ us hl => match us, hl with | [_], _ => rfl
  have B21 : Binds K fd21 [] [] := L2.Fun.binds U21 fun _ _ _ _ _ _ us hl => match us, hl with | [], _ => rfl
  have B22 : Binds K fd22 ["_law_error"] [] := L2.Fun.binds U22 fun _ _ _ _ _ _ us hl => match us, hl with | [_], _ => rfl
  have B23 : Binds K fd23 ["_law_error"] [] := L2.Fun.binds U23 fun _ _ _ _ _ _ us hl => match us, hl with | [_], _ => rfl
  have B24 : Binds K fd24 ["_law_error"] [] := L2.Fun.binds U24 fun _ _ _ _ _ _ us hl => match us, hl with | [_], _ => rfl
  have B25 : Binds K fd25 ["_law_error"] [] := L2.Fun.binds U25 fun _ _ _ _ _ _ us hl => match us, hl with | [_], _ => rfl
  have B26 : Binds K fd26 ["_law_told", "_law_index"] [] := L2.Fun.binds U26 fun _ _ _ _ _ _ us hl => match us, hl with | [_, _], _ => rfl
  have B27 : Binds K fd27 ["_law_told", "_law_way"] [] := L2.Fun.binds U27 fun _ _ _ _ _ _ us hl => match us, hl with | [_, _], _ => rfl
  have B28 : Binds K fd28 ["_law_told", "_law_index"] [] := L2.Fun.binds U28 fun _ _ _ _ _ _ us hl => match us, hl with | [_, _], _ => rfl
  have B29 : Binds K fd29 ["_law_script"] [] := L2.Fun.binds U29 fun _ _ _ _ _ _ us hl => match us, hl with | [_], _ => rfl
  have t1 : T1 K mg := ⟨(fr 58 rfl), (fr 59 rfl), (fr 60 rfl), nt 85 rfl⟩
  have t2 : T2 K mg _ _ _ := ⟨t1, (gl 28 rfl), F0.kp, (gl 29 rfl), F1.kp, (gl 30 rfl), F2.kp, nt 84 rfl, nt 82 rfl, (fr 61 rfl), (fr 62 rfl), (fr 63 rfl), (fr 64 rfl), (fr 65 rfl), (fr 66 rfl)⟩
  have t3 : T3 K mg _ _ _ _ := ⟨t2, (gl 31 rfl), F3.kp⟩
  have t4 : T4 K mg _ _ _ _ := ⟨t3, (fr 72 rfl)⟩
  have tl : TL K mg _ _ := ⟨(fr 59 rfl), (fr 67 rfl), (fr 68 rfl), (fr 61 rfl), (gl 39 rfl), F11.kp, (gl 40 rfl), F12.kp⟩
  have tm : TM K mg _ _ := ⟨tl, (fr 70 rfl), (fr 71 rfl)⟩
  have t5 : T5 K mg := ⟨(fr 58 rfl), (fr 61 rfl), (fr 62 rfl)⟩
  have tj : TJ K mg _ _ _ _ _ := ⟨(fr 73 rfl), (gl 44 rfl), F16.kp, (gl 43 rfl), F15.kp, (gl 42 rfl), F14.kp, (gl 32 rfl), F4.kp, (gl 33 rfl), F5.kp⟩
  have tn : TN K mg _ _ _ (caK K 19) := ⟨(fr 63 rfl), (gl 32 rfl), F4.kp, (gl 35 rfl), F7.kp, (gl 34 rfl), F6.kp, ⟨⟨(gl 19 rfl), (hA 19 (by decide)).kp, (hA 19 (by decide)).sb, (hA 19 (by decide)).ty⟩, rng_all a3 (by decide)⟩⟩
  have tc : TC K mg _ := ⟨(gl 29 rfl), F1.kp, gcd⟩
  have tcr : TCR K mg _ _ := ⟨(gl 37 rfl), F9.kp, (gl 45 rfl), F17.kp⟩
  have tnr : TNR K mg _ _ _ := ⟨(gl 36 rfl), F8.kp, (gl 41 rfl), F13.kp, (gl 45 rfl), F17.kp, (fr 63 rfl), (fr 64 rfl), (fr 74 rfl), (fr 72 rfl), (fr 73 rfl)⟩
  have tme : TMe K mg (caK K 23) (caK K 19) := ⟨(fr 73 rfl), (gl 23 rfl), (gl 19 rfl), ⟨(hA 23 (by decide)).ga, (hA 23 (by decide)).gg, (hA 23 (by decide)).sb, (hA 23 (by decide)).hd⟩, (exKp_ok q23).no, em_of hA hM (i := 23) (j := 23) (by decide) (by decide), em_of hA hM (i := 19) (j := 23) (by decide) (by decide), em_of hA hM (i := 19) (j := 19) (by decide) (by decide)⟩
  have tal : TAl K mg _ _ _ := ⟨(gl 50 rfl), F22.kp, (gl 51 rfl), F23.kp, (gl 52 rfl), F24.kp⟩
  have tca : TCa K mg (caK K) _ := ⟨(fr 73 rfl), (gl 50 rfl), em_of hA hM (i := 7) (j := 27) (by decide) (by decide), em_of hA hM (i := 26) (j := 27) (by decide) (by decide), em_of hA hM (i := 26) (j := 26) (by decide) (by decide), em_of hA hM (i := 22) (j := 27) (by decide) (by decide), em_of hA hM (i := 22) (j := 26) (by decide) (by decide), em_of hA hM (i := 22) (j := 22) (by decide) (by decide), (hA 7 (by decide)).ty⟩
  have ter : TEr K mg _ _ _ _ := ⟨(fr 73 rfl), (fr 71 rfl), (gl 49 rfl), F21.kp, (gl 54 rfl), F26.kp, (gl 53 rfl), F25.kp, (gl 55 rfl), F27.kp⟩
  have tla : TLa K mg _ _ _ _ _ _ _ _ _ _ := ⟨(fr 69 rfl), nt 83 rfl, nt 82 rfl, (gl 38 rfl), F10.kp, (gl 46 rfl), F18.kp, (gl 47 rfl), F19.kp, (gl 48 rfl), F20.kp, (gl 56 rfl), F28.kp, (gl 29 rfl), F1.kp, (gl 31 rfl), F3.kp, (gl 32 rfl), F4.kp, (gl 33 rfl), F5.kp, (gl 37 rfl), F9.kp⟩
  refine ⟨gl 57 rfl, fd29, fun s u => ?_, fun base KB GB TB => ?_⟩
  · obtain ⟨oc, od, kV, doc, pm, an, cdv, ct, osl, e, _, _⟩ := U29.ex
    subst e
    exact .of_eq rfl
  have H0 : ∀ {k : Nat} {f : Addr} {fd : FuncData} {ps : List Str} {sp : Sp}, FnOk P w K mg base CX0 k f fd ps sp → FnG P w K mg base CX0 k f fd ps sp := fun F => .of F
  have G0 := ok_isInt (P := P) (w := w) (base := base) U0 t1
  have G1 := ok_isCnt (P := P) (w := w) (base := base) U1 t2 G0 B0
  have G2 := ok_isWid (P := P) (w := w) (base := base) U2 t2 G0 B0
  have G3 := ok_isNam (P := P) (w := w) (base := base) U3 t2
  have G4 := ok_areNam (P := P) (w := w) (base := base) U4 t3 G3 B3
  have G5 := ok_isRow (P := P) (w := w) (base := base) U5 t3 G2 B2 G1 B1
  have G6 := ok_diff (P := P) (w := w) (base := base) U6 t4
  have G7 := ok_dFrom (P := P) (w := w) (base := base) U7 t4
  have G8 := ok_naming (P := P) (w := w) (base := base) U8 tn G4 B4 G7 B7 G6 B6
  have G9 := ok_cop (P := P) (w := w) (base := base) U9 tc x23.toCls0 (kc23 x23).made G1 B1
  have G10 := ok_dice (P := P) (w := w) (base := base) U10 tl
  have G11 := ok_roll (P := P) (w := w) (base := base) U11 tl
  have G12 := ok_pick (P := P) (w := w) (base := base) U12 tl G11 B11
  have G13 := ok_mixed (P := P) (w := w) (base := base) U13 tm G11 B11
  have G14 := ok_isWord (P := P) (w := w) (base := base) U14 t5
  have G15 := ok_word (P := P) (w := w) (base := base) U15 tm G11 B11
  have G16 := ok_number (P := P) (w := w) (base := base) U16 tm G11 B11 G12 B12
  have G18 := ok_judged (P := P) (w := w) (base := base) U18 t3 tm tj G0 B0 G1 B1 G3 B3 G4 B4 G5 B5 G11 B11 G12 B12 G16 B16 G15 B15 G14 B14
  have tbN : LamX.TabB base mg (He.cT K ("_law_namings_right", none)).1 (He.cT K ("_law_namings_right", none)).2 := TB _ List.mem_cons_self
  have tbC : LamX.TabB base mg (He.cT K ("_law_coprime_right", none)).1 (He.cT K ("_law_coprime_right", none)).2 := TB _ (List.mem_cons_of_mem _ List.mem_cons_self)
  have hTn : ∀ q, ((He.cT K ("_law_namings_right", none)).2, q) ∈ T0 K ↔ q = ("_law_namings_right.<locals>.<lambda>" : Str) := fun q => by
    refine ⟨fun z => ?_, fun z => by rw [z]; exact List.mem_cons_self⟩
    rcases List.mem_cons.mp z with e | e
    · exact congrArg Prod.snd e
    · exact absurd (congrArg Prod.fst (List.mem_singleton.mp e)) pne
  have hTc : ∀ q, ((He.cT K ("_law_coprime_right", none)).2, q) ∈ T0 K ↔ q = ("_law_coprime_right.<locals>.<lambda>" : Str) := fun q => by
    refine ⟨fun z => ?_, fun z => by rw [z]; exact List.mem_cons_of_mem _ List.mem_cons_self⟩
    rcases List.mem_cons.mp z with e | e
    · exact absurd (congrArg Prod.fst e).symm pne
    · exact congrArg Prod.snd (List.mem_singleton.mp e)
  have G19 := ok_namR (T := T0 K) (P := P) (w := w) (base := base) U19 tm tnr tme G11 B11 G12 B12 G13 B13 G8 B8 U17 B17 tbN hTn
  have G20 := ok_copR (T := T0 K) (P := P) (w := w) (base := base) U20 tm tcr tme G11 B11 G12 B12 G9 B9 U17 B17 tbC hTc
  have G21 := ok_made (P := P) (w := w) (base := base) U21 EC0 EM0
  have G22 := ok_fst (P := P) (w := w) (base := base) U22 EC0
  have G23 := ok_snd (P := P) (w := w) (base := base) U23 EC0
  have G24 := ok_kin (P := P) (w := w) (base := base) U24 EC0
  have G25 := ok_all (P := P) (w := w) (base := base) U25 tal G22 B22 G23 B23 G24 B24
  have G26 := ok_kept (P := P) (w := w) (base := base) U26 EC0 KE (gl 53 rfl) F25.kp G25 B25
  have G27 := ok_cau (P := P) (w := w) (base := base) U27 EC0 EM0 KE tca U22 B22
  have G28 := ok_erR (P := P) (w := w) (base := base) U28 EC0 EM0 ter G21 B21 G26 B26 G25 B25 G27 B27
  exact ok_law (P := P) (w := w) (base := base) U29 tm tla G10 B10 G12 B12 G18 B18 G19 B19 G20 B20 G28 B28 G1 B1 G3 B3 G4 B4 G5 B5 G9 B9
theorem walk_ofG {l : PySem.W.OpenLaw} {n k : Nat} {q : Program} {loose : List Str} {XP : (Str → Option Value) → Heap → Prop} {YP : World → Heap → Prop} {d : DefRec} {CX : CXT} {x : Str}
    (hn : l.most = some n) (hn2 : n ≤ sizeLine) (hdf : d.params.defaults = []) (hr : Room k callerA)
    (F : ∀ (w : World) (mg : Str → Option Value) (fa : Addr) (h : Heap), YP w h → h.Ns mainGlobals mg → mg d.name = some (.ref fa) → ∃ (K : PySem.W.Frag) (fd : FuncData) (cs : List (Addr × Addr)) (sp : Sp), K.In h ∧ (∀ p ∈ cs, h.get? p.2 = some { cls := .none, data := .fields #[] }) ∧ (∀ p ∈ cs, K.lookup p.2 = none) ∧
      (∀ p ∈ cs, PySem.W.CodeHd h p.1 p.2) ∧ (∀ (s : Shared) (u : Value), BindsTo s fd ⟨[u], []⟩ [(x, u)]) ∧ (∀ (H : Hp) (a : Addr) (ns : List Int), (∀ p ∈ cs, H p.2 = some (.tbl #[])) → SqL K H a (ns.map V.int) → sp [.ref a] H (fun v _ => v = .bl true) fun _ _ _ => False) ∧
      ∀ base : Heap, K.In base → base.Ns mainGlobals mg → (∀ p ∈ cs, LamX.TabB base mg p.1 p.2) → FnG l.prog w K mg base CX k fa fd [x] sp)
    (hCX : ∀ (H : Hp) (s : Shared) (e : Value) (s' : Shared), CX [] H s (fun _ _ _ => False) e s' → False) : PySem.W.WalkO q loose XP YP l.row.toRowW d [] (fun f vs => PySem.call f vs) := by
  refine Att.attach_callB hn hdf fun w s0 s1 mg mb fa o pm cd doc a vs ns G Y ho hd hcd hmg hobj hints hlen _ hg => ?_
  obtain ⟨K, fd, cs, sp, KX, hT, nT, C, hb, hsp, hF⟩ := F w mg fa _ Y G.T.g hmg
  have back : ∀ q ∈ cs.map (·.2), ∃ p ∈ cs, p.2 = q := fun q hq => List.mem_map.mp hq
  have Fo : Fore K mg mb (cs.map (·.2)) a vs ns s1 := ⟨KX, G.T.g, G.T.b, G.T.builtins, G.T.nolimit, hg, fun q hq => by
    obtain ⟨p, hp, e⟩ := back q hq
    rw [← e]
    exact hT p hp, fun q hq => by
    obtain ⟨p, hp, e⟩ := back q hq
    rw [← e]
    exact nT p hp, G.T.bmain, hobj, hints, Nat.le_trans hlen hn2⟩
  exact law_callG (cs := cs) Fo (fun p hp => ⟨List.mem_map.mpr ⟨p, hp, rfl⟩, C p hp⟩) (fun q hq => by
    obtain ⟨p, hp, e⟩ := back q hq
    rw [← e]
    exact ⟨p.1, C p hp⟩) hr hF hb (fun H hH hS => hsp H a ns (fun p hp => hH _ (List.mem_map.mpr ⟨p, hp, rfl⟩)) hS) fun H e s' => hCX H s1 e s'
end K0

/-! ## H3 -/
set_option maxRecDepth 100000
set_option maxHeartbeats 0
open PySem PySem.W PySem.Calls PyProof.Rows
theorem PySem.Challenge.cw_joinhouse_k00_words_and_errors_holds : PySem.Challenge.rw_joinhouse_k00_words_and_errors.Holds := by
  w_on; o_law
  refine HandSHeadRun.head_imp (r := OpenLaw.row PySem.Challenge.rw_joinhouse_k00_words_and_errors) (q := view (OpenLaw.row PySem.Challenge.rw_joinhouse_k00_words_and_errors).prog [0, 65]) (H := K0.hk0) (ob := K0.ob0) (M := 60000) (loose := K0.loose0)
    (d := HandSHeadRun.topDef (OpenLaw.row PySem.Challenge.rw_joinhouse_k00_words_and_errors).prog 65) (kwd := []) K0.ob0_eq K0.run0 (by kernel_rfl) (by kernel_rfl) (by kernel_rfl) (by rfl) (by first | assumption | decide +kernel) (by decide +kernel) ⟨rfl, rfl, rfl, rfl, rfl, by decide +kernel⟩ ?hw ?hc
  case hw => w_witness2
  case hc =>
    refine K0.walk_ofG (l := PySem.Challenge.rw_joinhouse_k00_words_and_errors) (n := 63) (k := 7) (x := "_law_script") (CX := L2.CX0) rfl (by decide) (by kernel_rfl) ⟨rfl, by decide, by decide⟩ ?F (fun _ _ _ _ z => z)
    intro w mg fa h Y G hmg0
    obtain ⟨K, KX, c⟩ := Y
    have hmg : mg ("law" : PySem.Str) = some (.ref fa) := by
      have e : (HandSHeadRun.topDef (OpenLaw.row PySem.Challenge.rw_joinhouse_k00_words_and_errors).prog 65).name = ("law" : PySem.Str) := by kernel_rfl
      rw [← e]
      exact hmg0
    obtain ⟨gL, fd, hb, hF⟩ := K0.facts (P := (PySem.Challenge.rw_joinhouse_k00_words_and_errors).prog) (w := w) KX G c
    have ea : fa = He.ga K "law" := by
      rw [hmg] at gL
      cases gL
      rfl
    subst ea
    have mem : ∀ p ∈ K0.cs0 K, ∃ q ∈ K0.tf0, p = He.cT K q := fun p hp => by
      rcases List.mem_cons.mp hp with e | e
      · exact ⟨_, List.mem_cons_self, e⟩
      · exact ⟨_, List.mem_cons_of_mem _ List.mem_cons_self, List.mem_singleton.mp e⟩
    refine ⟨K, fd, K0.cs0 K, K0.spLaw K (K0.T0 K), KX, fun p hp => ?_, fun p hp => ?_, fun p hp => ?_, hb, fun H a ns hH hS => ⟨a, ns, rfl, hS, fun p hp => ?_, fun _ => rfl⟩, hF⟩
    · obtain ⟨q, hq, rfl⟩ := mem p hp
      exact c.empty q hq
    · obtain ⟨q, hq, rfl⟩ := mem p hp
      exact c.out q hq
    · obtain ⟨q, hq, rfl⟩ := mem p hp
      exact PySem.W.codeHd_of_K KX (c.hd q hq)
    · have e : H p.1 = some (.tbl #[]) := by
        rcases List.mem_cons.mp hp with e | e
        · rw [e]
          exact hH (He.cT K ("_law_namings_right", none)) List.mem_cons_self
        · rw [List.mem_singleton.mp e]
          exact hH (He.cT K ("_law_coprime_right", none)) (List.mem_cons_of_mem _ List.mem_cons_self)
      exact ⟨#[], e, by first | exact True.intro | decide | simp [TriplesOk], fun pos cv z => by cases z⟩
