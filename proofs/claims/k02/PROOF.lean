import PyProof.Rows.All
import Wide.All
import OpenK.AllK
import Wide.FinOn
import PyProof.ReprRoads
import HandS.Walk
import HandS.ForMost
import HandS.IsInst
import HandS.DictComp
import HandS.Wide
import HandS.Zip
import HandS.SetKeys
import HandS.ExcOwn
import HandS.WordsExc
import HandS.TryOnly
import PySem.Challenge.RW_fallingback_k02_orders_of_pasts
set_option Elab.async false
set_option linter.all false
set_option maxRecDepth 100000
set_option maxHeartbeats 1000000
/-! Data in the abstract heap, dicts among them; repr of data; a def whose callers run within no repr. -/
namespace L2.Fb
open PySem PySem.Spec
open PyProof.Rows

/-! ### data -/
def kD : Key → PyData
  | .inl i => .int i
  | .inr x => .str x
mutual
/-- at v stands the data d -/
inductive Da (K : PySem.W.Frag) (H : Hp) : V → PyData → Prop
  | non : Da K H .non .none
  | bl (b : Bool) : Da K H (.bl b) (.bool b)
  | int (i : Int) : Da K H (.int i) (.int i)
  | str (x : Str) : Da K H (.str x) (.str x)
  | lst {a : Addr} {xs : List V} {ds : List PyData} : SqL K H a xs → DaL K H xs ds → Da K H (.ref a) (.list ds)
  | tup {a : Addr} {xs : List V} {ds : List PyData} : SqT K H a xs → DaL K H xs ds → Da K H (.ref a) (.tuple ds)
  | dct {a : Addr} {ks : List (Key × V)} {ds : List (PyData × PyData)} : Rd H a (.dK ks) → DaK K H ks ds → Da K H (.ref a) (.dict ds)
inductive DaL (K : PySem.W.Frag) (H : Hp) : List V → List PyData → Prop
  | nil : DaL K H [] []
  | cons {v : V} {vs : List V} {d : PyData} {ds : List PyData} : Da K H v d → DaL K H vs ds → DaL K H (v :: vs) (d :: ds)
inductive DaK (K : PySem.W.Frag) (H : Hp) : List (Key × V) → List (PyData × PyData) → Prop
  | nil : DaK K H [] []
  | cons {k : Key} {v : V} {r : List (Key × V)} {d : PyData} {ds : List (PyData × PyData)} : Da K H v d → DaK K H r ds → DaK K H ((k, v) :: r) ((kD k, d) :: ds)
end

theorem sqt_same {K : PySem.W.Frag} {H H' : Hp} {a : Addr} {xs : List V} (e : Same H H') (h : SqT K H a xs) : SqT K H' a xs := by
  rcases h with (h | ⟨o, h⟩) | h
  · exact .inl (.inl (e _ _ h))
  · exact .inl (.inr ⟨o, e _ _ h⟩)
  · exact .inr h
theorem rd_same {H H' : Hp} {a : Addr} {u : HO} (e : Same H H') (h : Rd H a u) : Rd H' a u := by
  rcases h with h | ⟨o, h⟩
  · exact .inl (e _ _ h)
  · exact .inr ⟨o, e _ _ h⟩
section
variable {K : PySem.W.Frag} {H H' : Hp}
mutual
theorem Da.same (e : Same H H') : ∀ (d : PyData) {v : V}, Da K H v d → Da K H' v d
  | .none, _, h => by cases h; exact .non
  | .bool _, _, h => by cases h; exact .bl _
  | .int _, _, h => by cases h; exact .int _
  | .str _, _, h => by cases h; exact .str _
  | .list _, _, h => by cases h with | lst a b => exact .lst (e.seq a) (DaL.same e _ b)
  | .tuple _, _, h => by cases h with | tup a b => exact .tup (sqt_same e a) (DaL.same e _ b)
  | .dict _, _, h => by cases h with | dct a b => exact .dct (rd_same e a) (DaK.same e _ b)
theorem DaL.same (e : Same H H') : ∀ (ds : List PyData) {vs : List V}, DaL K H vs ds → DaL K H' vs ds
  | [], _, h => by cases h; exact .nil
  | _ :: _, _, h => by cases h with | cons a b => exact .cons (Da.same e _ a) (DaL.same e _ b)
theorem DaK.same (e : Same H H') : ∀ (ds : List (PyData × PyData)) {vs : List (Key × V)}, DaK K H vs ds → DaK K H' vs ds
  | [], _, h => by cases h; exact .nil
  | _ :: _, _, h => by cases h with | cons a b => exact .cons (Da.same e _ a) (DaK.same e _ b)
end
theorem DaL.len : ∀ {vs : List V} {ds : List PyData}, DaL K H vs ds → vs.length = ds.length
  | _, _, .nil => rfl
  | _, _, .cons _ b => by rw [List.length_cons, List.length_cons, DaL.len b]
theorem DaK.len : ∀ {vs : List (Key × V)} {ds : List (PyData × PyData)}, DaK K H vs ds → vs.length = ds.length
  | _, _, .nil => rfl
  | _, _, .cons _ b => by rw [List.length_cons, List.length_cons, DaK.len b]
end

/-! ### repr of data -/
section
variable {X : Cx} {pins : List (Addr × Obj)} {σ : St} {H : Hp} {s : Shared}

/-- what is read of an object, and how it is shown -/
def Shw (X : Cx) (s : Shared) (u : Value) (d : PyData) : Prop :=
  (∃ as, Reads s.heap u d as) ∧ ∃ bs, ReadAtMost s.heap d.depth bs ∧ ReprK X.prog X.w bs s.heap d.depth u d.shown
def ShwL (X : Cx) (s : Shared) (us : List Value) (ds : List PyData) : Prop :=
  (∃ as, ReadsAll s.heap us ds as) ∧ ∃ bs, ReadAtMost s.heap (PyData.depthAll ds) bs ∧ ReprAllK X.prog X.w bs s.heap (PyData.depthAll ds) us (PyData.shownAll ds)

theorem ShwL.nil : ShwL X s [] [] := ⟨⟨_, .nil⟩, [], (fun _ h => nomatch h), by simp only [PyData.shownAll]; exact .nil⟩
theorem ShwL.cons {u : Value} {us : List Value} {d : PyData} {ds : List PyData} (h : Shw X s u d) (hs : ShwL X s us ds) : ShwL X s (u :: us) (d :: ds) := by
  obtain ⟨⟨as, r⟩, b1, q1, k1⟩ := h
  obtain ⟨⟨as', r'⟩, b2, q2, k2⟩ := hs
  refine ⟨⟨_, .cons r r'⟩, b1 ++ b2, ?_, ?_⟩
  · simp only [PyData.depthAll]
    exact (q1.mono (Nat.le_max_left _ _)).append (q2.mono (Nat.le_max_right _ _))
  · simp only [PyData.depthAll, PyData.shownAll]
    exact .cons ((k1.more fun b hb => List.mem_append_left _ hb).level_le (Nat.le_max_left _ _)) (k2.more_le (fun b hb => List.mem_append_right _ hb) (Nat.le_max_right _ _))


theorem shw_key {k : Key} {u : Value} (h : keyIs k u = true) (hs : (kD k).showable = true) (hz : (kD k).shown.length ≤ sizeLine) : Shw X s u (kD k) := by
  rcases keyIs_shape h with ⟨i, t, rfl, rfl⟩ | ⟨x, t, rfl, rfl⟩
  · exact ⟨⟨_, .int i t⟩, ReprK.of_reads (.int i t) hs (fun z => by simp [kD, PyData.hasDict] at z) hz⟩
  · exact ⟨⟨_, .str x t⟩, ReprK.of_reads (.str x t) hs (fun z => by simp [kD, PyData.hasDict] at z) hz⟩

mutual
theorem Da.shw (I : Inv X pins σ H s) : ∀ (d : PyData) {v : V} {u : Value}, Da X.K H v d → RelV v u → d.showable = true → d.shown.length ≤ sizeLine → Shw X s u d
  | .none, _, _, h, r, hs, hz => by
    cases h
    obtain rfl := r
    exact ⟨⟨_, .none⟩, ReprK.of_reads .none hs (fun z => by simp [PyData.hasDict] at z) hz⟩
  | .bool b, _, _, h, r, hs, hz => by
    cases h
    obtain rfl := r
    exact ⟨⟨_, .bool b⟩, ReprK.of_reads (.bool b) hs (fun z => by simp [PyData.hasDict] at z) hz⟩
  | .int i, _, _, h, r, hs, hz => by
    cases h
    obtain ⟨t, rfl⟩ := r
    exact ⟨⟨_, .int i t⟩, ReprK.of_reads (.int i t) hs (fun z => by simp [PyData.hasDict] at z) hz⟩
  | .str x, _, _, h, r, hs, hz => by
    cases h
    obtain ⟨t, rfl⟩ := r
    exact ⟨⟨_, .str x t⟩, ReprK.of_reads (.str x t) hs (fun z => by simp [PyData.hasDict] at z) hz⟩
  | .list ds, _, _, h, r, hs, hz => by
    cases h with
    | lst a b =>
      obtain rfl := r
      obtain ⟨its, rv, ⟨o, n, ho, hc, _, hd⟩, _⟩ := I.list a
      have hz' : (listText (PyData.shownAll ds)).length ≤ sizeLine := by simpa only [PyData.shown] using hz
      obtain ⟨⟨as, hr⟩, bs, hb, hk⟩ := DaL.shw I ds b rv (by simpa [PyData.showable] using hs) (fun t ht => Nat.le_trans (listText_mem_le ht) hz')
      have R : Reads s.heap (.ref _) (.list ds) _ := .list ho hc hd (by simpa using hr)
      have hna := not_mem_of_deeper R (by simp only [PyData.depth]; omega) hb
      refine ⟨⟨_, R⟩, _, ReadAtMost.cons R (by simp only [PyData.depth]; omega) hb, ?_⟩
      simp only [PyData.depth, PyData.shown]
      cases its with
      | nil =>
        have e0 : PyData.shownAll ds = [] := List.length_eq_zero_iff.mp (by simpa using hk.length_eq)
        rw [e0, listText_nil]
        exact ReprK.listEmpty ho hc hd
      | cons x l => exact ReprK.list ho hc hd hna (by simpa using hk.length_eq) (fun i y e => hk.item i y (by simpa using e))
  | .tuple ds, _, _, h, r, hs, hz => by
    cases h with
    | tup a b =>
      obtain rfl := r
      obtain ⟨its, rv, ⟨o, ho, hc, n, hd⟩, _⟩ := I.tuple a
      have hz' : (tupleText (PyData.shownAll ds)).length ≤ sizeLine := by simpa only [PyData.shown] using hz
      obtain ⟨⟨as, hr⟩, bs, hb, hk⟩ := DaL.shw I ds b rv (by simpa [PyData.showable] using hs) (fun t ht => Nat.le_trans (tupleText_mem_le ht) hz')
      have R : Reads s.heap (.ref _) (.tuple ds) _ := .tuple ho hc hd (by simpa using hr)
      have hna := not_mem_of_deeper R (by simp only [PyData.depth]; omega) hb
      refine ⟨⟨_, R⟩, _, ReadAtMost.cons R (by simp only [PyData.depth]; omega) hb, ?_⟩
      simp only [PyData.depth, PyData.shown]
      exact ReprK.tuple ho hc hd hna (by simpa using hk)
  | .dict ds, _, _, h, r, hs, hz => by
    cases h with
    | dct a b =>
      obtain rfl := r
      obtain ⟨_, hsys, vs, kv, o, es, ep, ho, ⟨hc, _, _⟩, hd, _, hp, _⟩ := dk_rd I.hok a
      have hz' : (dictText (PyData.shownKv ds)).length ≤ sizeLine := by simpa only [PyData.shown] using hz
      obtain ⟨⟨⟨as, hr⟩, b1, hb1, k1⟩, ⟨as', hr'⟩, b2, hb2, k2⟩ := DaK.shw I ds b kv hp (by simpa [PyData.showable] using hs) (fun t ht => Nat.le_trans (dictText_mem_le ht) hz')
      have R : Reads s.heap (.ref _) (.dict ds) _ := .dict ho hc hd hr hr'
      have hb : ReadAtMost s.heap (PyData.depthKv ds) (b1 ++ b2) := (hb1.mono (PyData.depthAll_keys_le ds)).append (hb2.mono (PyData.depthAll_vals_le ds))
      have hna := not_mem_of_deeper R (by simp only [PyData.depth]; omega) hb
      refine ⟨⟨_, R⟩, _, ReadAtMost.cons R (by simp only [PyData.depth]; omega) hb, ?_⟩
      simp only [PyData.depth, PyData.shown, PyData.shownKv_eq]
      exact ReprK.dict ho hc hd hsys hna (ReprEntriesK.of_two es.toList _ _
        (k1.more_le (fun b hb => List.mem_append_left _ hb) (PyData.depthAll_keys_le ds)) (k2.more_le (fun b hb => List.mem_append_right _ hb) (PyData.depthAll_vals_le ds)))
theorem DaL.shw (I : Inv X pins σ H s) : ∀ (ds : List PyData) {vs : List V} {us : List Value}, DaL X.K H vs ds → Vals vs us → PyData.showableAll ds = true → (∀ t ∈ PyData.shownAll ds, t.length ≤ sizeLine) → ShwL X s us ds
  | [], _, _, h, r, _, _ => by
    cases h
    cases r
    exact .nil
  | d :: ds, _, _, h, r, hs, hz => by
    cases h with
    | cons a b =>
      cases r with
      | cons r1 r2 =>
        have hs' : d.showable = true ∧ PyData.showableAll ds = true := by simpa [PyData.showableAll] using hs
        exact .cons (Da.shw I d a r1 hs'.1 (hz _ (by simp only [PyData.shownAll]; exact List.mem_cons_self ..))) (DaL.shw I ds b r2 hs'.2 fun t ht => hz t (by simp only [PyData.shownAll]; exact List.mem_cons_of_mem _ ht))
theorem DaK.shw (I : Inv X pins σ H s) : ∀ (ds : List (PyData × PyData)) {ks : List (Key × V)} {vs : List (Key × Value)} {es : List DictEntry}, DaK X.K H ks ds → KV ks vs → Pairs (mixKind X.prog X.w) es vs → PyData.showableKv ds = true →
    (∀ t ∈ PyData.shownKv ds, t.length ≤ sizeLine) → ShwL X s (es.map (·.key)) (ds.map (·.1)) ∧ ShwL X s (es.map (·.val)) (ds.map (·.2))
  | [], _, _, _, h, r, p, _, _ => by
    cases h
    cases r
    cases p
    exact ⟨.nil, .nil⟩
  | (_, d) :: ds, _, _, _, h, r, p, hs, hz => by
    cases h with
    | cons a b =>
      cases r with
      | cons r1 r2 =>
        obtain ⟨rk, rv⟩ := r1
        cases p with
        | cons p1 p2 p3 =>
          rename_i k v r vk ks e es
          have hs' : ((kD k).showable = true ∧ d.showable = true) ∧ PyData.showableKv ds = true := by simpa [PyData.showableKv] using hs
          have h0 := hz _ (by simp only [PyData.shownKv]; exact List.mem_cons_self ..)
          rw [strLen_append, strLen_append] at h0
          obtain ⟨q1, q2⟩ := DaK.shw I ds b r2 p3 hs'.2 fun t ht => hz t (by simp only [PyData.shownKv]; exact List.mem_cons_of_mem _ ht)
          have rk : k = vk.1 := rk
          have p1 : keyIs vk.1 e.key = true := p1
          rw [← rk] at p1
          refine ⟨.cons (shw_key p1 hs'.1.1 (by omega)) q1, .cons (Da.shw I d a (show RelV v e.val by rw [p2]; exact rv) hs'.1.2 (by omega)) q2⟩
end

/-- repr(x) of data, where no repr runs around -/
def rShow (K : PySem.W.Frag) : List V → Hp → VK → Prop := fun xs H Q => ∃ (v : V) (d : PyData), xs = [v] ∧ Da K H v d ∧ d.showable = true ∧ d.shown.length ≤ sizeLine ∧ d.depth ≤ 60 ∧ Q (.str d.shown) H
theorem call_show (hg : X.A.guards = some []) (hu : X.A.units + 64 < cLine) : CallR X (.builtin "repr") (rShow X.K) := by
  intro pins s σ H xs us Q I r h
  obtain ⟨v, d, rfl, hd, hs, hz, hp, q⟩ := h
  obtain ⟨u, rfl, ru⟩ := vals1 r
  have fin : ∀ (h' : Heap) (t tk : Nat), (∀ b o, s.heap.get? b = some o → h'.get? b = some o) → EP X pins σ Q (.str d.shown t) { s with heap := h', toks := tk } :=
    fun h' t tk k => ⟨.str d.shown, H, I.kept k, ⟨t, rfl⟩, q⟩
  cases hd with
  | non =>
    obtain rfl := ru
    simp only [PyData.shown] at q
    exact PySem.P.repr_of_none ⟨.str _, H, I.tok _, ⟨_, rfl⟩, q⟩
  | bl b =>
    obtain rfl := ru
    simp only [PyData.shown] at q
    exact PySem.P.repr_of_bool ⟨.str _, H, I.tok _, ⟨_, rfl⟩, q⟩
  | int i =>
    obtain ⟨t, rfl⟩ := ru
    simp only [PyData.shown] at q
    exact PySem.P.repr_of_int (by simpa [PyData.showable] using hs) ⟨.str _, H, I.tok _, ⟨_, rfl⟩, q⟩
  | str x =>
    obtain ⟨t, rfl⟩ := ru
    simp only [PyData.shown] at q hz
    exact PySem.P.repr_of_str ⟨.str _, H, I.tok _, ⟨_, rfl⟩, q⟩ hz
  | lst a b =>
    rename_i p xs ds
    obtain rfl := ru
    obtain ⟨its, rv, ⟨o, n, ho, hc, _, hd⟩, _⟩ := I.list a
    have hz' : (listText (PyData.shownAll ds)).length ≤ sizeLine := by simpa only [PyData.shown] using hz
    obtain ⟨⟨as, hr⟩, bs, hb, hk⟩ := DaL.shw I ds b rv (by simpa [PyData.showable] using hs) (fun t ht => Nat.le_trans (listText_mem_le ht) hz')
    have R : Reads s.heap (.ref p) (.list ds) _ := .list ho hc hd (by simpa using hr)
    have hna := not_mem_of_deeper R (by simp only [PyData.depth]; omega) hb
    simp only [PyData.depth] at hp
    simp only [PyData.shown] at fin
    refine call_repr_slot (by omega) ⟨o, ho, hc⟩ F.slot_list_repr.toG ?_
    cases its with
    | nil =>
      have e0 : PyData.shownAll ds = [] := List.length_eq_zero_iff.mp (by simpa using hk.length_eq)
      rw [e0, listText_nil] at fin
      exact call_list_repr_empty ⟨o, ho, hc⟩ ho hd ⟨_, _, rfl, fin _ _ _ fun _ _ e => e⟩
    | cons x l =>
      refine call_list_reprK ho hc hd hna (by simpa using hk.length_eq) (fun i y e => hk.item i y (by simpa using e)) hg (fun b _ => Clear.nil b) ?_ (fun b o e => e) (fun h' u tk k => ⟨_, _, rfl, fin h' u tk k⟩) hz'
      show X.A.units + 1 + (PyData.depthAll ds + 1) < cLine
      omega
  | tup a b =>
    rename_i p xs ds
    obtain rfl := ru
    obtain ⟨its, rv, ⟨o, ho, hc, n, hd⟩, _⟩ := I.tuple a
    have hz' : (tupleText (PyData.shownAll ds)).length ≤ sizeLine := by simpa only [PyData.shown] using hz
    obtain ⟨⟨as, hr⟩, bs, hb, hk⟩ := DaL.shw I ds b rv (by simpa [PyData.showable] using hs) (fun t ht => Nat.le_trans (tupleText_mem_le ht) hz')
    have R : Reads s.heap (.ref p) (.tuple ds) _ := .tuple ho hc hd (by simpa using hr)
    have hna := not_mem_of_deeper R (by simp only [PyData.depth]; omega) hb
    simp only [PyData.depth] at hp
    simp only [PyData.shown] at fin
    refine call_repr_slot (by omega) ⟨o, ho, hc⟩ F.slot_tuple_repr ?_
    refine call_tuple_reprK ho hc hd hna (by simpa using hk) hg (fun b _ => Clear.nil b) ?_ (fun b o e => e) (fun h' u tk k => ⟨_, _, rfl, fin h' u tk k⟩) hz'
    show X.A.units + 1 + (PyData.depthAll ds + 1) < cLine
    omega
  | dct a b =>
    rename_i p ks ds
    obtain rfl := ru
    obtain ⟨_, hsys, vs, kv, o, es, ep, ho, ⟨hc, _, _⟩, hd, _, hps, _⟩ := dk_rd I.hok a
    have hz' : (dictText (PyData.shownKv ds)).length ≤ sizeLine := by simpa only [PyData.shown] using hz
    obtain ⟨⟨⟨as, hr⟩, b1, hb1, k1⟩, ⟨as', hr'⟩, b2, hb2, k2⟩ := DaK.shw I ds b kv hps (by simpa [PyData.showable] using hs) (fun t ht => Nat.le_trans (dictText_mem_le ht) hz')
    have R : Reads s.heap (.ref p) (.dict ds) _ := .dict ho hc hd hr hr'
    have hb : ReadAtMost s.heap (PyData.depthKv ds) (b1 ++ b2) := (hb1.mono (PyData.depthAll_keys_le ds)).append (hb2.mono (PyData.depthAll_vals_le ds))
    have hna := not_mem_of_deeper R (by simp only [PyData.depth]; omega) hb
    simp only [PyData.depth] at hp
    simp only [PyData.shown, PyData.shownKv_eq] at fin
    rw [PyData.shownKv_eq] at hz'
    refine call_repr_slot (by omega) ⟨o, ho, hc⟩ F.slot_dict_repr ?_
    refine call_dict_reprK ho hc hd hsys hna (ReprEntriesK.of_two es.toList _ _
        (k1.more_le (fun b hb => List.mem_append_left _ hb) (PyData.depthAll_keys_le ds)) (k2.more_le (fun b hb => List.mem_append_right _ hb) (PyData.depthAll_vals_le ds)))
        hg (fun b _ => Clear.nil b) ?_ (fun b o e => e) (fun h' u tk k => ⟨_, _, rfl, fin h' u tk k⟩) hz'
    show X.A.units + 1 + (PyData.depthKv ds + 1) < cLine
    omega
end
end L2.Fb

/-! Defs called where no repr runs around: their promise, the rule of a body, of a call, the end of a row. -/
namespace L2.Fb
open PySem PySem.Spec
open PyProof.Rows

/-- as the layer's promise of a def, from callers around whom no repr runs -/
structure FnG (P : Program) (w : World) (K : PySem.W.Frag) (mg : Str → Option Value) (base : Heap) (CX : CXT) (k : Nat) (f : Addr) (fd : FuncData) (ps : List Str) (sp : Sp) : Prop where
  size : ∀ vs H Q E, sp vs H Q E → vs.length = ps.length
  goes : ∀ (A : Around) (outer : List Env) (s : Shared) (H : Hp) (args : Args) (us : List Value) (vs : List V) (Q : VK) (E : XK), A.guards = some [] → Room k A → Env0 P w K mg base A outer s H →
    BindsTo s fd args (ps.zip us) → Vals vs us → sp vs H Q E → codeAny (model P w) A (.call (.ref f) args) (CR CX outer P w H s Q E) s
theorem FnG.of {P : Program} {w : World} {K : PySem.W.Frag} {mg : Str → Option Value} {base : Heap} {CX : CXT} {k : Nat} {f : Addr} {fd : FuncData} {ps : List Str} {sp : Sp} (F : FnOk P w K mg base CX k f fd ps sp) : FnG P w K mg base CX k f fd ps sp :=
  ⟨F.len, fun A outer s H args us vs Q E _ => F.run A outer s H args us vs Q E⟩

section
variable {CX : CXT} {P : Program} {w : World} {K : PySem.W.Frag} {mg : Str → Option Value} {base : Heap} {k : Nat} {f : Addr}
/-- a def by its body -/
theorem okG {x qual : Str} {st : Stmt} {fd : FuncData} {N ps : List Str} {sp : Sp} (F : Fun K x qual st f fd) (S : FnScope N ps (defScope st)) (size : ∀ vs H Q E, sp vs H Q E → vs.length = ps.length)
    (body : ∀ (cdv : Value) (A : Around) (outer : List Env) (s : Shared) (H : Hp) (vs : List V) (Q : VK) (E : XK), (A.deeper (envOfC qual (defScope st) s.heap.objs.size f cdv)).guards = some [] →
      Room k (A.deeper (envOfC qual (defScope st) s.heap.objs.size f cdv)) → sp vs H Q E →
      ∃ t, PSs (cxOf CX P w K mg base N qual (defScope st) f cdv A outer s H E) (defBody st) t ∧ t { nx := fun _ H' => Q .non H', rt := Q } (start N vs) H) : FnG P w K mg base CX (k + 1) f fd ps sp := by
  obtain ⟨oc, od, kV, doc, pm, an, cdv, ct, osl, rfl, lk, hcd⟩ := F.ex
  refine ⟨size, fun A outer s H args us vs Q E hg hr e0 hb r hsp => ?_⟩
  have Kin : K.In s.heap := e0.mod.kin.keeps fun b o e => And.left (e0.bs b o e)
  have nolim : s.heap.NoLimit := e0.mod.nolimit.keeps fun b o e => And.left (e0.bs b o e)
  have kinds : ∀ y ∈ ps.zip us, (defScope st).names.lookup y.1 = some .local ∨ ((defScope st).names.lookup y.1 = some .cell ∧ ((cellsFrom (s.heap.objs.size + 1) (defScope st).names []).lookup y.1).isSome = true) := by
    rintro ⟨n, v⟩ hy
    exact (S.par n (List.of_mem_zip hy).1).elim .inl fun q => .inr ⟨q, PySem.W.cellsFrom_some _ _ _ (.inl q)⟩
  refine codeAny_call_function hr.depth (Kin _ _ lk) rfl S.co S.gen rfl (PySem.W.codeRec_of Kin hcd) (hb _ _ _ _ (wpAny_newFunctionEnv_cells S.kind kinds fun env he s1 x => ?_))
  subst he
  refine ⟨nolim.keeps x.toInCall.keep, codeAny_func ?_⟩
  obtain ⟨t, ht, hq⟩ := body cdv A outer s H vs Q E (by simpa [Around.deeper] using hg) (hr.deeper _) hsp
  have I := inv_start (CX := CX) (P := P) (w := w) (K := K) (mg := mg) (base := base) (E := E) S hr.hd e0 (size _ _ _ _ hsp) r x
  refine wpAny_mono (ht.run [] s1 (start N vs) H _ I hq) (fun fl s' hs => ?_) fun e s' hs => hs
  cases fl with
  | ret u =>
    obtain ⟨v, σ', H', J, rv, q⟩ := hs
    exact ⟨v, H', J.os, J.bare, J.base, J.hok, rv, q⟩
  | next =>
    obtain ⟨σ', H', J, q⟩ := hs
    exact ⟨.non, H', J.os, J.bare, J.base, J.hok, rfl, q⟩
  | brk => exact False.elim (let ⟨_, _, _, q⟩ := hs; q)
  | cont => exact False.elim (let ⟨_, _, _, q⟩ := hs; q)
end

section
variable {X : Cx} {CX : CXT} {k : Nat} {f : Addr} {fd : FuncData} {ps : List Str} {sp : Sp} {E : XK} {x : Str} {p pos : Pos} {e : Expr} {es : List Expr} {t : TA}
/-- a call of such a def from such a body -/
theorem pe_callG (F : FnG X.prog X.w X.K X.mg X.base CX k f fd ps sp) (hgd : X.A.guards = some []) (hr : Room k X.A) (hg : Gl X x) (hm : X.mg x = some (.ref f)) (hk : PySem.W.keepIn X.K (.ref f) = true) (hb : Binds X.K fd ps []) (hx : Passes CX X E)
    (ha : PA X (e :: es) t) (hdb : (x == ("__debug__" : Str)) = false := by decide) (he : starEach (e :: es) X.env = (false, eval e X.env) :: starEach es X.env := by rfl) (hpl : (backTo pos (starEach es X.env)).any (·.1) = false := by rfl) :
    PE X (.Call (.Name x p) (e :: es) [] pos) (tCall sp [] E t) := by
  refine ⟨fun pins s σ H Q I h => wpAny_Call_Name_kw (ld_glob I hg hm ?_ hdb)⟩
  refine PySem.W.callWith_K (h₀ := X.base) I.ok.mod.kin hk (thn (ha.run pos pins s σ H _ I h) fun us s1 ⟨vs, H1, J, r, q⟩ => ⟨J.kIn, wpAny_call ?_⟩) he hpl
  have q : sp vs H1 Q E := by
    have z : sp (vs ++ []) H1 Q E := q
    rw [List.append_nil] at z
    exact z
  have hl : us.length = ps.length := r.length.symm.trans (F.size _ _ _ _ q)
  have hb' := hb s1 us J.kIn (by rw [List.append_nil]; exact hl)
  rw [List.append_nil] at hb'
  refine codeAny_mono (F.goes X.A X.stack s1 H1 ⟨us, []⟩ us vs Q E hgd hr J.env0 hb' r q) fun r s' hq => ?_
  match r, hq with
  | .error e, hq => exact hx pins σ H1 s1 e s' J hq
  | .ok (.ret u), hq => exact J.after hq
  | .ok .next, hq => exact False.elim hq
  | .ok .brk, hq => exact False.elim hq
  | .ok .cont, hq => exact False.elim hq
end

/-- the law's call over the heap behind the top -/
theorem call_of_law {P : Program} {w : World} {K : PySem.W.Frag} {mg mb : Str → Option Value} {CX : CXT} {k : Nat} {fa a : Addr} {fd : FuncData} {x : Str} {sp : Sp} {s : Shared} {vs : List Value} {ns : List Int}
    (kin : K.In s.heap) (hns : s.heap.Ns mainGlobals mg) (hb : s.heap.Ns builtinsNs mb) (hbb : ∀ x : Str, x ≠ "__name__" → mb x = bootBuiltins x) (lim : s.heap.NoLimit) (gens : s.gens = #[])
    (ha : s.heap.get? a = some { cls := .type "list", data := .seq vs.toArray }) (hi : IntsAre vs ns) (hl : ns.length ≤ sizeLine) (hr : Room k callerA)
    (F : ∀ base : Heap, K.In base → base.Ns mainGlobals mg → FnG P w K mg base CX k fa fd [x] sp) (bind : ∀ (s : Shared) (u : Value), BindsTo s fd ⟨[u], []⟩ [(x, u)])
    (hsp : ∀ H : Hp, Only H → SqL K H a (ns.map V.int) → sp [.ref a] H (fun v _ => v = .bl true) fun _ _ _ => False)
    (noX : ∀ H e s', CX [] H s (fun _ _ _ => False) e s' → False) :
    codeAny (model P w) callerA (.call (.ref fa) ⟨[.ref a], []⟩) (fun r s' => r = .ok (.ret (.bool true)) ∧ OldK s.heap s'.heap ∧ s'.os = s.os ∧ AllBare s'.gens) s := by
  have rv := vals_ints hi
  have main : ∀ H : Hp, Only H → SqL K H a (ns.map V.int) → HOk P w H s.heap → (∀ b, H b ≠ none → b = a) → (H a ≠ none → K.lookup a = none) →
      codeAny (model P w) callerA (.call (.ref fa) ⟨[.ref a], []⟩) (fun r s' => r = .ok (.ret (.bool true)) ∧ OldK s.heap s'.heap ∧ s'.os = s.os ∧ AllBare s'.gens) s := by
    intro H hO hS hok hA hK
    have onlyA : ∀ {b : Addr} {u : HO}, H b = some u → b = a := fun {b u} q => hA b fun z => by rw [q] at z; cases z
    have nsK : ∀ {b : Addr} {m : Str → Option Value}, s.heap.Ns b m → (hidT s.heap H).Ns b m := by
      rintro b m ⟨o, es, ep, e, d, r⟩
      refine ⟨o, es, ep, hidT_get e ?_, d, r⟩
      cases q : H b with
      | none => rfl
      | some u =>
        obtain rfl := onlyA q
        rw [ha] at e
        cases e
        exact nomatch (show Data.seq vs.toArray _ = Data.dict es ep from d)
    have kinB : K.In (hidT s.heap H) := by
      intro b o e
      refine hidT_get (kin b o e) ?_
      cases q : H b with
      | none => rfl
      | some u =>
        obtain rfl := onlyA q
        rw [hK fun z => by rw [q] at z; cases z] at e
        cases e
    have M : Mod K mg (hidT s.heap H) := by
      obtain ⟨mc, h1, h2⟩ := lim
      exact ⟨kinB, nsK hns, ⟨mb, nsK hb, hbb⟩, mc, nsK h1, h2⟩
    have e0 : Env0 P w K mg (hidT s.heap H) callerA [] s H := ⟨rfl, M, fun b o e => of_hidT e, Nat.le_of_eq (hidT_size _ _), trivial, fun b z => (nomatch (show b ∈ ([] : List Addr) from z)), hok, .of_eq gens⟩
    have run := (F _ kinB (nsK hns)).goes callerA [] s H ⟨[.ref a], []⟩ [.ref a] [.ref a] _ _ rfl hr e0 (bind s (.ref a)) (.cons rfl .nil) (hsp H hO hS)
    refine codeAny_mono run fun r s' h => ?_
    match r, h with
    | .error e, h => exact (noX H e s' h).elim
    | .ok .next, h => exact False.elim h
    | .ok .brk, h => exact False.elim h
    | .ok .cont, h => exact False.elim h
    | .ok (.ret u), h =>
      obtain ⟨v, H', os, bare, un, hok', r', q⟩ := h
      obtain rfl : v = .bl true := q
      obtain rfl : u = Value.bool true := r'
      refine ⟨rfl, OldK.of_keep fun b o e => ?_, os, bare⟩
      cases q : H b with
      | none => exact un.keep b o e q (fun z => nomatch (show b ∈ ([] : List Addr) from z)) (by simp)
      | some u =>
        rcases hO b with z | ⟨ob, xs, z⟩
        · rw [q] at z
          cases z
        · have e1 := (hok b _ z).1
          have e2 := (hok' b _ (un.frzs b ob _ z)).1
          rw [e] at e1
          cases e1
          exact e2
  cases hk : K.lookup a with
  | some o =>
    have e := kin a o hk
    rw [ha] at e
    cases e
    exact main (fun _ => none) (fun _ => .inl rfl) (.inr ⟨_, vs.toArray, _, hk, rfl, rfl, rfl, by rw [List.size_toArray, hi.length]; exact hl, by simpa using rv⟩) (fun b u z => nomatch (show (none : Option HO) = some u from z)) (fun b z => absurd rfl z) fun z => absurd rfl z
  | none =>
    have one : ∀ b, (if b = a then some (HO.frz { cls := .type "list", data := .seq vs.toArray } (.lst (ns.map V.int))) else none) ≠ none → b = a := by
      intro b z
      by_cases hb : b = a
      · exact hb
      · rw [if_neg hb] at z
        exact absurd rfl z
    refine main (fun b => if b = a then some (.frz { cls := .type "list", data := .seq vs.toArray } (.lst (ns.map V.int))) else none) (fun b => ?_) (.inl (.inr ⟨{ cls := .type "list", data := .seq vs.toArray }, if_pos rfl⟩)) (fun b u z => ?_) one fun _ => hk
    · by_cases hb : b = a
      · exact .inr ⟨_, _, if_pos hb⟩
      · exact .inl (if_neg hb)
    · obtain rfl := one b fun q => by
        have z' : (if b = a then some (HO.frz { cls := .type "list", data := .seq vs.toArray } (.lst (ns.map V.int))) else none) = some u := z
        rw [q] at z'
        cases z'
      have z' := (if_pos rfl).symm.trans z
      cases z'
      exact ⟨ha, by rw [List.length_map]; exact hl, vs, _, rv, ha⟩

/-- the goal that the head leaves, from the law's promise -/
theorem walkG {l : PySem.W.OpenLaw} {n k : Nat} {q : Program} {loose : List Str} {XP : (Str → Option Value) → Heap → Prop} {YP : World → Heap → Prop} {d : DefRec} {K : Params → PySem.W.Frag} {CX : World → CXT} {sp : PySem.W.Frag → Sp} {x : Str}
    (hn : l.most = some n) (hn2 : n ≤ sizeLine) (hdf : d.params.defaults = []) (hr : Room k callerA) (hY : ∀ (w : World) (h : Heap), YP w h → (K w.params).In h)
    (F : ∀ (w : World) (mg : Str → Option Value) (fa : Addr) (h : Heap), (K w.params).In h → h.Ns mainGlobals mg → mg d.name = some (.ref fa) →
      ∃ fd : FuncData, (∀ (s : Shared) (u : Value), BindsTo s fd ⟨[u], []⟩ [(x, u)]) ∧
        ∀ base : Heap, (K w.params).In base → base.Ns mainGlobals mg → FnG l.prog w (K w.params) mg base (CX w) k fa fd [x] (sp (K w.params)))
    (hsp : ∀ (K : PySem.W.Frag) (H : Hp) (a : Addr) (ns : List Int), ns.length ≤ n → Only H → SqL K H a (ns.map V.int) → sp K [.ref a] H (fun v _ => v = .bl true) fun _ _ _ => False)
    (noX : ∀ (w : World) (H : Hp) (s : Shared) (e : Value) (s' : Shared), CX w [] H s (fun _ _ _ => False) e s' → False) :
    PySem.W.WalkO q loose XP YP l.row.toRowW d [] (fun f vs => PySem.call f vs) := by
  refine Att.attach_call hn hdf fun w s₀ s mg mb fa o pm cd doc a vs ns G Y ho hd hcd hmg hobj hints hlen hg => ?_
  obtain ⟨fd, bnd, hF⟩ := F w mg fa _ (hY w _ Y) G.T.g hmg
  exact call_of_law (hY w _ Y) G.T.g G.T.b G.T.builtins G.T.nolimit hg hobj hints (Nat.le_trans hlen hn2) hr hF bnd (fun H hO hS => hsp _ H a ns hlen hO hS) fun H e s' => noX w H s e s'
end L2.Fb

set_option maxHeartbeats 2000000
/-! {k: v for a in xs for b in ys if ..}: the dict comprehension of two clauses. -/
namespace L2.Fb
open PySem PySem.Spec
open PyProof.Rows

section
variable {prog : Program} {w : World} {A : Around} {R : Result → Shared → Prop} {s : Shared} {kx vx t0 i0 i1 t1 : Expr} {ifs0 ifs1 : List Expr} {scope : Scope} {pos : Pos} {it acc : Value} {env : Env}
/-- the expression -/
abbrev dcx (kx vx t0 i0 t1 i1 : Expr) (ifs0 ifs1 : List Expr) (scope : Scope) (pos : Pos) : Expr := .DictComp kx vx [⟨t0, i0, ifs0, 0⟩, ⟨t1, i1, ifs1, 0⟩] scope pos
/-- the tests of a clause -/
abbrev tried (prog : Program) (w : World) (A : Around) (env : Env) (ifs : List Expr) (Q : Bool → Shared → Prop) (E : Value → Shared → Prop) (s : Shared) : Prop :=
  wpAny (model prog w) A (forIn ifs true fun c r => if r = true then do let ok ← isTrue c env (eval c env); pure (ForInStep.yield ok) else pure (ForInStep.yield r)) Q E s
abbrev ouch (prog : Program) (w : World) (A : Around) (env : Env) (R : Result → Shared → Prop) : Value → Shared → Prop := notedBy (model prog w) A env fun x s' => R (.error x) s'

theorem turn_outer : compTurn (dcx kx vx t0 i0 t1 i1 ifs0 ifs1 scope pos) 0 it acc env = (do
      standAt i0.pos
      match ← pyNext it with
      | none => pure (.done .next)
      | some v =>
        letOwnedTupleGo t0 it v
        assign t0 env v
        let mut ok := true
        for c in ifs0 do
          if ok then ok ← isTrue c env (eval c env)
        if ok then
          let x ← eval i1 env
          standAt i1.pos
          let x ← foldedSetIterable i1 env x
          let _ ← runOwn (.compStart (dcx kx vx t0 i0 t1 i1 ifs0 ifs1 scope pos) 1 (← holding [x] (pyIter x)) acc env) env
        again (.compLoop (dcx kx vx t0 i0 t1 i1 ifs0 ifs1 scope pos) 0 it acc env)) := by rfl
theorem turn_inner {D : Addr} : compTurn (dcx kx vx t0 i0 t1 i1 ifs0 ifs1 scope pos) 1 it (.ref D) env = (do
      standAt i1.pos
      match ← pyNext it with
      | none => pure (.done .next)
      | some v =>
        letOwnedTupleGo t1 it v
        assign t1 env v
        let mut ok := true
        for c in ifs1 do
          if ok then ok ← isTrue c env (eval c env)
        if ok then
          (do
            let kv ← eval kx env
            let vv ← holding [kv] (eval vx env)
            standAt { kx.pos with endLine := vx.pos.endLine, endCol := vx.pos.endCol }
            holding [kv, vv] (dictSet D kv vv))
        again (.compLoop (dcx kx vx t0 i0 t1 i1 ifs0 ifs1 scope pos) 1 it (.ref D) env)) := by rfl

theorem outer_loop
    (hs : ∀ x, foldedSetIterable i1 env x = pure x) (I : Nat → Shared → Prop)
    (turn : ∀ n s, I n s → wpAny (model prog w) A (pyNext it) (fun r a => match r with
      | none => R (.ok .next) a
      | some v => wpAny (model prog w) A (letOwnedTupleGo t0 it v) (fun _ b => wpAny (model prog w) A (assign t0 env v) (fun _ c =>
          tried prog w A env ifs0 (fun ok d => if ok = true then wpAny (model prog w) A (eval i1 env) (fun x f => wpAny (model prog w) A (pyIter x) (fun it1 g =>
              codeAny (model prog w) A (.compStart (dcx kx vx t0 i0 t1 i1 ifs0 ifs1 scope pos) 1 it1 acc env) (fun r h => match r with
                | .ok _ => ∃ m, m < n ∧ I m h
                | .error _ => False) g) (ouch prog w A env R) f) (ouch prog w A env R) d
            else ∃ m, m < n ∧ I m d) (ouch prog w A env R) c) (ouch prog w A env R) b) (ouch prog w A env R) a) (ouch prog w A env R) s)
    (n : Nat) (h : I n s) : codeAny (model prog w) A (.compLoop (dcx kx vx t0 i0 t1 i1 ifs0 ifs1 scope pos) 0 it acc env) R s := by
  refine codeAny_loop rfl I (fun n s hI => ?_) n h
  show wpAny _ A ((compTurn (dcx kx vx t0 i0 t1 i1 ifs0 ifs1 scope pos) 0 it acc env).onRaise (fun x => do noteFrame x env; theTreesLotGoes x)) _ _ s
  refine wpAny_noted ?_
  rw [turn_outer]
  refine wpAny_bind (wpAny_standAt (wpAny_bind (wpAny_mono (turn n s hI) (fun r a ha => ?_) fun _ _ z => z)))
  match r, ha with
  | none, ha => exact wpAny_pure ha
  | some v, ha =>
    refine wpAny_bind (wpAny_mono ha (fun _ b hb => wpAny_bind (wpAny_mono hb (fun _ c hc => wpAny_bind (wpAny_mono hc (fun ok d hd => ?_) fun _ _ z => z)) fun _ _ z => z)) fun _ _ z => z)
    match ok, hd with
    | false, hd => exact wpAny_pure ⟨rfl, hd⟩
    | true, hd =>
      refine wpAny_bind (wpAny_mono hd (fun x f hf => wpAny_bind (wpAny_standAt (wpAny_bind (wpAny_of_eq (hs x) (wpAny_bind (wpAny_holding (wpAny_mono hf (fun it1 g hg => ?_) fun _ _ z => z))))))) fun _ _ z => z)
      refine wpAny_bind (wpAny_runOwn ?_)
      rw [Around.mark_none]
      refine codeAny_mono hg fun r h hr => ?_
      match r, hr with
      | .ok f, hr =>
        first
          | exact wpAny_pure ⟨rfl, hr⟩
          | exact wpAny_bind (wpAny_pure (wpAny_pure ⟨rfl, hr⟩))
      | .error x, hr => exact hr.elim

theorem inner_loop {D : Addr} (I : Nat → Shared → Prop)
    (turn : ∀ n s, I n s → wpAny (model prog w) A (pyNext it) (fun r a => match r with
      | none => R (.ok .next) a
      | some v => wpAny (model prog w) A (letOwnedTupleGo t1 it v) (fun _ b => wpAny (model prog w) A (assign t1 env v) (fun _ c =>
          tried prog w A env ifs1 (fun ok d => if ok = true then wpAny (model prog w) A (eval kx env) (fun kv f => wpAny (model prog w) A (eval vx env) (fun vv g =>
              wpAny (model prog w) A (dictSet D kv vv) (fun _ h => ∃ m, m < n ∧ I m h) (ouch prog w A env R) g) (ouch prog w A env R) f) (ouch prog w A env R) d
            else ∃ m, m < n ∧ I m d) (ouch prog w A env R) c) (ouch prog w A env R) b) (ouch prog w A env R) a) (ouch prog w A env R) s)
    (n : Nat) (h : I n s) : codeAny (model prog w) A (.compLoop (dcx kx vx t0 i0 t1 i1 ifs0 ifs1 scope pos) 1 it (.ref D) env) R s := by
  refine codeAny_loop rfl I (fun n s hI => ?_) n h
  show wpAny _ A ((compTurn (dcx kx vx t0 i0 t1 i1 ifs0 ifs1 scope pos) 1 it (.ref D) env).onRaise (fun x => do noteFrame x env; theTreesLotGoes x)) _ _ s
  refine wpAny_noted ?_
  rw [turn_inner]
  refine wpAny_bind (wpAny_standAt (wpAny_bind (wpAny_mono (turn n s hI) (fun r a ha => ?_) fun _ _ z => z)))
  match r, ha with
  | none, ha => exact wpAny_pure ha
  | some v, ha =>
    refine wpAny_bind (wpAny_mono ha (fun _ b hb => wpAny_bind (wpAny_mono hb (fun _ c hc => wpAny_bind (wpAny_mono hc (fun ok d hd => ?_) fun _ _ z => z)) fun _ _ z => z)) fun _ _ z => z)
    match ok, hd with
    | false, hd => exact wpAny_pure ⟨rfl, hd⟩
    | true, hd =>
      exact wpAny_bind (wpAny_bind (wpAny_mono hd (fun kv f hf => wpAny_bind (wpAny_holding (wpAny_mono hf (fun vv g hg => wpAny_bind (wpAny_standAt (wpAny_holding (wpAny_mono hg (fun _ h hh => wpAny_pure ⟨rfl, hh⟩) fun _ _ z => z)))) fun _ _ z => z))) fun _ _ z => z))

theorem inner_start (h0 : codeAny (model prog w) A (.compLoop (dcx kx vx t0 i0 t1 i1 ifs0 ifs1 scope pos) 1 it acc env) R s)
    (h : wpAny (model prog w) A (pyIter it) (fun it' s' => codeAny (model prog w) A (.compLoop (dcx kx vx t0 i0 t1 i1 ifs0 ifs1 scope pos) 1 it' acc env) R s') (ouch prog w A env R) s) : codeAny (model prog w) A (.compStart (dcx kx vx t0 i0 t1 i1 ifs0 ifs1 scope pos) 1 it acc env) R s := by
  refine codeAny_of_tree ?_
  show wpAny _ _ ((compStart (dcx kx vx t0 i0 t1 i1 ifs0 ifs1 scope pos) 1 it acc env).onRaise (fun x => do noteFrame x env; standAt theWindowsPlace)) _ _ s
  refine wpAny_notedAt ?_
  unfold compStart
  show wpAny _ _ (ask >>= _) _ _ s
  refine wpAny_bind (wpAny_askSetting (wpAny_ite ?_))
  split
  · first
      | exact wpAny_bind (wpAny_pure (wpAny_pure ⟨rfl, h0⟩))
      | exact wpAny_pure ⟨rfl, h0⟩
  · refine wpAny_bind (wpAny_rule ?_)
    show wpAny _ _ (standAt i1.pos >>= _) _ _ s
    exact wpAny_bind (wpAny_standAt (wpAny_bind (wpAny_mono h (fun it' s' z => wpAny_pure ⟨rfl, z⟩) fun _ _ z => z)))
end

section
variable {X : Cx}
/-- what such a comprehension asks: behind the first clause's store and tests the second source's own loop, from whose end the next turn is reached -/
def tDc2 (wi : TI) (g : TG) (tt : TT) (wi1 : TI) (g1 : TG) (tt1 : TT) (tk tv : TE) (vs vs1 : List Nat) : TE := fun σ H Q => wi σ H fun J H1 => ∀ D, H1 D = none → ∃ W : Nat → Nat → Hp → Prop, (∃ m, W 0 m (upd H1 D (.dK []))) ∧ ∀ i m H, W i m H →
  (J.stop i H ∧ Q (.ref D) H) ∨ (J.go i H ∧ ∃ Nx : Hp → Prop, (∀ H', Nx H' → ∃ m', m' < m ∧ W (i + 1) m' H') ∧ ∀ x H', J.yld i H x H' → g x (wipe σ vs) H' fun σ2 H2 => wipe σ2 vs = wipe σ vs ∧ tt σ2 H2 fun b H3 =>
    if b = true then wi1 σ2 H3 fun J1 H4 => ∃ W1 : Nat → Nat → Hp → Prop, (∃ m, W1 0 m H4) ∧ ∀ j k H, W1 j k H →
      (J1.stop j H ∧ Nx H) ∨ (J1.go j H ∧ ∃ Nx1 : Hp → Prop, (∀ H', Nx1 H' → ∃ k', k' < k ∧ W1 (j + 1) k' H') ∧ ∀ x H', J1.yld j H x H' → g1 x (wipe σ2 vs1) H' fun σ3 H5 => wipe σ3 vs1 = wipe σ2 vs1 ∧ tt1 σ3 H5 fun b H6 =>
        if b = true then tk σ3 H6 fun y H7 => tv σ3 H7 fun z H8 => ∃ ks k, y = kV k ∧ H8 D = some (.dK ks) ∧ ks.length < sizeLine ∧ Nx1 (upd H8 D (.dK (putK ks k z))) else Nx1 H6)
    else Nx H3)

theorem core_dc2 {pins : List (Addr × Obj)} {s : Shared} {σ : St} {H : Hp} {Q : VK} {pos pos' : Pos} {use : Option (Value → Sem Unit)} {Qf : Value → Shared → Prop} {kx vx t0 i0 t1 i1 : Expr} {ifs0 ifs1 : List Expr} {scope : Scope} {own : List (Str × Nat)} {vs1 : List Nat} {wi wi1 : TI} {g g1 : TG} {tt tt1 : TT} {tk tv : TE} (I : Inv X pins σ H s) (calm : X.calm = true) (hN : X.N.Nodup) (hi : PI X t0 i0 wi)
    (ok : BlkOk X.N X.env.scope scope own) (hv : ∀ i ∈ vs1, i ∈ own.map (·.2))
    (hg : ∀ (s : Shared) (H : Hp) (C : Addr) (cl : List (Str × Addr)) (fp : List Addr), PG (X.blk s H scope (compEnvC scope cl C X.env) fp) t0 g)
    (ht : ∀ (s : Shared) (H : Hp) (C : Addr) (cl : List (Str × Addr)) (fp : List Addr), PTs (X.blk s H scope (compEnvC scope cl C X.env) fp) ifs0 tt)
    (hi1 : ∀ (s : Shared) (H : Hp) (C : Addr) (cl : List (Str × Addr)) (fp : List Addr), PI (X.blk s H scope (compEnvC scope cl C X.env) fp) t1 i1 wi1)
    (hg1 : ∀ (s : Shared) (H : Hp) (C : Addr) (cl : List (Str × Addr)) (fp : List Addr), PG (X.blk s H scope (compEnvC scope cl C X.env) fp) t1 g1)
    (ht1 : ∀ (s : Shared) (H : Hp) (C : Addr) (cl : List (Str × Addr)) (fp : List Addr), PTs (X.blk s H scope (compEnvC scope cl C X.env) fp) ifs1 tt1)
    (hk : ∀ (s : Shared) (H : Hp) (C : Addr) (cl : List (Str × Addr)) (fp : List Addr), PE (X.blk s H scope (compEnvC scope cl C X.env) fp) kx tk)
    (he : ∀ (s : Shared) (H : Hp) (C : Addr) (cl : List (Str × Addr)) (fp : List Addr), PE (X.blk s H scope (compEnvC scope cl C X.env) fp) vx tv)
    (hs : ∀ x, foldedSetIterable i0 X.env x = pure x) (hs1 : ∀ env x, foldedSetIterable i1 env x = pure x) (h : tDc2 wi g tt wi1 g1 tt1 tk tv (own.map (·.2)) vs1 σ H Q)
    (fin : ∀ D C z m H', Inv X pins σ H' z → Q (.ref D) H' → z.heap.Ns C m → FpOk X pins H' C → compPost (model X.prog X.w) X.A X.xe use Qf (.ref D) C (.ok .next) z) :
    wpAny (model X.prog X.w) X.A (comprehension (dcx kx vx t0 i0 t1 i1 ifs0 ifs1 scope pos) scope X.env pos' newDict false (eval i0 X.env) use) Qf X.xe s := by
  have caught : ∀ y ∈ scope.names, y.2 = .free → ∃ c, X.env.cells.lookup y.1 = some c := fun y hy q => I.ok.has _ (ok.free y hy q)
  refine wpAny_comprehension_free (use := use) rfl hs (closure_ok caught) ok.kind (fun y hy q => by rw [ok.uniq y hy, q]) (thn (hi.run pins s σ H _ I h) fun xv a hx => thn hx fun itv b h2 => ?_)
  obtain ⟨it, fp, tn, J, H2, q2, I2, T, st2, f2, q⟩ := h2
  subst q2
  refine wpAny_newObj_type (newEnv_comp ?_)
  generalize hD : b.heap.objs.size = D
  have newD : H2 D = none := I2.hok.fresh (Nat.le_of_eq hD)
  obtain ⟨W, ⟨m0, w0⟩, turn⟩ := q D newD
  generalize hc : ({ b with heap := b.heap.push { cls := .type "dict", data := .dict #[] } } : Shared) = c
  have hcH : c.heap = b.heap.push { cls := .type "dict", data := .dict #[] } := by rw [← hc]
  have I3 : Inv X pins σ (upd H2 D (.dK [])) c := by
    rw [← hc]
    refine I2.laid (t' := b.toks) (fun _ _ z => Heap.get?_push_of_some _ z) (Nat.le_of_eq hD) ?_
    rw [← hD]
    exact dk_empty b.heap I2.big
  have there : ∀ p ∈ fp, p < b.heap.objs.size := fun p hp => let ⟨_, z, _⟩ := T.obj _ _ st2 p hp; Heap.lt_size z
  have f3 : ∀ p ∈ fp, FpOk X pins (upd H2 D (.dK [])) p ∧ p < c.heap.objs.size := by
    intro p hp
    have lt := there p hp
    refine ⟨⟨?_, (f2 p hp).2⟩, by rw [hcH, Heap.size_push]; exact Nat.lt_succ_of_lt lt⟩
    rw [upd_ne (by rw [← hD]; exact Nat.ne_of_lt lt)]
    exact (f2 p hp).1
  have st3 : tn 0 c.heap := T.keep _ _ _ st2 fun p _ o z => by rw [hcH]; exact Heap.get?_push_of_some _ z
  have I4 := block_start I3 ok hN f3
  generalize hcl : cellsFrom (c.heap.objs.size + 1) scope.names (cloFrom X.env.cells scope.names []) = cl at I4
  have Pg := hg c (upd H2 D (.dK [])) c.heap.objs.size cl fp
  have Pt := ht c (upd H2 D (.dK [])) c.heap.objs.size cl fp
  have Pi1 := hi1 c (upd H2 D (.dK [])) c.heap.objs.size cl fp
  have Pg1 := hg1 c (upd H2 D (.dK [])) c.heap.objs.size cl fp
  have Pt1 := ht1 c (upd H2 D (.dK [])) c.heap.objs.size cl fp
  have Pk := hk c (upd H2 D (.dK [])) c.heap.objs.size cl fp
  have Pv := he c (upd H2 D (.dK [])) c.heap.objs.size cl fp
  have none3 : ∀ p ∈ fp, (upd H2 D (.dK [])) p = none := fun p hp => (f3 p hp).1.1
  have lo : (compEnvC scope cl c.heap.objs.size X.env).locals = c.heap.objs.size := rfl
  show codeAny _ _ (.compStart (dcx kx vx t0 i0 t1 i1 ifs0 ifs1 scope pos) 0 (.ref it) (.ref D) (compEnvC scope cl c.heap.objs.size X.env)) (compPost (model X.prog X.w) X.A X.xe use Qf (.ref D) c.heap.objs.size) { c with heap := pushCells (c.heap.push { cls := .type "dict", data := .dict #[] }) scope.names }
  generalize compEnvC scope cl c.heap.objs.size X.env = ce at *
  generalize hH3 : upd H2 D (.dK []) = H3 at *
  generalize hd : ({ c with heap := pushCells (c.heap.push { cls := .type "dict", data := .dict #[] }) scope.names } : Shared) = d at I4 ⊢
  have st4 : tn 0 d.heap := T.keep _ _ _ st3 fun p _ o z => by rw [← hd]; exact pushCells_keeps _ _ _ _ (Heap.get?_push_of_some _ z)
  have stand : ∀ {σ' : St} {H' : Hp} {s' : Shared}, Inv (X.blk c H3 scope ce fp) [] σ' H' s' → (∀ p ∈ fp, H' p = none) → ∀ p ∈ fp, FpOk (X.blk c H3 scope ce fp) [] H' p := fun I' hn p hp =>
    ⟨hn p hp, (I'.ok.exf p hp).1, I'.ok.exfs p hp, .inl hp, fun x z e => (I'.ok.exf p hp).2 x z e, fun y hy => nomatch (show y ∈ ([] : List (Addr × Obj)) from hy)⟩
  -- the outer loop
  have loop : codeAny (model X.prog X.w) X.A (.compLoop (dcx kx vx t0 i0 t1 i1 ifs0 ifs1 scope pos) 0 (.ref it) (.ref D) ce) (compPost (model X.prog X.w) X.A X.xe use Qf (.ref D) c.heap.objs.size) d := by
    refine outer_loop (hs1 ce) (fun n z => ∃ i H', Inv (X.blk c H3 scope ce fp) [] (wipe σ (own.map (·.2))) H' z ∧ tn i z.heap ∧ (∀ p ∈ fp, H' p = none) ∧ W i n H') ?_ m0 ⟨0, H3, I4, st4, none3, w0⟩
    rintro n z5 ⟨i, H5, I5, st5, n5, w5⟩
    rcases turn i n H5 w5 with ⟨stop, qq⟩ | ⟨go, Nx, toNx, step⟩
    · refine thnF (T.done (X.blk c H3 scope ce fp) rfl rfl rfl calm i [] z5 _ H5 (fun _ _ => False) I5 (stand I5 n5) st5 stop) fun r z6 ⟨hr, I6⟩ => ?_
      subst hr
      have I7 : Inv X pins σ H5 z6 := I3.call' (ch := fp) I6.os I6.base I6.hok I6.bare fun p hp =>
        have y := (f3 p hp).1.2
        ⟨y.2.2.1, y.1, y.2.2.2.1, y.2.2.2.2⟩
      obtain ⟨m, hm, _⟩ := I6.loc
      have hm : z6.heap.Ns ce.locals m := hm
      have freeC : H5 ce.locals = none := I6.free
      rw [lo] at hm freeC
      exact fin D c.heap.objs.size z6 m H5 I7 qq hm (I3.fpOk (Nat.le_refl _) freeC)
    · refine thnF (T.item (X.blk c H3 scope ce fp) rfl rfl rfl calm i [] z5 _ H5 (fun _ _ => False) I5 (stand I5 n5) st5 go) fun r z6 ⟨u, hr, h6⟩ => ?_
      subst hr
      refine thnF h6 fun _ z7 ⟨x, H7, I7, r7, y7, st7, n7⟩ => ?_
      refine thnF (Pg.run _ z7 _ H7 x u _ (I7.pinned (stand I7 n7) (T.obj _ _ st7)) r7 (step x H7 y7)) fun _ z8 ⟨σ8, H8, I8, hw8, q8⟩ => ?_
      refine thnF (Pt.run _ z8 σ8 H8 _ I8 q8) fun ok9 z9 ⟨H9, I9, q9⟩ => ?_
      have back : ∀ {σ9 : St} {z : Shared} {H' : Hp}, Inv (X.blk c H3 scope ce fp) ([] ++ pinsAt fp z7.heap) σ9 H' z → (wipe σ (own.map (·.2))).length = σ9.length → (∀ (j : Nat) v, (wipe σ (own.map (·.2)))[j]? = some (some v) → σ9[j]? = some (some v)) → Nx H' →
          ∃ m, m < n ∧ ∃ i H', Inv (X.blk c H3 scope ce fp) [] (wipe σ (own.map (·.2))) H' z ∧ tn i z.heap ∧ (∀ p ∈ fp, H' p = none) ∧ W i m H' := by
        intro σ9 z H' I' hl hk nx
        obtain ⟨m', lt, w'⟩ := toNx H' nx
        have pinned : ∀ p ∈ fp, ∀ o, z7.heap.get? p = some o → z.heap.get? p = some o ∧ H' p = none := fun p hp o eo =>
          have y := I'.pin (p, o) (List.mem_append_right _ (List.mem_append_right _ (mem_pinsAt hp eo)))
          ⟨y.1, y.2.1⟩
        refine ⟨m', lt, i + 1, H', (I'.unpinned (pins := [])).weak hl hk, T.keep _ _ _ st7 fun p hp o eo => (pinned p hp o eo).1, fun p hp => ?_, w'⟩
        obtain ⟨o, eo, _⟩ := T.obj _ _ st7 p hp
        exact (pinned p hp o eo).2
      have len8 : (wipe σ (own.map (·.2))).length = σ8.length := by rw [← hw8, wipe_length]
      have known8 : ∀ (j : Nat) v, (wipe σ (own.map (·.2)))[j]? = some (some v) → σ8[j]? = some (some v) := fun j v e => by
        rw [← hw8] at e
        exact (wipe_some e).1
      have known9 : ∀ (j : Nat) v, (wipe σ (own.map (·.2)))[j]? = some (some v) → (wipe σ8 vs1)[j]? = some (some v) := fun j v e => by
        rw [← hw8] at e
        have y := wipe_some e
        rw [wipe_out fun z => y.2 (hv j z)]
        exact y.1
      cases ok9 with
      | false =>
        simp only [Bool.false_eq_true, if_false] at q9 ⊢
        exact back I9 len8 known8 q9
      | true =>
        simp only [if_true] at q9 ⊢
        refine thnF (Pi1.run _ z9 σ8 H9 _ I9 q9) fun xv z10 hx => thnF hx fun itv z11 h11 => ?_
        obtain ⟨it1, fp1, tn1, J1, H11, e1, I11, T1, st11, f11, W1, ⟨m1, w1⟩, turn1⟩ := h11
        subst e1
        have stand1 : ∀ {H' : Hp}, (∀ p ∈ fp1, H' p = none) → ∀ p ∈ fp1, FpOk (X.blk c H3 scope ce fp) ([] ++ pinsAt fp z7.heap) H' p := fun hn p hp => ⟨hn p hp, (f11 p hp).2⟩
        have loop1 : codeAny (model X.prog X.w) X.A (.compLoop (dcx kx vx t0 i0 t1 i1 ifs0 ifs1 scope pos) 1 (.ref it1) (.ref D) ce) (fun r z => match r with
            | .ok _ => ∃ m, m < n ∧ ∃ i H', Inv (X.blk c H3 scope ce fp) [] (wipe σ (own.map (·.2))) H' z ∧ tn i z.heap ∧ (∀ p ∈ fp, H' p = none) ∧ W i m H'
            | .error _ => False) z11 := by
          refine inner_loop (fun k z => ∃ j H', Inv (X.blk c H3 scope ce fp) ([] ++ pinsAt fp z7.heap) (wipe σ8 vs1) H' z ∧ tn1 j z.heap ∧ (∀ p ∈ fp1, H' p = none) ∧ W1 j k H') ?_ m1 ⟨0, H11, I11.weak (wipe_length _ _) (fun j v e => (wipe_some e).1), st11, fun p hp => (f11 p hp).1, w1⟩
          rintro k z12 ⟨j, H12, I12, st12, n12, w12⟩
          rcases turn1 j k H12 w12 with ⟨stop1, nx1⟩ | ⟨go1, Nx1, toNx1, step1⟩
          · refine thnF (T1.done (X.blk c H3 scope ce fp) rfl rfl rfl calm j _ z12 (wipe σ8 vs1) H12 (fun _ _ => False) I12 (stand1 n12) st12 stop1) fun r z13 ⟨hr, I13⟩ => ?_
            subst hr
            exact back I13 (len8.trans (wipe_length σ8 vs1).symm) known9 nx1
          · refine thnF (T1.item (X.blk c H3 scope ce fp) rfl rfl rfl calm j _ z12 (wipe σ8 vs1) H12 (fun _ _ => False) I12 (stand1 n12) st12 go1) fun r z13 ⟨u1, hr, h13⟩ => ?_
            subst hr
            refine thnF h13 fun _ z14 ⟨x1, H14, I14, r14, y14, st14, n14⟩ => ?_
            refine thnF (Pg1.run _ z14 (wipe σ8 vs1) H14 x1 u1 _ (I14.pinned (stand1 n14) (T1.obj _ _ st14)) r14 (step1 x1 H14 y14)) fun _ z15 ⟨σ15, H15, I15, hw15, q15⟩ => ?_
            refine thnF (Pt1.run _ z15 σ15 H15 _ I15 q15) fun ok16 z16 ⟨H16, I16, q16⟩ => ?_
            have back1 : ∀ {z : Shared} {H' : Hp}, Inv (X.blk c H3 scope ce fp) (([] ++ pinsAt fp z7.heap) ++ pinsAt fp1 z14.heap) σ15 H' z → Nx1 H' →
                ∃ m, m < k ∧ ∃ j H', Inv (X.blk c H3 scope ce fp) ([] ++ pinsAt fp z7.heap) (wipe σ8 vs1) H' z ∧ tn1 j z.heap ∧ (∀ p ∈ fp1, H' p = none) ∧ W1 j m H' := by
              intro z H' I' nx
              obtain ⟨m', lt, w'⟩ := toNx1 H' nx
              have pinned : ∀ p ∈ fp1, ∀ o, z14.heap.get? p = some o → z.heap.get? p = some o ∧ H' p = none := fun p hp o eo =>
                have y := I'.pin (p, o) (List.mem_append_right _ (List.mem_append_right _ (mem_pinsAt hp eo)))
                ⟨y.1, y.2.1⟩
              refine ⟨m', lt, j + 1, H', I'.unpinned.weak (by rw [← hw15, wipe_length]) (fun j v e => by rw [← hw15] at e; exact (wipe_some e).1), T1.keep _ _ _ st14 fun p hp o eo => (pinned p hp o eo).1, fun p hp => ?_, w'⟩
              obtain ⟨o, eo, _⟩ := T1.obj _ _ st14 p hp
              exact (pinned p hp o eo).2
            cases ok16 with
            | false =>
              simp only [Bool.false_eq_true, if_false] at q16 ⊢
              exact back1 I16 q16
            | true =>
              simp only [if_true] at q16 ⊢
              refine thnF (Pk.run _ z16 σ15 H16 _ I16 q16) fun kv z17 ⟨yk, H17, I17, r17, q17⟩ => ?_
              refine thnF (Pv.run _ z17 σ15 H17 _ I17 q17) fun vv z18 ⟨yv, H18, I18, r18, ks, key, ek, hD18, hz18, nx⟩ => ?_
              subst ek
              exact d_dictSet (X := X.blk c H3 scope ce fp) I18 hD18 hz18 r17 r18 fun z19 I19 => back1 I19 nx
        exact inner_start loop1 (T1.self X.A 0 _ _ _ st11 loop1)
  exact codeAny_compStart_dict loop (T.self X.A 0 _ _ _ st4 loop)
theorem pe_dc2 {pos : Pos} {kx vx t0 i0 t1 i1 : Expr} {ifs0 ifs1 : List Expr} {scope : Scope} {own : List (Str × Nat)} {vs1 : List Nat} {wi wi1 : TI} {g g1 : TG} {tt tt1 : TT} {tk tv : TE} (calm : X.calm = true) (hN : X.N.Nodup) (hi : PI X t0 i0 wi)
    (ok : BlkOk X.N X.env.scope scope own) (hv : ∀ i ∈ vs1, i ∈ own.map (·.2))
    (hg : ∀ (s : Shared) (H : Hp) (C : Addr) (cl : List (Str × Addr)) (fp : List Addr), PG (X.blk s H scope (compEnvC scope cl C X.env) fp) t0 g)
    (ht : ∀ (s : Shared) (H : Hp) (C : Addr) (cl : List (Str × Addr)) (fp : List Addr), PTs (X.blk s H scope (compEnvC scope cl C X.env) fp) ifs0 tt)
    (hi1 : ∀ (s : Shared) (H : Hp) (C : Addr) (cl : List (Str × Addr)) (fp : List Addr), PI (X.blk s H scope (compEnvC scope cl C X.env) fp) t1 i1 wi1)
    (hg1 : ∀ (s : Shared) (H : Hp) (C : Addr) (cl : List (Str × Addr)) (fp : List Addr), PG (X.blk s H scope (compEnvC scope cl C X.env) fp) t1 g1)
    (ht1 : ∀ (s : Shared) (H : Hp) (C : Addr) (cl : List (Str × Addr)) (fp : List Addr), PTs (X.blk s H scope (compEnvC scope cl C X.env) fp) ifs1 tt1)
    (hk : ∀ (s : Shared) (H : Hp) (C : Addr) (cl : List (Str × Addr)) (fp : List Addr), PE (X.blk s H scope (compEnvC scope cl C X.env) fp) kx tk)
    (he : ∀ (s : Shared) (H : Hp) (C : Addr) (cl : List (Str × Addr)) (fp : List Addr), PE (X.blk s H scope (compEnvC scope cl C X.env) fp) vx tv)
    (hs : ∀ x, foldedSetIterable i0 X.env x = pure x := by intro _; rfl) (hs1 : ∀ env x, foldedSetIterable i1 env x = pure x := by intro _ _; rfl) :
    PE X (.DictComp kx vx [⟨t0, i0, ifs0, 0⟩, ⟨t1, i1, ifs1, 0⟩] scope pos) (tDc2 wi g tt wi1 g1 tt1 tk tv (own.map (·.2)) vs1) := by
  refine ⟨fun pins s σ H Q I h => ?_⟩
  rw [arm_eval_DictComp]
  refine core_dc2 I calm hN hi ok hv hg ht hi1 hg1 ht1 hk he hs hs1 h fun D C z m H' J q hm fp => ⟨m, hm, fun h'' sb => ?_⟩
  obtain ⟨f0, f1, _, f5, f6, f7⟩ := fp
  exact ⟨.ref D, H', J.turned (t' := z.toks) (fun p o hp eo => (sb.2 p hp).trans eo) f0 f1 f5 f6 f7, rfl, q⟩

/-- the store of a dict comprehension at a name, within its frame -/
theorem in_frame {kx vx : Expr} {gs : List Comprehension} {scope : Scope} {pos py : Pos} {y : Str} {l : Nat} {env : Env} (hk : env.scope.kind = .function) (hy : env.scope.names.lookup y = some .local) (hl : (py.line == pos.line) = true)
    (ha : (scope.names.any fun (n, k) => n == y && (k == .local || k == .cell)) = false) : swapsWith (.DictComp kx vx gs scope pos) (some (.Name y py)) l env = pure true := by
  have k1 : env.kindOf y = some .local := hy
  have k2 : env.blockKind = .function := by
    unfold Env.blockKind
    rw [hk]
    rfl
  unfold swapsWith
  simp only [k2, k1, ha, Expr.pos, hl]
  rfl
theorem stored {pins : List (Addr × Obj)} {σ : St} {s : Shared} {D : Ends} {i : Nat} {y : Str} {py : Pos} (hN : X.N.Nodup) (hy : X.N[i]? = some y) (loc : X.env.scope.names.lookup y = some .local) {L C : Addr} {m : Str → Option Value} {H' : Hp} (J : Inv X pins σ H' s)
    (q : gName i (.ref L) σ H' D.nx) (hm : s.heap.Ns C m) (fp : FpOk X pins H' C) : compPost (model X.prog X.w) X.A X.xe (some (assign (.Name y py) X.env)) (fun _ z => SP X pins D .next z) (.ref L) C (.ok .next) s := by
  show wpAny _ _ (assign (.Name y py) X.env (.ref L)) _ _ _
  obtain ⟨f0, f1, f2, f5, f6, f7⟩ := fp
  refine wpAny_assign_Name (store_ok2 (v := V.ref L) J hN hy (.inl loc) rfl (fun z I2 ⟨a, sb, ha⟩ => ?_) (.inr loc))
  have apart : C ≠ a := ha.elim (fun q => by rw [q]; exact f1) fun q e => f6 y a q e.symm
  exact ⟨m, hm.sameBut sb apart, fun h3 sb3 => ⟨_, H', I2.turned (t' := z.toks) (fun p o hp eo => (sb3.2 p hp).trans eo) f0 f1 f5 f6 f7, q⟩⟩
theorem ps_setDc2 {i : Nat} {y : Str} {py pos spos : Pos} {kx vx t0 i0 t1 i1 : Expr} {ifs0 ifs1 : List Expr} {scope : Scope} {own : List (Str × Nat)} {vs1 : List Nat} {wi wi1 : TI} {g g1 : TG} {tt tt1 : TT} {tk tv : TE} (calm0 : X.calm = true) (nd : X.N.Nodup) (hy : X.N[i]? = some y) (loc : X.env.scope.names.lookup y = some .local)
    (sw : swapsWith (.DictComp kx vx [⟨t0, i0, ifs0, 0⟩, ⟨t1, i1, ifs1, 0⟩] scope pos) (some (.Name y py)) spos.line X.env = pure true) (hi : PI X t0 i0 wi)
    (ok : BlkOk X.N X.env.scope scope own) (hv : ∀ i ∈ vs1, i ∈ own.map (·.2))
    (hg : ∀ (s : Shared) (H : Hp) (C : Addr) (cl : List (Str × Addr)) (fp : List Addr), PG (X.blk s H scope (compEnvC scope cl C X.env) fp) t0 g)
    (ht : ∀ (s : Shared) (H : Hp) (C : Addr) (cl : List (Str × Addr)) (fp : List Addr), PTs (X.blk s H scope (compEnvC scope cl C X.env) fp) ifs0 tt)
    (hi1 : ∀ (s : Shared) (H : Hp) (C : Addr) (cl : List (Str × Addr)) (fp : List Addr), PI (X.blk s H scope (compEnvC scope cl C X.env) fp) t1 i1 wi1)
    (hg1 : ∀ (s : Shared) (H : Hp) (C : Addr) (cl : List (Str × Addr)) (fp : List Addr), PG (X.blk s H scope (compEnvC scope cl C X.env) fp) t1 g1)
    (ht1 : ∀ (s : Shared) (H : Hp) (C : Addr) (cl : List (Str × Addr)) (fp : List Addr), PTs (X.blk s H scope (compEnvC scope cl C X.env) fp) ifs1 tt1)
    (hk : ∀ (s : Shared) (H : Hp) (C : Addr) (cl : List (Str × Addr)) (fp : List Addr), PE (X.blk s H scope (compEnvC scope cl C X.env) fp) kx tk)
    (he : ∀ (s : Shared) (H : Hp) (C : Addr) (cl : List (Str × Addr)) (fp : List Addr), PE (X.blk s H scope (compEnvC scope cl C X.env) fp) vx tv)
    (hs : ∀ x, foldedSetIterable i0 X.env x = pure x := by intro _; rfl) (hs1 : ∀ env x, foldedSetIterable i1 env x = pure x := by intro _ _; rfl) :
    PS X (.Assign [.Name y py] (.DictComp kx vx [⟨t0, i0, ifs0, 0⟩, ⟨t1, i1, ifs1, 0⟩] scope pos) spos) (tAsg (tDc2 wi g tt wi1 g1 tt1 tk tv (own.map (·.2)) vs1) (gName i)) := by
  refine ⟨fun pins s σ H D I h => ?_⟩
  rw [exec_Assign_Name_used _ _ _ _ sw]
  refine wpAny_bind (wpAny_standAt (wpAny_bind ?_))
  show wpAny _ X.A (do let _ ← comprehension (dcx kx vx t0 i0 t1 i1 ifs0 ifs1 scope pos) scope X.env (firstIterPos [⟨t0, i0, ifs0, 0⟩, ⟨t1, i1, ifs1, 0⟩] pos) newDict false (eval i0 X.env) (some (assign (.Name y py) X.env))) _ _ s
  have h : tDc2 wi g tt wi1 g1 tt1 tk tv (own.map (·.2)) vs1 σ H (fun x H1 => gName i x σ H1 D.nx) := h
  exact wpAny_bind (thn (core_dc2 (Qf := fun _ z => SP X pins D .next z) I calm0 nd hi ok hv hg ht hi1 hg1 ht1 hk he hs hs1 h fun L C z m H' J q hm fp => stored nd hy loc J q hm fp) fun _ z hq => wpAny_pure (wpAny_pure hq))
theorem ps_setDc {i : Nat} {y : Str} {py pos spos : Pos} {kx vx tg iter : Expr} {ifs : List Expr} {scope : Scope} {own : List (Str × Nat)} {wi : TI} {g : TG} {tt : TT} {tk tv : TE} (calm0 : X.calm = true) (nd : X.N.Nodup) (hy : X.N[i]? = some y) (loc : X.env.scope.names.lookup y = some .local)
    (sw : swapsWith (.DictComp kx vx [⟨tg, iter, ifs, 0⟩] scope pos) (some (.Name y py)) spos.line X.env = pure true) (hi : PI X tg iter wi) (ok : BlkOk X.N X.env.scope scope own)
    (hg : ∀ (s : Shared) (H : Hp) (C : Addr) (cl : List (Str × Addr)) (fp : List Addr), PG (X.blk s H scope (compEnvC scope cl C X.env) fp) tg g)
    (ht : ∀ (s : Shared) (H : Hp) (C : Addr) (cl : List (Str × Addr)) (fp : List Addr), PTs (X.blk s H scope (compEnvC scope cl C X.env) fp) ifs tt)
    (hk : ∀ (s : Shared) (H : Hp) (C : Addr) (cl : List (Str × Addr)) (fp : List Addr), PE (X.blk s H scope (compEnvC scope cl C X.env) fp) kx tk)
    (he : ∀ (s : Shared) (H : Hp) (C : Addr) (cl : List (Str × Addr)) (fp : List Addr), PE (X.blk s H scope (compEnvC scope cl C X.env) fp) vx tv) (hs : ∀ x, foldedSetIterable iter X.env x = pure x := by intro _; rfl) :
    PS X (.Assign [.Name y py] (.DictComp kx vx [⟨tg, iter, ifs, 0⟩] scope pos) spos) (tAsg (tDc wi g tt tk tv (own.map (·.2))) (gName i)) := by
  refine ⟨fun pins s σ H D I h => ?_⟩
  rw [exec_Assign_Name_used _ _ _ _ sw]
  refine wpAny_bind (wpAny_standAt (wpAny_bind ?_))
  show wpAny _ X.A (do let _ ← comprehension (.DictComp kx vx [⟨tg, iter, ifs, 0⟩] scope pos) scope X.env (firstIterPos [⟨tg, iter, ifs, 0⟩] pos) newDict false (eval iter X.env) (some (assign (.Name y py) X.env))) _ _ s
  have h : tDc wi g tt tk tv (own.map (·.2)) σ H (fun x H1 => gName i x σ H1 D.nx) := h
  exact wpAny_bind (thn (dc_core (Qf := fun _ z => SP X pins D .next z) calm0 nd I hi ok hg ht hk he hs h fun L C z m H' J q hm fp => stored nd hy loc J q hm fp) fun _ z hq => wpAny_pure (wpAny_pure hq))
end
end L2.Fb

/-! Words: defs and their promises in one; what is read stays readable; a dict walked by its keys, locked or not; comprehensions as filterMap. -/
namespace L2.Fb
open PySem PySem.Spec
open PyProof.Rows

/-! ### defs -/
/-- a def as the top left it -/
def Dfn (K : PySem.W.Frag) (mg : Str → Option Value) (x : Str) (st : Stmt) (ps : List Str) : Prop := ∃ (f : Addr) (fd : FuncData), Fun K x x st f fd ∧ Binds K fd ps [] ∧ mg x = some (.ref f)
/-- .. and its promise -/
def Cal (P : Program) (w : World) (K : PySem.W.Frag) (mg : Str → Option Value) (base : Heap) (CX : CXT) (k : Nat) (x : Str) (st : Stmt) (ps : List Str) (sp : Sp) : Prop :=
  ∃ (f : Addr) (fd : FuncData), Fun K x x st f fd ∧ Binds K fd ps [] ∧ mg x = some (.ref f) ∧ FnOk P w K mg base CX k f fd ps sp
def CalG (P : Program) (w : World) (K : PySem.W.Frag) (mg : Str → Option Value) (base : Heap) (CX : CXT) (k : Nat) (x : Str) (st : Stmt) (ps : List Str) (sp : Sp) : Prop :=
  ∃ (f : Addr) (fd : FuncData), Fun K x x st f fd ∧ Binds K fd ps [] ∧ mg x = some (.ref f) ∧ FnG P w K mg base CX k f fd ps sp
section
variable {P : Program} {w : World} {K : PySem.W.Frag} {mg : Str → Option Value} {base : Heap} {CX : CXT} {k : Nat} {x : Str} {st : Stmt} {ps : List Str} {sp : Sp}
theorem Dfn.cal (D : Dfn K mg x st ps) (h : ∀ f fd, Fun K x x st f fd → FnOk P w K mg base CX k f fd ps sp) : Cal P w K mg base CX k x st ps sp :=
  let ⟨f, fd, F, b, g⟩ := D
  ⟨f, fd, F, b, g, h f fd F⟩
theorem Dfn.calG (D : Dfn K mg x st ps) (h : ∀ f fd, Fun K x x st f fd → FnG P w K mg base CX k f fd ps sp) : CalG P w K mg base CX k x st ps sp :=
  let ⟨f, fd, F, b, g⟩ := D
  ⟨f, fd, F, b, g, h f fd F⟩
end
def tCal (sp : Sp) (E : XK) (t : TA) : TE := fun σ H Q => t σ H fun vs H1 => sp vs H1 Q E
section
variable {X : Cx} {CX : CXT} {k : Nat} {st : Stmt} {ps : List Str} {sp : Sp} {E : XK} {x : Str} {p pos : Pos} {e : Expr} {es : List Expr} {t : TA}
theorem pe_callC (C : Cal X.prog X.w X.K X.mg X.base CX k x st ps sp) (hr : Room k X.A) (hg : Gl X x) (hx : Passes CX X E) (ha : PA X (e :: es) t) (hdb : (x == ("__debug__" : Str)) = false := by decide)
    (he : starEach (e :: es) X.env = (false, eval e X.env) :: starEach es X.env := by rfl) (hpl : (backTo pos (starEach es X.env)).any (·.1) = false := by rfl) : PE X (.Call (.Name x p) (e :: es) [] pos) (tCal sp E t) := by
  obtain ⟨f, fd, F, b, g, ok⟩ := C
  have h := pe_call (p := p) (pos := pos) ok hr hg g F.kp b .nil hx ha hdb he hpl
  refine ⟨fun pins s σ H Q I q => h.run pins s σ H Q I ?_⟩
  show t σ H fun vs H1 => sp (vs ++ []) H1 Q E
  have z : t σ H fun vs H1 => sp vs H1 Q E := q
  simpa only [List.append_nil] using z
theorem pe_callCG (C : CalG X.prog X.w X.K X.mg X.base CX k x st ps sp) (gd : X.A.guards = some []) (hr : Room k X.A) (hg : Gl X x) (hx : Passes CX X E) (ha : PA X (e :: es) t) (hdb : (x == ("__debug__" : Str)) = false := by decide)
    (he : starEach (e :: es) X.env = (false, eval e X.env) :: starEach es X.env := by rfl) (hpl : (backTo pos (starEach es X.env)).any (·.1) = false := by rfl) : PE X (.Call (.Name x p) (e :: es) [] pos) (tCal sp E t) := by
  obtain ⟨f, fd, F, b, g, ok⟩ := C
  have h := pe_callG (p := p) (pos := pos) ok gd hr hg g F.kp b hx ha hdb he hpl
  refine ⟨fun pins s σ H Q I q => h.run pins s σ H Q I ?_⟩
  show t σ H fun vs H1 => sp (vs ++ []) H1 Q E
  have z : t σ H fun vs H1 => sp vs H1 Q E := q
  simpa only [List.append_nil] using z
end

/-! ### what stays readable -/
/-- whatever may be read in H may be read in H' -/
def Le (H H' : Hp) : Prop := ∀ a u, Rd H a u → Rd H' a u
theorem Le.refl (H : Hp) : Le H H := fun _ _ h => h
theorem Le.trans {H H1 H2 : Hp} (a : Le H H1) (b : Le H1 H2) : Le H H2 := fun x u h => b x u (a x u h)
theorem same_le {H H' : Hp} (e : Same H H') : Le H H' := fun _ _ h => rd_same e h
theorem Le.none {H H' : Hp} (e : Le H H') {p : Addr} (h : H' p = none) : H p = none := by
  cases q : H p with
  | none => rfl
  | some u =>
    rcases e p u (.inl q) with z | ⟨o, z⟩
    · rw [h] at z
      cases z
    · rw [h] at z
      cases z
section
variable {K : PySem.W.Frag} {H H' : Hp}
theorem Le.seq {a : Addr} {xs : List V} (e : Le H H') (h : SqL K H a xs) : SqL K H' a xs := h.elim (fun q => .inl (e _ _ q)) .inr
theorem Le.sqt {a : Addr} {xs : List V} (e : Le H H') (h : SqT K H a xs) : SqT K H' a xs := h.elim (fun q => .inl (e _ _ q)) .inr
mutual
theorem Da.le (e : Le H H') : ∀ (d : PyData) {v : V}, Da K H v d → Da K H' v d
  | .none, _, h => by cases h; exact .non
  | .bool _, _, h => by cases h; exact .bl _
  | .int _, _, h => by cases h; exact .int _
  | .str _, _, h => by cases h; exact .str _
  | .list _, _, h => by cases h with | lst a b => exact .lst (e.seq a) (DaL.le e _ b)
  | .tuple _, _, h => by cases h with | tup a b => exact .tup (e.sqt a) (DaL.le e _ b)
  | .dict _, _, h => by cases h with | dct a b => exact .dct (e _ _ a) (DaK.le e _ b)
theorem DaL.le (e : Le H H') : ∀ (ds : List PyData) {vs : List V}, DaL K H vs ds → DaL K H' vs ds
  | [], _, h => by cases h; exact .nil
  | _ :: _, _, h => by cases h with | cons a b => exact .cons (Da.le e _ a) (DaL.le e _ b)
theorem DaK.le (e : Le H H') : ∀ (ds : List (PyData × PyData)) {vs : List (Key × V)}, DaK K H vs ds → DaK K H' vs ds
  | [], _, h => by cases h; exact .nil
  | _ :: _, _, h => by cases h with | cons a b => exact .cons (Da.le e _ a) (DaK.le e _ b)
end
theorem same_new {p : Addr} {o : HO} (h : H p = Option.none) : Same H (upd H p o) := fun b x e => by
  rw [upd_ne (ne_of_none e h)]
  exact e
theorem same_mut {p : Addr} {o : HO} {H0 : Hp} (s : Same H0 H) (h : H0 p = Option.none) : Same H0 (upd H p o) := fun b x e => by
  rw [upd_ne (ne_of_none e h)]
  exact s _ _ e
theorem DaL.at : ∀ {xs : List V} {ds : List PyData}, DaL K H xs ds → ∀ (i : Nat) (x : V), xs[i]? = some x → ∃ d, ds[i]? = some d ∧ Da K H x d
  | _, _, .nil, _, _, e => by simp at e
  | _, _, .cons h _, 0, x, e => by
    cases (Option.some.inj (show some _ = some x from e))
    exact ⟨_, rfl, h⟩
  | _, _, .cons _ h, i + 1, x, e => h.at i x e
theorem DaL.of : ∀ {xs : List V} {ds : List PyData}, DaL K H xs ds → ∀ (i : Nat) (d : PyData), ds[i]? = some d → ∃ x, xs[i]? = some x ∧ Da K H x d
  | _, _, .nil, _, _, e => by simp at e
  | _, _, .cons h _, 0, x, e => by
    cases (Option.some.inj (show some _ = some x from e))
    exact ⟨_, rfl, h⟩
  | _, _, .cons _ h, i + 1, x, e => h.of i x e
theorem DaL.app : ∀ {xs ys : List V} {ds es : List PyData}, DaL K H xs ds → DaL K H ys es → DaL K H (xs ++ ys) (ds ++ es)
  | _, _, _, _, .nil, h => h
  | _, _, _, _, .cons a b, h => .cons a (b.app h)
theorem DaL.strs : ∀ (xs : List Str), DaL K H (xs.map V.str) (xs.map PyData.str)
  | [] => .nil
  | x :: xs => .cons (.str x) (DaL.strs xs)
theorem DaL.ints : ∀ (xs : List Int), DaL K H (xs.map V.int) (xs.map PyData.int)
  | [] => .nil
  | x :: xs => .cons (.int x) (DaL.ints xs)
end

/-! ### kinds -/
def tyName : PyData → String
  | .none => "NoneType" | .bool _ => "bool" | .int _ => "int" | .str _ => "str" | .list _ => "list" | .tuple _ => "tuple" | .dict _ => "dict"
theorem Da.ty {K : PySem.W.Frag} {H : Hp} {v : V} {d : PyData} (h : Da K H v d) : TyX K H v (.type (tyName d)) := by
  cases h with
  | non => exact .base .non
  | bl b => exact .base (.bl b)
  | int i => exact .base (.int i)
  | str x => exact .base (.str x)
  | lst a b =>
    rcases a with (a | ⟨o, a⟩) | ⟨o, its, n, a, c, _⟩
    · exact .base (.lst a)
    · exact .base (.frz a)
    · exact .kList a c
  | tup a b =>
    rcases a with (a | ⟨o, a⟩) | ⟨o, its, n, a, c, _⟩
    · exact .base (.tup a)
    · exact .fTuple a
    · exact .kTuple a c
  | dct a b =>
    rcases a with a | ⟨o, a⟩
    · exact .base (.dK a)
    · exact .fDict a
theorem isi_ok {K : PySem.W.Frag} {H : Hp} {v : V} {d : PyData} (h : Da K H v d) {T : String} {b : Bool} (hb : kitB (tyName d) T = some b) {Q : VK} (q : Q (.bl b) H) : rIsi K [v, .ty T] H Q :=
  ⟨v, .ty T, _, _, b, rfl, .ty _, h.ty, kit_ty hb, q⟩
def isStr : PyData → Bool | .str _ => true | _ => false
def isInt : PyData → Bool | .int _ => true | .bool _ => true | _ => false
def isBool : PyData → Bool | .bool _ => true | _ => false
def isList : PyData → Bool | .list _ => true | _ => false
def isTuple : PyData → Bool | .tuple _ => true | _ => false
def isDict : PyData → Bool | .dict _ => true | _ => false
theorem kit_str (d : PyData) : kitB (tyName d) "str" = some (isStr d) := by cases d <;> simp only [tyName, isStr] <;> decide +kernel
theorem kit_int (d : PyData) : kitB (tyName d) "int" = some (isInt d) := by cases d <;> simp only [tyName, isInt] <;> decide +kernel
theorem kit_bool (d : PyData) : kitB (tyName d) "bool" = some (isBool d) := by cases d <;> simp only [tyName, isBool] <;> decide +kernel
theorem kit_list (d : PyData) : kitB (tyName d) "list" = some (isList d) := by cases d <;> simp only [tyName, isList] <;> decide +kernel
theorem kit_tuple (d : PyData) : kitB (tyName d) "tuple" = some (isTuple d) := by cases d <;> simp only [tyName, isTuple] <;> decide +kernel
theorem kit_dict (d : PyData) : kitB (tyName d) "dict" = some (isDict d) := by cases d <;> simp only [tyName, isDict] <;> decide +kernel

/-! ### powers of great ints -/
def CPowW (i j : Int) : Prop := 0 ≤ j ∧ ∃ n : Nat, i.natAbs < 2 ^ n ∧ 0 < n ∧ (n : Int) * j ≤ 1000000
theorem op_powW {X : Cx} : OpR X (binaryOp .Pow) (rI CPowW fun i j => .int (i ^ j.toNat)) := opI fun i j _ _ _ _ _ hc q => by
  obtain ⟨h0, n, hn, n0, hz⟩ := hc
  refine pow_int h0 ?_ q
  have b : Builtin.Int.intBits i ≤ n := by
    have := PySem.Flt.log2_lt_of n0 hn
    unfold Builtin.Int.intBits
    split <;> omega
  have b2 : ((Builtin.Int.intBits i : Nat) : Int) * j ≤ (n : Int) * j := Int.mul_le_mul_of_nonneg_right (by omega) h0
  omega

/-! ### len(set(xs)) of ints -/
def tLenSetG (K : PySem.W.Frag) (ta : TE) : TE := fun σ H Q => ta σ H fun x H1 => ∃ (l : Addr) (ns : List Int), x = .ref l ∧ SqL K H1 l (ns.map V.int) ∧ ns.length ≤ 4000 ∧ Q (.int ((firstMet (fun i => ns.getD i 0) ns.length).length : Nat)) H1
theorem pe_lenSet {X : Cx} {a : Expr} {ta : TE} {p p2 q pos : Pos} (hg : Gl X "len") (hm : X.mg "len" = none) (hg2 : Gl X "set") (hm2 : X.mg "set" = none) (ha : PE X a ta) (calm : X.calm = true := by rfl)
    (na : starEach [a] X.env = (false, eval a X.env) :: starEach [] X.env := by rfl) : PE X (.Call (.Name "len" p) [.Call (.Name "set" p2) [a] [] q] [] pos) (tLenSetG X.K ta) := by
  refine ⟨fun pins s σ H Q I h => Call_ (ld_blt I hg hm boot_len (callWith_builtin1 (args_cons ?_ rfl) rfl rfl))⟩
  refine Call_ (ld_blt I hg2 hm2 boot_set (callWith_type1 (args_cons (thn (ha.run pins s σ H _ I h) fun v s1 ⟨x, H1, I1, r1, q1⟩ => args_nil ?_) na) na rfl))
  obtain ⟨l, ns, rfl, hq, hl, q1⟩ := q1
  cases r1
  obtain ⟨its, r, pl, hz⟩ := I1.list hq
  have size : its.toArray.size = ns.length := by rw [List.size_toArray, ← r.length, List.length_map]
  refine call_set_list (I1.ok.hd calm) pl.isList (by simpa using RZ.intsAre_vals r) (by rw [size]; unfold scanBound; omega) fun h' tk hS hk => args_nil ?_
  rw [size] at hS
  obtain ⟨o, es, ep, t, ho, hex, hd, _, _, _, hf, hn⟩ := hS
  have I2 : Inv X pins σ H1 { s1 with heap := h', toks := tk } := I1.kept fun b o e => hk b o (Heap.lt_size e) e
  have few := firstMet_length_le (fun i => ns.getD i 0) ns.length
  exact call_len_set ho hex hd hf (by rw [hn]; have : 4000 < sizeLine := (by decide); omega) ⟨.int ((firstMet (fun i => ns.getD i 0) ns.length).length : Nat), H1, I2.tok _, ⟨_, by rw [hn]⟩, q1⟩
end L2.Fb

/-! A dict walked by its keys, locked or not; comprehensions told as filterMap. -/
namespace L2.Fb
open PySem PySem.Spec
open PyProof.Rows

/-! ### a dict walked: locked here, or by a caller -/
structure Lkd (H : Hp) (a : Addr) (ks : List (Key × V)) (od : Obj) (un : Hp → Hp) (H1 : Hp) : Prop where
  rd : Rd H a (.dK ks)
  frz : H1 a = some (.frz od (.dK ks))
  le : Le H H1
  off : ∀ b, b ≠ a → H1 b = H b
  unOff : ∀ H' b, b ≠ a → un H' b = H' b
  unAt : ∀ H', H' a = some (.frz od (.dK ks)) → un H' a = H a
/-- what follows, the dict as it was -/
def _root_.L2.Ends.lk (D : Ends) (a : Addr) (ks : List (Key × V)) (od : Obj) (un : Hp → Hp) : Ends :=
  ⟨fun σ' H' => H' a = some (.frz od (.dK ks)) ∧ D.nx σ' (un H'), fun v H' => H' a = some (.frz od (.dK ks)) ∧ D.rt v (un H'), fun σ' H' => H' a = some (.frz od (.dK ks)) ∧ D.bk σ' (un H'), fun σ' H' => H' a = some (.frz od (.dK ks)) ∧ D.ct σ' (un H')⟩
section
variable {H H1 H' : Hp} {a : Addr} {ks : List (Key × V)} {od : Obj} {un : Hp → Hp}
theorem Lkd.same (L : Lkd H a ks od un H1) (e : Same H1 H') : Same H (un H') := fun b u q => by
  by_cases z : b = a
  · subst z
    rw [L.unAt H' (e _ _ L.frz)]
    exact q
  · rw [L.unOff H' b z]
    exact e _ _ (by rw [L.off b z]; exact q)
theorem Lkd.new (L : Lkd H a ks od un H1) {b : Addr} {u : HO} (e : H1 b = none) (q : H' b = some u) : H b = none ∧ un H' b = some u := by
  have z : b ≠ a := fun z => by
    subst z
    rw [L.frz] at e
    cases e
  rw [L.unOff H' b z, ← L.off b z]
  exact ⟨e, q⟩
theorem lkd_here (h : H a = some (.dK ks)) (od : Obj) : Lkd H a ks od (fun H' => upd H' a (.dK ks)) (upd H a (.frz od (.dK ks))) where
  rd := .inl h
  frz := upd_same
  le := fun b u r => by
    by_cases e : b = a
    · subst e
      rcases r with y | ⟨o', y⟩
      · rw [h] at y
        cases Option.some.inj y
        exact .inr ⟨od, upd_same⟩
      · rw [h] at y
        cases y
    · rcases r with y | ⟨o, y⟩
      · exact .inl (by rw [upd_ne e]; exact y)
      · exact .inr ⟨o, by rw [upd_ne e]; exact y⟩
  off := fun b e => upd_ne e
  unOff := fun H' b e => upd_ne e
  unAt := fun H' _ => by
    show upd H' a (.dK ks) a = H a
    rw [upd_same, h]
theorem lkd_there (h : H a = some (.frz od (.dK ks))) : Lkd H a ks od (fun H' => H') H where
  rd := .inr ⟨_, h⟩
  frz := h
  le := Le.refl H
  off := fun _ _ => rfl
  unOff := fun _ _ _ => rfl
  unAt := fun H' e => by
    show H' a = H a
    rw [e, h]
end
/-- a statement, an expression, that walks the dict at a -/
def tLockO (t : TS) : TS := fun D σ H => ∃ a ks, Rd H a (.dK ks) ∧ ∀ od un H1, Lkd H a ks od un H1 → t (D.lk a ks od un) σ H1
def tLockOE (t : TE) : TE := fun σ H Q => ∃ a ks, Rd H a (.dK ks) ∧ ∀ od un H1, Lkd H a ks od un H1 → t σ H1 fun v H' => H' a = some (.frz od (.dK ks)) ∧ Q v (un H')
section
variable {X : Cx}
theorem ps_lockO {st : Stmt} {t : TS} (h : PS X st t) : PS X st (tLockO t) := by
  refine ⟨fun pins s σ H D I hw => ?_⟩
  obtain ⟨a, ks, r, hw⟩ := hw
  rcases r with r | ⟨o, r⟩
  · exact (ps_lock h).run pins s σ H D I ⟨a, .dK ks, r, trivial, fun od => hw od _ _ (lkd_here r od)⟩
  · refine thn (h.run pins s σ H (D.lk a ks o fun H' => H') I (hw o _ _ (lkd_there r))) fun f s1 q => ?_
    cases f with
    | next =>
      obtain ⟨σ', H', I', q⟩ := q
      exact ⟨σ', H', I', q.2⟩
    | ret v =>
      obtain ⟨v', σ', H', I', rv, q⟩ := q
      exact ⟨v', σ', H', I', rv, q.2⟩
    | brk =>
      obtain ⟨σ', H', I', q⟩ := q
      exact ⟨σ', H', I', q.2⟩
    | cont =>
      obtain ⟨σ', H', I', q⟩ := q
      exact ⟨σ', H', I', q.2⟩
theorem pe_lockO {e : Expr} {t : TE} (h : PE X e t) : PE X e (tLockOE t) := by
  refine ⟨fun pins s σ H Q I hw => ?_⟩
  obtain ⟨a, ks, r, hw⟩ := hw
  rcases r with r | ⟨o, r⟩
  · exact (pe_lock h).run pins s σ H Q I ⟨a, .dK ks, r, trivial, fun od => hw od _ _ (lkd_here r od)⟩
  · refine thn (h.run pins s σ H _ I (hw o _ _ (lkd_there r))) fun u s1 q => ?_
    obtain ⟨v, H', I', rv, q⟩ := q
    exact ⟨v, H', I', rv, q.2⟩
end

/-! ### comprehensions: what they make, as data -/
section
variable {J : It} {n : Nat} {G : Hp → Prop} {Y : Nat → Hp → V → Hp → Prop} {g : TG} {tt : TT} {te : TE} {vs : List Nat} {σ : St} {H1 : Hp} {D : Addr} {Qd : Hp → Prop} {S T : Type}
/-- all but what stands at D is as it was -/
def Off (D : Addr) (H H' : Hp) : Prop := ∀ b u, b ≠ D → H b = some u → H' b = some u
theorem same_off {H H' : Hp} (e : Same H H') : Off D H H' := fun b u _ q => e b u q
theorem off_upd {H : Hp} {o : HO} : Off D H (upd H D o) := fun b u z q => by rw [upd_ne z]; exact q
theorem Off.trans {H H' H'' : Hp} (e : Off D H H') (f : Off D H' H'') : Off D H H'' := fun b u z q => f b u z (e b u z q)
theorem paired_snoc {α β : Type} {F : α → β → Prop} : ∀ {xs : List α} {ys : List β} {x : α} {y : β}, Paired F xs ys → F x y → Paired F (xs ++ [x]) (ys ++ [y])
  | _, _, _, _, .nil, h => .cons h .nil
  | _, _, _, _, .cons a b, h => .cons a (paired_snoc b h)
/-- [e for x in .. if ..]: us tells the items, f what is made of one (if anything), R how a made one stands in the heap -/
theorem lc_fm (w : Walk J n G Y) (us : List S) (f : S → Option T) (R : T → V → Hp → Prop) (nD : H1 D = none) (hn : n = us.length) (hz : n ≤ 50000) (hG : ∀ H, Same H1 H → G H) (mono : ∀ t y H H', Off D H H' → R t y H → R t y H')
    (turn : ∀ i s x H H', us[i]? = some s → Same H1 H → (∃ ys, H D = some (.lst ys)) → Y i H x H' → ∀ (K : V → Hp → Prop) (N : Hp → Prop), (∀ t y H4, f s = some t → Same H H4 → R t y H4 → K y H4) → (∀ H4, f s = none → Same H H4 → N H4) →
      g x (wipe σ vs) H' fun σ2 H2 => wipe σ2 vs = wipe σ vs ∧ tt σ2 H2 fun b H3 => if b = true then te σ2 H3 K else N H3)
    (hd : ∀ H ys, Same H1 H → H D = some (.lst ys) → Paired (fun t y => R t y H) (us.filterMap f) ys → Qd H) :
    ∃ W : Nat → Nat → Hp → Prop, (∃ m, W 0 m (upd H1 D (.lst []))) ∧ ∀ i m H, W i m H →
      (J.stop i H ∧ Qd H) ∨ (J.go i H ∧ ∃ Nx : Hp → Prop, (∀ H', Nx H' → ∃ m', m' < m ∧ W (i + 1) m' H') ∧ ∀ x H', J.yld i H x H' → g x (wipe σ vs) H' fun σ2 H2 => wipe σ2 vs = wipe σ vs ∧ tt σ2 H2 fun b H3 =>
        if b = true then te σ2 H3 fun y H4 => ∃ acc, H4 D = some (.lst acc) ∧ acc.length < sizeLine ∧ Nx (upd H4 D (.lst (acc ++ [y]))) else Nx H3) := by
  subst hn
  refine lc_it w (fun i H => Same H1 H ∧ ∃ ys, H D = some (.lst ys) ∧ Paired (fun t y => R t y H) ((us.take i).filterMap f) ys) ⟨same_new nD, [], upd_same, .nil⟩ (fun i H _ p => hG H p.1) ?_ ?_
  · rintro i x H H' hi ⟨sm, ys, eD, pr⟩ y
    have hs : us[i]? = some us[i] := List.getElem?_eq_getElem hi
    have tk : us.take (i + 1) = us.take i ++ [us[i]] := by rw [List.take_add_one, hs]; rfl
    have len : ys.length ≤ i := by
      rw [← pr.length]
      have h1 := List.length_filterMap_le f (us.take i)
      rw [List.length_take] at h1
      omega
    refine turn i us[i] x H H' hs sm ⟨ys, eD⟩ y _ _ (fun t z H4 ft s4 r => ⟨ys, s4 _ _ eD, ?_, same_mut (sm.trans s4) nD, ys ++ [z], upd_same, ?_⟩) fun H4 ft s4 => ⟨sm.trans s4, ys, s4 _ _ eD, ?_⟩
    · have : 50000 < sizeLine := by decide
      omega
    · rw [tk, List.filterMap_append]
      have e1 : List.filterMap f [us[i]] = [t] := by simp [ft]
      rw [e1]
      exact paired_snoc (Paired.mapP pr fun t z r => mono t z H _ ((same_off s4).trans off_upd) r) (mono t z H4 _ off_upd r)
    · rw [tk, List.filterMap_append]
      have e0 : List.filterMap f [us[i]] = [] := by simp [ft]
      rw [e0, List.append_nil]
      exact Paired.mapP pr fun t z r => mono t z H H4 (same_off s4) r
  · rintro H ⟨sm, ys, eD, pr⟩
    rw [List.take_length] at pr
    exact hd H ys sm eD pr
/-- {k: v for x in .. if ..}, the walk any -/
theorem dc_it {tk tv : TE} (w : Walk J n G Y) (Pv : Nat → Hp → Prop) (h0 : Pv 0 (upd H1 D (.dK []))) (hG : ∀ i H, i ≤ n → Pv i H → G H)
    (hs : ∀ i x H H', i < n → Pv i H → Y i H x H' → g x (wipe σ vs) H' fun σ2 H2 => wipe σ2 vs = wipe σ vs ∧ tt σ2 H2 fun b H3 =>
      if b = true then tk σ2 H3 fun y H4 => tv σ2 H4 fun z H5 => ∃ ks k, y = kV k ∧ H5 D = some (.dK ks) ∧ ks.length < sizeLine ∧ Pv (i + 1) (upd H5 D (.dK (putK ks k z))) else Pv (i + 1) H3) (hd : ∀ H, Pv n H → Qd H) :
    ∃ W : Nat → Nat → Hp → Prop, (∃ m, W 0 m (upd H1 D (.dK []))) ∧ ∀ i m H, W i m H →
      (J.stop i H ∧ Qd H) ∨ (J.go i H ∧ ∃ Nx : Hp → Prop, (∀ H', Nx H' → ∃ m', m' < m ∧ W (i + 1) m' H') ∧ ∀ x H', J.yld i H x H' → g x (wipe σ vs) H' fun σ2 H2 => wipe σ2 vs = wipe σ vs ∧ tt σ2 H2 fun b H3 =>
        if b = true then tk σ2 H3 fun y H4 => tv σ2 H4 fun z H5 => ∃ ks k, y = kV k ∧ H5 D = some (.dK ks) ∧ ks.length < sizeLine ∧ Nx (upd H5 D (.dK (putK ks k z))) else Nx H3) := by
  refine ⟨fun i m H => m = n - i ∧ i ≤ n ∧ Pv i H, ⟨n, by simp, Nat.zero_le _, h0⟩, ?_⟩
  rintro i m H ⟨rfl, hi, p⟩
  have q := hG i H hi p
  rcases Nat.lt_or_ge i n with lt | ge
  · exact .inr ⟨w.goes i H lt q, Pv (i + 1), fun H' p' => ⟨n - (i + 1), by omega, rfl, lt, p'⟩, fun x H' y => hs i x H H' lt p (w.yields i H x H' lt q y)⟩
  · obtain rfl : i = n := by omega
    exact .inl ⟨w.stops H q, hd H p⟩
/-- two clauses: what a list of pieces makes; W for the inner walk -/
theorem in_it {J1 : It} {n1 : Nat} {G1 : Hp → Prop} {Y1 : Nat → Hp → V → Hp → Prop} {H4 : Hp} {Nx : Hp → Prop} {body : V → Hp → (Hp → Prop) → Prop} (w : Walk J1 n1 G1 Y1) (Pv : Nat → Hp → Prop) (h0 : Pv 0 H4) (hG : ∀ j H, j ≤ n1 → Pv j H → G1 H)
    (hs : ∀ j x H H', j < n1 → Pv j H → Y1 j H x H' → body x H' (Pv (j + 1))) (hd : ∀ H, Pv n1 H → Nx H) :
    ∃ W1 : Nat → Nat → Hp → Prop, (∃ m, W1 0 m H4) ∧ ∀ j k H, W1 j k H → (J1.stop j H ∧ Nx H) ∨ (J1.go j H ∧ ∃ Nx1 : Hp → Prop, (∀ H', Nx1 H' → ∃ k', k' < k ∧ W1 (j + 1) k' H') ∧ ∀ x H', J1.yld j H x H' → body x H' Nx1) := by
  refine ⟨fun j k H => k = n1 - j ∧ j ≤ n1 ∧ Pv j H, ⟨n1, by simp, Nat.zero_le _, h0⟩, ?_⟩
  rintro j k H ⟨rfl, hj, p⟩
  have q := hG j H hj p
  rcases Nat.lt_or_ge j n1 with lt | ge
  · exact .inr ⟨w.goes j H lt q, Pv (j + 1), fun H' p' => ⟨n1 - (j + 1), by omega, rfl, lt, p'⟩, fun x H' y => hs j x H H' lt p (w.yields j H x H' lt q y)⟩
  · obtain rfl : j = n1 := by omega
    exact .inl ⟨w.stops H q, hd H p⟩
theorem yes_go {te : TE} {K : V → Hp → Prop} {N : Hp → Prop} {σ : St} {H : Hp} (h : te σ H K) : tYes σ H fun b H3 => if b = true then te σ H3 K else N H3 := by
  show (if true = true then te σ H K else N H)
  rw [if_pos rfl]
  exact h
end
theorem yes_on {F N : Hp → Prop} {σ : St} {H : Hp} (h : F H) : tYes σ H fun b H3 => if b = true then F H3 else N H3 := by
  show (if true = true then F H else N H)
  rw [if_pos rfl]
  exact h
theorem pi_listK {X : Cx} {K : PySem.W.Frag} {tg l : Expr} {tl : TE} (hK : X.K = K) (hl : PE X l tl) : PI X tg l (iList K tl) := by
  subst hK
  exact pi_list hl
section
variable {X : Cx} {K : PySem.W.Frag}
theorem ix_tupK (hK : X.K = K) : IxR X (rIxT K) := hK ▸ ix_tup
theorem ix_listK (hK : X.K = K) : IxR X (rIxL K) := hK ▸ ix_list
theorem call_len_seqK (hK : X.K = K) : CallR X (.builtin "len") (fun xs H Q => ∃ p ys, xs = [V.ref p] ∧ (SqL K H p ys ∨ SqT K H p ys) ∧ Q (.int ys.length) H) := hK ▸ call_len_seq
theorem call_isiKK (hK : X.K = K) : CallR X (.builtin "isinstance") (rIsi K) := hK ▸ call_isi
theorem call_list_ofK (hK : X.K = K) : CallR X (.type "list") (fun xs H Q => ∃ p ys, xs = [V.ref p] ∧ (SqL K H p ys ∨ SqT K H p ys) ∧ ∀ l, H l = none → Q (.ref l) (upd H l (.lst ys))) := hK ▸ call_list_of
theorem op_in_seqK (hK : X.K = K) : OpR X (compareOp .In) (rIn K false) := hK ▸ op_in_seq
theorem op_notIn_seqK (hK : X.K = K) : OpR X (compareOp .NotIn) (rIn K true) := hK ▸ op_notIn_seq
theorem call_dictPK (hK : X.K = K) (hc : X.calm = true) : CallR X (.type "dict") (fun xs H Q => ∃ a ps kvs, xs = [V.ref a] ∧ SqL K H a (ps.map V.ref) ∧ Paired (fun p (kv : Key × V) => SqT K H p [kV kv.1, kv.2]) ps kvs ∧ ∀ p, H p = none → Q (.ref p) (upd H p (.dK (mergeK [] kvs)))) := hK ▸ call_dictP hc
theorem pg_tupK {pos : Pos} {es : List Expr} {k : Nat} {t : TGs} {n : Nat} (hK : X.K = K) (hc : X.calm = true) (h : PGs X es t) (h1 : (assignEach es X.env).length = n := by rfl) (h2 : (assignEach es X.env).findIdx? (·.1) = none := by rfl) : PG X (.Tuple es k pos) (gTup K n t) := hK ▸ pg_tup hc h h1 h2
theorem sl_listK (hK : X.K = K) : SlR X (rSlL K) := hK ▸ sl_list
theorem pe_bmK {o e : Expr} {es : List Expr} {to : TE} {t : TA} {name : Str} {apos cpos : Pos} {T id : String} {r : V → List V → Hp → VK → Prop} (hK : X.K = K) (pa : PlainAttrs T) (slot : Slot T name id) (hty : typeOf (.builtin id) = pure (.type "method_descriptor")) (hm : MtR X id r) (ho : PE X o to) (ha : PA X (e :: es) t)
    (h1 : attributeBase o name X.env (eval o X.env) = eval o X.env := by rfl)
    (h2 : (((backTo cpos (starEach (e :: es) X.env)).all (!·.1) && (backToKw cpos (keywordEach [] X.env)).all (·.1.isSome) && decide (((e :: es).length + ([] : List Keyword).length + if ([] : List Keyword).isEmpty = true then 0 else 1) < 30))) = true := by rfl)
    (h3 : (apos.endLine == cpos.line) = true := by rfl) (h4 : starEach (e :: es) X.env = (false, eval e X.env) :: starEach es X.env := by rfl) (h5 : (backTo cpos (starEach es X.env)).any (·.1) = false := by rfl) :
    PE X (.Call (.Attribute o name apos) (e :: es) [] cpos) (tBM K T r to t) := by
  subst hK
  exact pe_bm pa slot hty hm ho ha h1 h2 h3 h4 h5
end
end L2.Fb

/-! Pasts as data. -/
namespace L2.Fb
open PySem PySem.Spec
open PyProof.Rows

/-! ### deeds, rows, pasts -/
inductive Deed where
  | keep | tell (l : Int) (h : Str) | hear (l : Int)
  deriving DecidableEq
def deedD : Deed → PyData
  | .keep => .tuple [.str "keep"]
  | .tell l h => .tuple [.str "tell", .int l, .str h]
  | .hear l => .tuple [.str "hear", .int l]
def deedV : Deed → List V
  | .keep => [.str "keep"]
  | .tell l h => [.str "tell", .int l, .str h]
  | .hear l => [.str "hear", .int l]
def word : Deed → Str
  | .keep => "keep" | .tell _ _ => "tell" | .hear _ => "hear"
abbrev Past := List (Str × List Deed)
def rowD (r : List Deed) : PyData := .list (r.map deedD)
def pastKv (p : Past) : List (PyData × PyData) := p.map fun q => (.str q.1, rowD q.2)
def pastD (p : Past) : PyData := .dict (pastKv p)
/-- the row of a hand -/
def look (p : Past) (h : Str) : Option (List Deed) := (p.find? fun q => decide (q.1 = h)).map (·.2)
section
variable {K : PySem.W.Frag} {H : Hp}
theorem deed_at {v : V} {d : Deed} (h : Da K H v (deedD d)) : ∃ t, v = .ref t ∧ SqT K H t (deedV d) := by
  cases d with
  | keep =>
    cases h with
    | tup a b => cases b with | cons x y => cases x; cases y; exact ⟨_, rfl, a⟩
  | tell l h' =>
    cases h with
    | tup a b => cases b with | cons x y => cases x; cases y with | cons x y => cases x; cases y with | cons x y => cases x; cases y; exact ⟨_, rfl, a⟩
  | hear l =>
    cases h with
    | tup a b => cases b with | cons x y => cases x; cases y with | cons x y => cases x; cases y; exact ⟨_, rfl, a⟩
theorem deed_da {t : Addr} {d : Deed} (h : SqT K H t (deedV d)) : Da K H (.ref t) (deedD d) := by
  cases d with
  | keep => exact .tup h (.cons (.str _) .nil)
  | tell l h' => exact .tup h (.cons (.str _) (.cons (.int _) (.cons (.str _) .nil)))
  | hear l => exact .tup h (.cons (.str _) (.cons (.int _) .nil))
theorem deed_0 (d : Deed) : ∃ r, deedV d = .str (word d) :: r := by cases d <;> exact ⟨_, rfl⟩
theorem row_at {v : V} {r : List Deed} (h : Da K H v (rowD r)) : ∃ b xs, v = .ref b ∧ SqL K H b xs ∧ DaL K H xs (r.map deedD) := by
  cases h with
  | lst a b => exact ⟨_, _, rfl, a, b⟩
theorem past_at {v : V} {p : Past} (h : Da K H v (pastD p)) : ∃ a ks, v = .ref a ∧ Rd H a (.dK ks) ∧ DaK K H ks (pastKv p) := by
  cases h with
  | dct a b => exact ⟨_, _, rfl, a, b⟩
theorem past_ix : ∀ {p : Past} {ks : List (Key × V)}, DaK K H ks (pastKv p) → ∀ (i : Nat) (k : Key) (v : V), ks[i]? = some (k, v) → ∃ q, p[i]? = some q ∧ k = .inr q.1 ∧ Da K H v (rowD q.2)
  | [], _, h, i, k, v, e => by
    cases h
    simp at e
  | q :: p, _, h, i, k, v, e => by
    have h : DaK K H _ ((.str q.1, rowD q.2) :: pastKv p) := h
    generalize hx : PyData.str q.1 = x at h
    cases h with
    | cons a b =>
      rename_i k' v' r
      cases i with
      | zero =>
        cases Option.some.inj (show some _ = some (k, v) from e)
        refine ⟨q, rfl, ?_, a⟩
        cases k with
        | inl i => cases hx
        | inr y =>
          cases hx
          rfl
      | succ i => exact past_ix b i k v e
theorem past_len {p : Past} {ks : List (Key × V)} (h : DaK K H ks (pastKv p)) : ks.length = p.length := by
  rw [h.len]
  exact List.length_map ..
theorem past_keys : ∀ {p : Past} {ks : List (Key × V)}, DaK K H ks (pastKv p) → ks.map (·.1) = p.map fun q => Sum.inr q.1
  | [], _, h => by
    cases h
    rfl
  | q :: p, _, h => by
    have h : DaK K H _ ((.str q.1, rowD q.2) :: pastKv p) := h
    generalize hx : PyData.str q.1 = x at h
    cases h with
    | cons a b =>
      rename_i k' v' r
      cases k' with
      | inl i => cases hx
      | inr y =>
        cases hx
        rw [List.map_cons, List.map_cons, past_keys b]
theorem past_look : ∀ {p : Past} {ks : List (Key × V)} {h : Str}, DaK K H ks (pastKv p) → ∀ r, look p h = some r → ∃ v, valV ks (.inr h) = some v ∧ Da K H v (rowD r)
  | [], _, _, _, _, e => by cases e
  | q :: p, _, h, hk, r, e => by
    have hk : DaK K H _ ((.str q.1, rowD q.2) :: pastKv p) := hk
    generalize hx : PyData.str q.1 = x at hk
    cases hk with
    | cons a b =>
      rename_i k' v' r'
      cases k' with
      | inl i => cases hx
      | inr y =>
        have hy : q.1 = y := by
          cases hx
          rfl
        by_cases z : y = h
        · subst z
          have e1 : look (q :: p) y = some q.2 := by
            unfold look
            rw [List.find?_cons_of_pos (by simp [hy])]
            rfl
          rw [e1] at e
          cases e
          exact ⟨v', valV_pos rfl, a⟩
        · have e1 : look (q :: p) h = look p h := by
            unfold look
            rw [List.find?_cons_of_neg (by simp [hy, z])]
          rw [e1] at e
          obtain ⟨v, h1, h2⟩ := past_look b r e
          exact ⟨v, by rw [valV_neg fun c => z (Sum.inr.inj c)]; exact h1, h2⟩
theorem past_no : ∀ {p : Past} {ks : List (Key × V)} {h : Str}, DaK K H ks (pastKv p) → look p h = none → valV ks (.inr h) = none
  | [], _, _, hk, _ => by
    cases hk
    rfl
  | q :: p, _, h, hk, e => by
    have hk : DaK K H _ ((.str q.1, rowD q.2) :: pastKv p) := hk
    generalize hx : PyData.str q.1 = x at hk
    cases hk with
    | cons a b =>
      rename_i k' v' r'
      cases k' with
      | inl i => cases hx
      | inr y =>
        have hy : q.1 = y := by
          cases hx
          rfl
        by_cases z : y = h
        · subst z
          have e1 : look (q :: p) y = some q.2 := by
            unfold look
            rw [List.find?_cons_of_pos (by simp [hy])]
            rfl
          rw [e1] at e
          cases e
        · have e1 : look (q :: p) h = look p h := by
            unfold look
            rw [List.find?_cons_of_neg (by simp [hy, z])]
          rw [e1] at e
          rw [valV_neg fun c => z (Sum.inr.inj c)]
          exact past_no b e
end
theorem look_mem : ∀ {p : Past} {h : Str} {r : List Deed}, look p h = some r → (h, r) ∈ p
  | [], _, _, e => by cases e
  | q :: p, h, r, e => by
    by_cases z : q.1 = h
    · have e1 : look (q :: p) h = some q.2 := by
        unfold look
        rw [List.find?_cons_of_pos (by simp [z])]
        rfl
      rw [e1] at e
      cases e
      subst z
      exact List.mem_cons_self
    · have e1 : look (q :: p) h = look p h := by
        unfold look
        rw [List.find?_cons_of_neg (by simp [z])]
      rw [e1] at e
      exact List.mem_cons_of_mem _ (look_mem e)
theorem look_of : ∀ {p : Past} (nd : (p.map (·.1)).Nodup) {h : Str} {r : List Deed}, (h, r) ∈ p → look p h = some r
  | q :: p, nd, h, r, m => by
    have nd : (q.1 :: p.map (·.1)).Nodup := nd
    obtain ⟨n1, n2⟩ := List.nodup_cons.mp nd
    rcases List.mem_cons.mp m with e | m
    · subst e
      unfold look
      rw [List.find?_cons_of_pos (by simp)]
      rfl
    · have z : ¬ q.1 = h := fun z => n1 (by rw [z]; exact List.mem_map.mpr ⟨(h, r), m, rfl⟩)
      unfold look
      rw [List.find?_cons_of_neg (by simp [z])]
      exact look_of n2 m

/-! ### sets of ints: as many as there are, when none is twice -/
theorem met_all (val : Nat → Int) : ∀ i, (firstMet val i).length = i → ∀ j k, j < k → k < i → val j ≠ val k
  | 0, _, j, k, _, h => by omega
  | i + 1, e, j, k, jk, ki => by
    rw [firstMet_succ] at e
    have le := firstMet_length_le val i
    have key : ((firstMet val i).any (· == val i)) = false ∧ (firstMet val i).length = i := by
      unfold step_dedup at e
      cases h : (firstMet val i).any (· == val i) with
      | true =>
        rw [h] at e
        simp at e
        omega
      | false =>
        rw [h] at e
        simp at e
        exact ⟨rfl, e⟩
    by_cases hk : k = i
    · subst hk
      intro z
      have no := key.1
      rw [firstMet_any] at no
      have yes : ((List.range k).map val).any (· == val k) = true := List.any_eq_true.mpr ⟨val j, List.mem_map.mpr ⟨j, List.mem_range.mpr jk, rfl⟩, by rw [z]; exact beq_self_eq_true _⟩
      rw [no] at yes
      cases yes
    · exact met_all val i key.2 j k jk (by omega)
theorem met_nodup (ns : List Int) : (firstMet (fun i => ns.getD i 0) ns.length).length = ns.length ↔ ns.Nodup := by
  constructor
  · intro h
    refine List.pairwise_iff_getElem.mpr fun i j hi hj lt z => met_all _ _ h i j lt hj ?_
    show ns.getD i 0 = ns.getD j 0
    rw [List.getD_eq_getElem?_getD, List.getD_eq_getElem?_getD, List.getElem?_eq_getElem hi, List.getElem?_eq_getElem hj, z]
  · intro h
    rw [RZ.firstMet_nodup h _ (Nat.le_refl _), List.take_length]

/-! ### len of a dict: no key is twice -/
theorem kv_keys {κ : Type} : ∀ {ks : List (κ × V)} {vs : List (κ × Value)}, KV ks vs → ks.map (·.1) = vs.map (·.1)
  | _, _, .nil => rfl
  | _, _, .cons a b => by rw [List.map_cons, List.map_cons, a.1, kv_keys b]
theorem call_lenDN {X : Cx} : CallR X (.builtin "len") (fun xs H Q => ∃ a ks, xs = [V.ref a] ∧ Rd H a (.dK ks) ∧ ((ks.map (·.1)).Nodup → Q (.int ks.length) H)) := by
  intro pins s σ H xs us Q I r h
  obtain ⟨a, ks, rfl, rd, q⟩ := h
  obtain ⟨u, rfl, ru⟩ := vals1 r
  cases ru
  obtain ⟨_, _, vs, kv, _, _, _, _, _, _, _, _, nd⟩ := dk_rd I.hok rd
  exact d_len I rd fun t s' I' => ⟨.int ks.length, H, I', ⟨t, rfl⟩, q (by rw [kv_keys kv]; exact nd)⟩
/-! ### letters told -/
def tellL : Deed → Option Int | .tell l _ => some l | _ => none
def toldR (r : List Deed) : List Int := r.filterMap tellL
def toldP (p : Past) : List Int := p.flatMap fun q => toldR q.2
theorem take_snoc {α : Type} {l : List α} {i : Nat} {x : α} (h : l[i]? = some x) : l.take (i + 1) = l.take i ++ [x] := by rw [List.take_add_one, h]; rfl
theorem toldP_snoc {p : Past} {i : Nat} {q : Str × List Deed} (h : p[i]? = some q) : toldP (p.take (i + 1)) = toldP (p.take i) ++ toldR q.2 := by
  rw [take_snoc h]
  unfold toldP
  rw [List.flatMap_append, List.flatMap_singleton]
theorem toldR_snoc {r : List Deed} {j : Nat} {d : Deed} (h : r[j]? = some d) : toldR (r.take (j + 1)) = toldR (r.take j) ++ (tellL d).toList := by
  rw [take_snoc h]
  unfold toldR
  rw [List.filterMap_append]
  cases d <;> rfl
theorem toldP_le (p : Past) (i : Nat) : (toldP (p.take i)).length ≤ (toldP p).length := by
  have e : toldP p = toldP (p.take i) ++ toldP (p.drop i) := by
    unfold toldP
    rw [← List.flatMap_append, List.take_append_drop]
  rw [e, List.length_append]
  omega
theorem toldR_le (r : List Deed) (j : Nat) : (toldR (r.take j)).length ≤ (toldR r).length := by
  have e : toldR r = toldR (r.take j) ++ toldR (r.drop j) := by
    unfold toldR
    rw [← List.filterMap_append, List.take_append_drop]
  rw [e, List.length_append]
  omega
theorem rows_at {K : PySem.W.Frag} {H : Hp} {xs : List V} {r : List Deed} (h : DaL K H xs (r.map deedD)) {j : Nat} {x : V} (hx : xs[j]? = some x) : ∃ d t, r[j]? = some d ∧ x = .ref t ∧ SqT K H t (deedV d) := by
  obtain ⟨d', hd', da⟩ := h.at j x hx
  rw [List.getElem?_map] at hd'
  cases e : r[j]? with
  | none =>
    rw [e] at hd'
    cases hd'
  | some d =>
    rw [e] at hd'
    cases Option.some.inj hd'
    obtain ⟨t, h1, h2⟩ := deed_at da
    exact ⟨d, t, rfl, h1, h2⟩

/-! ### a dict of one's own changed while another is walked -/
theorem Lkd.sameOff {H0 Hc H1 H' : Hp} {a M : Addr} {ks : List (Key × V)} {od : Obj} {un : Hp → Hp} (L : Lkd Hc a ks od un H1) (e : Off M H1 H') (hM : H0 M = none) (s0 : Same H0 Hc) (ha : H' a = some (.frz od (.dK ks))) : Same H0 (un H') := fun b u q => by
  have nb : b ≠ M := fun z => by
    subst z
    rw [hM] at q
    cases q
  by_cases z : b = a
  · subst z
    rw [L.unAt H' ha]
    exact s0 _ _ q
  · rw [L.unOff H' b z]
    exact e b u nb (by rw [L.off b z]; exact s0 _ _ q)
/-! ### letters told to, heard by -/
def tellT : Deed → Option (Int × Str) | .tell l h => some (l, h) | _ => none
def tellsP (p : Past) : List (Int × Str) := p.flatMap fun q => q.2.filterMap tellT
def hearT (hand : Str) : Deed → Option (Int × Str) | .hear l => some (l, hand) | _ => none
def hearsR (q : Str × List Deed) : List (Int × Str) := q.2.filterMap (hearT q.1)
def hearsP (p : Past) : List (Int × Str) := p.flatMap hearsR
theorem tells_fst (p : Past) : (tellsP p).map (·.1) = toldP p := by
  unfold tellsP toldP
  rw [List.map_flatMap]
  congr 1
  funext q
  unfold toldR
  rw [List.map_filterMap]
  congr 1
  funext d
  cases d <;> rfl
/-- each letter is heard by whom it was told, once -/
def HeardOnce (p : Past) : Prop := (∀ x ∈ hearsP p, x ∈ tellsP p) ∧ ((hearsP p).map (·.1)).Nodup
instance (p : Past) : Decidable (HeardOnce p) := by unfold HeardOnce; infer_instance
def lookT (ts : List (Int × Str)) (l : Int) : Option Str := (ts.find? fun t => decide (t.1 = l)).map (·.2)
theorem lookT_snoc {ts : List (Int × Str)} {l : Int} {h : Str} (hn : l ∉ ts.map (·.1)) (j : Int) : lookT (ts ++ [(l, h)]) j = if j = l then some h else lookT ts j := by
  unfold lookT
  rw [List.find?_append]
  by_cases z : j = l
  · subst z
    have e : (ts.find? fun t => decide (t.1 = j)) = none := by
      rw [List.find?_eq_none]
      intro t ht
      simp only [decide_eq_true_eq]
      exact fun z => hn (List.mem_map.mpr ⟨t, ht, z⟩)
    rw [e, if_pos rfl]
    simp
  · rw [if_neg z]
    have e : ([(l, h)].find? fun t => decide (t.1 = j)) = none := by
      rw [List.find?_cons_of_neg (by simp only [decide_eq_true_eq]; exact fun y => z y.symm)]
      rfl
    rw [e]
    simp
theorem lookT_mem {ts : List (Int × Str)} {l : Int} {h : Str} (e : lookT ts l = some h) : (l, h) ∈ ts := by
  unfold lookT at e
  cases q : ts.find? fun t => decide (t.1 = l) with
  | none =>
    rw [q] at e
    cases e
  | some t =>
    rw [q] at e
    have h1 := List.find?_some q
    have h2 := List.mem_of_find?_eq_some q
    simp only [decide_eq_true_eq] at h1
    cases e
    subst h1
    exact h2
theorem lookT_of : ∀ {ts : List (Int × Str)} (nd : (ts.map (·.1)).Nodup) {l : Int} {h : Str}, (l, h) ∈ ts → lookT ts l = some h
  | t :: ts, nd, l, h, m => by
    have nd : (t.1 :: ts.map (·.1)).Nodup := nd
    obtain ⟨n1, n2⟩ := List.nodup_cons.mp nd
    unfold lookT
    rcases List.mem_cons.mp m with e | m
    · subst e
      rw [List.find?_cons_of_pos (by simp)]
      rfl
    · have z : ¬ t.1 = l := fun z => n1 (by rw [z]; exact List.mem_map.mpr ⟨(l, h), m, rfl⟩)
      rw [List.find?_cons_of_neg (by simp [z])]
      exact lookT_of n2 m
theorem tells_snocR {r : List Deed} {j : Nat} {d : Deed} (h : r[j]? = some d) : (r.take (j + 1)).filterMap tellT = (r.take j).filterMap tellT ++ (tellT d).toList := by
  rw [take_snoc h, List.filterMap_append]
  cases d <;> rfl
theorem hears_snocR {hand : Str} {r : List Deed} {j : Nat} {d : Deed} (h : r[j]? = some d) : hearsR (hand, r.take (j + 1)) = hearsR (hand, r.take j) ++ (hearT hand d).toList := by
  unfold hearsR
  rw [take_snoc h, List.filterMap_append]
  cases d <;> rfl
theorem tells_snocP {p : Past} {i : Nat} {q : Str × List Deed} (h : p[i]? = some q) : tellsP (p.take (i + 1)) = tellsP (p.take i) ++ q.2.filterMap tellT := by
  rw [take_snoc h]
  unfold tellsP
  rw [List.flatMap_append, List.flatMap_singleton]
theorem hears_snocP {p : Past} {i : Nat} {q : Str × List Deed} (h : p[i]? = some q) : hearsP (p.take (i + 1)) = hearsP (p.take i) ++ hearsR q := by
  rw [take_snoc h]
  unfold hearsP
  rw [List.flatMap_append, List.flatMap_singleton]
theorem tells_pre {p : Past} {i j : Nat} {q : Str × List Deed} (h : p[i]? = some q) : ∃ z, tellsP p = (tellsP (p.take i) ++ (q.2.take j).filterMap tellT) ++ z := by
  refine ⟨(q.2.drop j).filterMap tellT ++ tellsP (p.drop (i + 1)), ?_⟩
  have e1 : tellsP p = tellsP (p.take (i + 1)) ++ tellsP (p.drop (i + 1)) := by
    unfold tellsP
    rw [← List.flatMap_append, List.take_append_drop]
  have e2 : q.2.filterMap tellT = (q.2.take j).filterMap tellT ++ (q.2.drop j).filterMap tellT := by rw [← List.filterMap_append, List.take_append_drop]
  rw [e1, tells_snocP h, e2]
  simp only [List.append_assoc]
theorem hears_pre {p : Past} {i j : Nat} {q : Str × List Deed} (h : p[i]? = some q) : ∃ z, hearsP p = (hearsP (p.take i) ++ hearsR (q.1, q.2.take j)) ++ z := by
  refine ⟨hearsR (q.1, q.2.drop j) ++ hearsP (p.drop (i + 1)), ?_⟩
  have e1 : hearsP p = hearsP (p.take (i + 1)) ++ hearsP (p.drop (i + 1)) := by
    unfold hearsP
    rw [← List.flatMap_append, List.take_append_drop]
  have e2 : hearsR q = hearsR (q.1, q.2.take j) ++ hearsR (q.1, q.2.drop j) := by
    unfold hearsR
    rw [← List.filterMap_append, List.take_append_drop]
  rw [e1, hears_snocP h, e2]
  simp only [List.append_assoc]
theorem le_off {H H3 H' : Hp} {M : Addr} (hM : H M = none) (le : Le H H3) (off : Off M H3 H') : Le H H' := fun b u r => by
  have nb : b ≠ M := fun z => by
    subst z
    rcases r with r | ⟨o, r⟩
    · rw [hM] at r
      cases r
    · rw [hM] at r
      cases r
  rcases le b u r with z | ⟨o, z⟩
  · exact .inl (off _ _ nb z)
  · exact .inr ⟨o, off _ _ nb z⟩
theorem valV_drop {κ : Type} [DecidableEq κ] : ∀ (ks : List (κ × V)) (k j : κ), valV (dropK ks k) j = if j = k then none else valV ks j
  | [], k, j => by
    show valV [] j = _
    rw [valV_nil]
    simp
  | p :: r, k, j => by
    by_cases e : p.1 = k
    · rw [dropK_pos e, valV_drop r k j]
      by_cases z : j = k
      · rw [if_pos z, if_pos z]
      · rw [if_neg z, if_neg z, valV_neg fun y => z (y.symm.trans e)]
    · rw [dropK_neg e]
      by_cases y : p.1 = j
      · rw [valV_pos y, valV_pos y, if_neg fun z => e (y.trans z)]
      · rw [valV_neg y, valV_neg y, valV_drop r k j]
end L2.Fb

namespace L2.Fb.Law
open PySem PySem.Spec
open PyProof.Rows
def topS (i : Nat) : Stmt := PySem.Challenge.pw_fallingback_k02_orders_of_pasts.main.body.getD i (.Pass ⟨0, 0, 0, 0⟩)
abbrev s_is_whole : Stmt := topS 6
abbrev N_is_whole : List Str := ["thing"]
abbrev P_is_whole : List Str := ["thing"]
theorem sc_is_whole : FnScope N_is_whole P_is_whole (defScope s_is_whole) := ⟨rfl, rfl, rfl, by decide +kernel, rfl, by decide +kernel, by decide +kernel⟩
abbrev s_is_name : Stmt := topS 7
abbrev N_is_name : List Str := ["thing", "sign"]
abbrev P_is_name : List Str := ["thing"]
theorem sc_is_name : FnScope N_is_name P_is_name (defScope s_is_name) := ⟨rfl, rfl, rfl, by decide +kernel, rfl, by decide +kernel, by decide +kernel⟩
abbrev s_is_past : Stmt := topS 8
abbrev N_is_past : List Str := ["thing", "hand"]
abbrev P_is_past : List Str := ["thing"]
theorem sc_is_past : FnScope N_is_past P_is_past (defScope s_is_past) := ⟨rfl, rfl, rfl, by decide +kernel, rfl, by decide +kernel, by decide +kernel⟩
abbrev s_check_past : Stmt := topS 10
abbrev N_check_past : List Str := ["thing"]
abbrev P_check_past : List Str := ["thing"]
theorem sc_check_past : FnScope N_check_past P_check_past (defScope s_check_past) := ⟨rfl, rfl, rfl, by decide +kernel, rfl, by decide +kernel, by decide +kernel⟩
abbrev s__is_row : Stmt := topS 13
abbrev N__is_row : List Str := ["past", "hand", "row", "deed"]
abbrev P__is_row : List Str := ["past", "hand"]
theorem sc__is_row : FnScope N__is_row P__is_row (defScope s__is_row) := ⟨rfl, rfl, rfl, by decide +kernel, rfl, by decide +kernel, by decide +kernel⟩
abbrev s__is_deed : Stmt := topS 14
abbrev N__is_deed : List Str := ["past", "hand", "thing"]
abbrev P__is_deed : List Str := ["past", "hand", "thing"]
theorem sc__is_deed : FnScope N__is_deed P__is_deed (defScope s__is_deed) := ⟨rfl, rfl, rfl, by decide +kernel, rfl, by decide +kernel, by decide +kernel⟩
abbrev s__is_letter : Stmt := topS 15
abbrev N__is_letter : List Str := ["thing"]
abbrev P__is_letter : List Str := ["thing"]
theorem sc__is_letter : FnScope N__is_letter P__is_letter (defScope s__is_letter) := ⟨rfl, rfl, rfl, by decide +kernel, rfl, by decide +kernel, by decide +kernel⟩
abbrev s_is_hand : Stmt := topS 11
abbrev N_is_hand : List Str := ["past", "thing"]
abbrev P_is_hand : List Str := ["past", "thing"]
theorem sc_is_hand : FnScope N_is_hand P_is_hand (defScope s_is_hand) := ⟨rfl, rfl, rfl, by decide +kernel, rfl, by decide +kernel, by decide +kernel⟩
abbrev s__is_other : Stmt := topS 16
abbrev N__is_other : List Str := ["past", "hand", "thing"]
abbrev P__is_other : List Str := ["past", "hand", "thing"]
theorem sc__is_other : FnScope N__is_other P__is_other (defScope s__is_other) := ⟨rfl, rfl, rfl, by decide +kernel, rfl, by decide +kernel, by decide +kernel⟩
abbrev s__told_once : Stmt := topS 17
abbrev N__told_once : List Str := ["past", "told", "hand", "deed"]
abbrev P__told_once : List Str := ["past"]
theorem sc__told_once : FnScope N__told_once P__told_once (defScope s__told_once) := ⟨rfl, rfl, rfl, by decide +kernel, rfl, by decide +kernel, by decide +kernel⟩
abbrev s_hearers_of : Stmt := topS 12
abbrev N_hearers_of : List Str := ["past", "hand", "deed"]
abbrev P_hearers_of : List Str := ["past"]
theorem sc_hearers_of : FnScope N_hearers_of P_hearers_of (defScope s_hearers_of) := ⟨rfl, rfl, rfl, by decide +kernel, rfl, by decide +kernel, by decide +kernel⟩
abbrev s__heard_once : Stmt := topS 18
abbrev N__heard_once : List Str := ["past", "hearers", "hand", "deed"]
abbrev P__heard_once : List Str := ["past"]
theorem sc__heard_once : FnScope N__heard_once P__heard_once (defScope s__heard_once) := ⟨rfl, rfl, rfl, by decide +kernel, rfl, by decide +kernel, by decide +kernel⟩
abbrev s__can_have_come : Stmt := topS 19
abbrev N__can_have_come : List Str := ["past", "hand"]
abbrev P__can_have_come : List Str := ["past"]
theorem sc__can_have_come : FnScope N__can_have_come P__can_have_come (defScope s__can_have_come) := ⟨rfl, rfl, rfl, by decide +kernel, rfl, by decide +kernel, by decide +kernel⟩
abbrev s__order_found : Stmt := topS 20
abbrev N__order_found : List Str := ["past", "hands", "done", "told", "order", "came", "hand", "end"]
abbrev P__order_found : List Str := ["past"]
theorem sc__order_found : FnScope N__order_found P__order_found (defScope s__order_found) := ⟨rfl, rfl, rfl, by decide +kernel, rfl, by decide +kernel, by decide +kernel⟩
abbrev s__run_on : Stmt := topS 21
abbrev N__run_on : List Str := ["row", "start", "told", "at", "deed"]
abbrev P__run_on : List Str := ["row", "start", "told"]
theorem sc__run_on : FnScope N__run_on P__run_on (defScope s__run_on) := ⟨rfl, rfl, rfl, by decide +kernel, rfl, by decide +kernel, by decide +kernel⟩
/-- what the module's names hold -/
structure Txt (mg : Str → Option Value) : Prop where
  isinstance : mg "isinstance" = none
  len : mg "len" = none
  all : mg "all" = none
  sum : mg "sum" = none
  set : mg "set" = none
  sorted : mg "sorted" = none
  range : mg "range" = none
  int : mg "int" = none
  bool : mg "bool" = none
  str : mg "str" = none
  list : mg "list" = none
  tuple : mg "tuple" = none
  dict : mg "dict" = none
  g_LONGEST_NAME : ∃ t, mg "LONGEST_NAME" = some (.int 8 t)
  g_MOST_HANDS : ∃ t, mg "MOST_HANDS" = some (.int 40 t)
section
variable {P : Program} {w : World} {K : PySem.W.Frag} {mg : Str → Option Value} {base : Heap}
/-! ### is_whole -/
def wholeD (d : PyData) : Bool := isInt d && !isBool d
def sp_is_whole (K : PySem.W.Frag) : Sp := fun vs H Q _ => ∃ v d, vs = [v] ∧ Da K H v d ∧ Q (.bl (wholeD d)) H
theorem ok_is_whole (D : Dfn K mg "is_whole" s_is_whole P_is_whole) (T : Txt mg) : Cal P w K mg base CX0 1 "is_whole" s_is_whole P_is_whole (sp_is_whole K) := D.cal fun f fd F => by
  refine F.ok sc_is_whole (fun vs H Q E h => ?_) (fun cdv A outer s H vs Q E hr h => ?_)
  · obtain ⟨v, d, rfl, _⟩ := h
    rfl
  · obtain ⟨v, d, rfl, hd, q⟩ := h
    refine ⟨_, (pss_one (ps_ret (pe_and (pe_callB (call_isiKK (K := K) rfl) (by rfl) T.isinstance (by decide +kernel) (pa_cons (pv 0) (pa_cons (pe_bltn (v := .ty "int") (by rfl) T.int (by decide +kernel) rfl) pa_nil))) (pe_one (pe_not (pe_callB (call_isiKK (K := K) rfl) (by rfl) T.isinstance (by decide +kernel) (pa_cons (pv 0) (pa_cons (pe_bltn (v := .ty "bool") (by rfl) T.bool (by decide +kernel) rfl) pa_nil)))))))), ?_⟩
    refine ⟨v, rfl, v, .ty "int", _, _, _, rfl, .ty _, hd.ty, kit_ty (kit_int d), _, rfl, ?_⟩
    unfold wholeD at q
    cases e : isInt d with
    | false =>
      rw [e] at q
      exact q
    | true =>
      rw [e] at q
      exact ⟨v, rfl, v, .ty "bool", _, _, _, rfl, .ty _, hd.ty, kit_ty (kit_bool d), _, rfl, q⟩

/-! ### is_name -/
def nameOk (x : Str) : Bool := decide (1 ≤ x.length) && decide (x.length ≤ 8) && x.cps.toList.all fun c => decide (97 ≤ c) && decide (c ≤ 122)
def nameD : PyData → Bool | .str x => nameOk x | _ => false
theorem paired_map {α β : Type} {f : α → β} : ∀ {xs : List α} {ys : List β}, Paired (fun t y => y = f t) xs ys → ys = xs.map f
  | _, _, .nil => rfl
  | _, _, .cons a b => by rw [a, paired_map b]; rfl
theorem sign_lt (c d : Nat) : decide (([c] : List Nat) < [d]) = decide (c < d) := by
  by_cases h : c < d
  · rw [decide_eq_true h, decide_eq_true]
    exact List.Lex.rel h
  · rw [decide_eq_false h, decide_eq_false]
    intro z
    cases z with
    | rel q => exact h q
    | cons q => cases q
def sp_is_name (K : PySem.W.Frag) : Sp := fun vs H Q _ => ∃ v d, vs = [v] ∧ Da K H v d ∧ (∀ x, d = .str x → x.length ≤ 50000) ∧ ∀ H', Same H H' → Q (.bl (nameD d)) H'
theorem ok_is_name (D : Dfn K mg "is_name" s_is_name P_is_name) (T : Txt mg) : Cal P w K mg base CX0 1 "is_name" s_is_name P_is_name (sp_is_name K) := D.cal fun f fd F => by
  refine F.ok sc_is_name (fun vs H Q E h => ?_) (fun cdv A outer s H vs Q E hr h => ?_)
  · obtain ⟨v, d, rfl, _⟩ := h
    rfl
  · obtain ⟨v, d, rfl, hd, hz, q⟩ := h
    obtain ⟨t8, g_LONGEST_NAME⟩ := T.g_LONGEST_NAME
    refine ⟨_, (pss_cons (ps_if (PW.pt (pw_or (pt_not (pt_val (pe_callB (call_isiKK (K := K) rfl) (by rfl) T.isinstance (by decide +kernel) (pa_cons (pv 0) (pa_cons (pe_bltn (v := .ty "str") (by rfl) T.str (by decide +kernel) rfl) pa_nil))))) (pw_or1 (pt_not (pt_chain op_le op_le pe_int (pe_callB call_len_str (by rfl) T.len PySem.boot_len (pa_cons (pv 0) pa_nil)) (pe_glob (v := .int 8) rfl g_LONGEST_NAME ⟨_, rfl⟩)))))) (pss_one (ps_ret pe_bl)) pss_nil)
      (pss_one (ps_ret (pe_callB (cr_all rfl) (by rfl) T.all (by decide +kernel) (pa_cons (pe_lc (own := [("sign", 1)]) (g := (gName 1)) rfl sc_is_name.nd (pi_str (pv 0)) (blkOk_by (own := [("sign", 1)]) (N := N_is_name) (sc := defScope s_is_name) (by decide +kernel)) (fun _ _ _ _ _ => pg_name (i := 1) sc_is_name.nd rfl (.inl rfl)) (fun _ _ _ _ _ => pts_nil) (fun _ _ _ _ _ => (pe_chain op_le_str op_le_str pe_str (pv 1) pe_str))) pa_nil))))), ?_⟩
    refine ⟨v, rfl, v, .ty "str", _, _, _, rfl, .ty _, hd.ty, kit_ty (kit_str d), _, rfl, ?_⟩
    cases e : isStr d with
    | false =>
      have n0 : nameD d = false := by cases d <;> first | rfl | cases e
      rw [n0] at q
      exact iteT (iteT (q H (.refl H)))
    | true =>
      obtain ⟨x, rfl⟩ : ∃ x, d = .str x := by cases d <;> first | exact ⟨_, rfl⟩ | cases e
      cases hd
      refine iteF ⟨.str x, rfl, x, rfl, Nat.le_trans (hz x rfl) (by decide), 1, x.length, rfl, rfl, _, rfl, ?_⟩
      by_cases h1 : (1 : Int) ≤ (x.length : Int)
      · rw [decide_eq_true h1]
        refine iteT ⟨x.length, 8, rfl, rfl, _, rfl, ?_⟩
        by_cases h8 : (x.length : Int) ≤ 8
        · rw [decide_eq_true h8]
          refine iteF ⟨.str x, rfl, x, rfl, fun D nD => ?_⟩
          refine lc_fm walk_str x.cps.toList (fun c => some (decide (97 ≤ c) && decide (c ≤ 122))) (fun b y _ => y = .bl b) nD (by simp) ?_ (fun _ _ => trivial) (fun _ _ _ _ _ r => r) ?_ ?_
          · show x.length ≤ 50000
            omega
          · rintro i c y H1 H2 hc sm ⟨zs, eD⟩ ⟨rfl, c', hc', rfl⟩ KK NN k n
            have ec : c' = c := by
              rw [← Array.getElem?_toList, hc] at hc'
              exact (Option.some.inj hc').symm
            subst ec
            refine ⟨rfl, yes_go ⟨_, rfl, _, _, rfl, rfl, _, rfl, ?_⟩⟩
            have ea : (("a" : Str).cps.toList : List Nat) = [97] := by decide +kernel
            have ez : (("z" : Str).cps.toList : List Nat) = [122] := by decide +kernel
            have l1 : (!decide ((([c'] : List Nat)) < [97])) = decide (97 ≤ c') := by
              rw [sign_lt]
              by_cases h : c' < 97 <;> simp [h] <;> omega
            have l2 : (!decide ((([122] : List Nat)) < [c'])) = decide (c' ≤ 122) := by
              rw [sign_lt]
              by_cases h : 122 < c' <;> simp [h] <;> omega
            rw [ea]
            show if (!decide ((([c'] : List Nat)) < [97])) = true then _ else _
            rw [l1]
            cases e1 : decide (97 ≤ c') with
            | false => exact iteF (k _ _ _ rfl (.refl _) (by rw [e1]; rfl))
            | true =>
              refine iteT ⟨_, _, rfl, rfl, k _ _ _ rfl (.refl _) ?_⟩
              rw [ez, e1, ← l2]
              rfl
          · intro H1 ys sm eD pr
            have e1 := paired_map pr
            rw [List.filterMap_eq_map'] at e1
            refine ⟨D, _, rfl, .inl (.inl (by rw [eD, e1])), ?_⟩
            have q' := q H1 sm
            have ev : nameD (.str x) = (x.cps.toList.map fun c => decide (97 ≤ c) && decide (c ≤ 122)).all id := by
              show (decide (1 ≤ x.length) && decide (x.length ≤ 8) && x.cps.toList.all fun c => decide (97 ≤ c) && decide (c ≤ 122)) = _
              rw [List.all_map, decide_eq_true (by omega), decide_eq_true (by omega)]
              rfl
            rw [ev] at q'
            exact q'
        · have ev : nameD (.str x) = false := by
            show (decide (1 ≤ x.length) && decide (x.length ≤ 8) && _) = _
            rw [decide_eq_false (show ¬ x.length ≤ 8 by omega), Bool.and_false, Bool.false_and]
          rw [decide_eq_false h8]
          rw [ev] at q
          exact iteT (q H (.refl H))
      · have ev : nameD (.str x) = false := by
          show (decide (1 ≤ x.length) && decide (x.length ≤ 8) && _) = _
          rw [decide_eq_false (show ¬ 1 ≤ x.length by omega), Bool.false_and, Bool.false_and]
        rw [decide_eq_false h1]
        rw [ev] at q
        exact iteF ⟨_, rfl, iteT (q H (.refl H))⟩

/-! ### _is_letter, _is_other -/
def letterD : PyData → Bool | .int i => decide (0 ≤ i) | _ => false
def sp_is_letter (K : PySem.W.Frag) : Sp := fun vs H Q _ => ∃ v d, vs = [v] ∧ Da K H v d ∧ Q (.bl (letterD d)) H
theorem ok_is_letter (D : Dfn K mg "_is_letter" s__is_letter P__is_letter) (C_is_whole : Cal P w K mg base CX0 1 "is_whole" s_is_whole P_is_whole (sp_is_whole K)) : Cal P w K mg base CX0 2 "_is_letter" s__is_letter P__is_letter (sp_is_letter K) := D.cal fun f fd F => by
  refine F.ok sc__is_letter (fun vs H Q E h => ?_) (fun cdv A outer s H vs Q E hr h => ?_)
  · obtain ⟨v, d, rfl, _⟩ := h
    rfl
  · obtain ⟨v, d, rfl, hd, q⟩ := h
    refine ⟨_, (pss_one (ps_ret (pe_and (pe_callC C_is_whole (hr.mono (by decide)) rfl pass0 (pa_cons (pv 0) pa_nil)) (pe_one (pe_cmpR op_ge (pv 0) pe_int (nomark _)))))), ?_⟩
    refine ⟨v, rfl, v, d, rfl, hd, _, rfl, ?_⟩
    cases e : wholeD d with
    | false =>
      have n0 : letterD d = false := by cases d <;> first | rfl | cases e
      rw [n0] at q
      exact iteF q
    | true =>
      obtain ⟨i, rfl⟩ : ∃ i, d = .int i := by cases d <;> first | exact ⟨_, rfl⟩ | cases e
      cases hd
      exact iteT ⟨_, rfl, i, 0, rfl, rfl, q⟩
def otherD (ks : List (Key × V)) (hand : Str) : PyData → Bool | .str x => nameOk x && (valV ks (.inr x)).isSome && !decide (x = hand) | _ => false
/-- texts of a size -/
def Sized (n : Nat) (d : PyData) : Prop := ∀ x, d = .str x → x.length ≤ n
def sp_is_other (K : PySem.W.Frag) : Sp := fun vs H Q _ => ∃ a ks hand v d, vs = [.ref a, .str hand, v] ∧ Rd H a (.dK ks) ∧ Da K H v d ∧ Sized 50000 d ∧ ∀ H', Same H H' → Q (.bl (otherD ks hand d)) H'
def handD (ks : List (Key × V)) : PyData → Bool | .str x => nameOk x && (valV ks (.inr x)).isSome | _ => false
def sp_is_hand (K : PySem.W.Frag) : Sp := fun vs H Q _ => ∃ a ks v d, vs = [.ref a, v] ∧ Rd H a (.dK ks) ∧ Da K H v d ∧ Sized 50000 d ∧ ∀ H', Same H H' → Q (.bl (handD ks d)) H'
theorem ok_is_hand (D : Dfn K mg "is_hand" s_is_hand P_is_hand) (C_is_name : Cal P w K mg base CX0 1 "is_name" s_is_name P_is_name (sp_is_name K)) : Cal P w K mg base CX0 2 "is_hand" s_is_hand P_is_hand (sp_is_hand K) := D.cal fun f fd F => by
  refine F.ok sc_is_hand (fun vs H Q E h => ?_) (fun cdv A outer s H vs Q E hr h => ?_)
  · obtain ⟨a, ks, v, d, rfl, _⟩ := h
    rfl
  · obtain ⟨a, ks, v, d, rfl, rd, hd, hz, q⟩ := h
    have hu := hu_of hr
    refine ⟨_, (pss_one (ps_ret (pe_and (pe_callC C_is_name (hr.mono (by decide)) rfl pass0 (pa_cons (pv 1) pa_nil)) (pe_one (pe_cmp (pc_din hu (pv 1) (pv 0)) rfl))))), ?_⟩
    refine ⟨v, rfl, v, d, rfl, hd, hz, fun H1 sm => ⟨_, rfl, ?_⟩⟩
    cases e : nameD d with
    | false =>
      have n0 : handD ks d = false := by
        cases d <;> first | rfl | (show (nameOk _ && _) = false; rw [show nameOk _ = false from e, Bool.false_and])
      rw [n0] at q
      exact iteF (q H1 sm)
    | true =>
      obtain ⟨x, rfl⟩ : ∃ x, d = .str x := by cases d <;> first | exact ⟨_, rfl⟩ | cases e
      cases hd
      have e : nameOk x = true := e
      have ev : handD ks (.str x) = (valV ks (.inr x)).isSome := by
        show (nameOk x && _) = _
        rw [e, Bool.true_and]
      rw [ev] at q
      exact iteT ⟨.str x, rfl, .ref a, rfl, a, _, rfl, .inl ⟨ks, .inr x, rd_same sm rd, rfl, rfl⟩, q H1 sm⟩
theorem ok_is_other (D : Dfn K mg "_is_other" s__is_other P__is_other) (C_is_hand : Cal P w K mg base CX0 2 "is_hand" s_is_hand P_is_hand (sp_is_hand K)) : Cal P w K mg base CX0 3 "_is_other" s__is_other P__is_other (sp_is_other K) := D.cal fun f fd F => by
  refine F.ok sc__is_other (fun vs H Q E h => ?_) (fun cdv A outer s H vs Q E hr h => ?_)
  · obtain ⟨a, ks, hand, v, d, rfl, _⟩ := h
    rfl
  · obtain ⟨a, ks, hand, v, d, rfl, rd, hd, hz, q⟩ := h
    have hu := hu_of hr
    refine ⟨_, (pss_one (ps_ret (pe_and (pe_callC C_is_hand (hr.mono (by decide)) rfl pass0 (pa_cons (pv 0) (pa_cons (pv 2) pa_nil))) (pe_one (pe_cmpR op_ne (pv 2) (pv 1) (nomark _)))))), ?_⟩
    refine ⟨.ref a, rfl, v, rfl, a, ks, v, d, rfl, rd, hd, hz, fun H1 sm => ⟨_, rfl, ?_⟩⟩
    cases e : handD ks d with
    | false =>
      have n0 : otherD ks hand d = false := by
        cases d <;> first | rfl | (show (nameOk _ && _ && _) = false; rw [show (nameOk _ && _) = false from e, Bool.false_and])
      rw [n0] at q
      exact iteF (q H1 sm)
    | true =>
      obtain ⟨x, rfl⟩ : ∃ x, d = .str x := by cases d <;> first | exact ⟨_, rfl⟩ | cases e
      cases hd
      have ev : otherD ks hand (.str x) = !decide (x = hand) := by
        show (nameOk x && _ && _) = _
        rw [show (nameOk x && (valV ks (.inr x)).isSome) = true from e, Bool.true_and]
      rw [ev] at q
      refine iteT ⟨.str x, rfl, .str hand, rfl, rfl, ?_⟩
      have e3 : decide (V.str x = V.str hand) = decide (x = hand) := by
        by_cases z : x = hand
        · rw [z, decide_eq_true rfl, decide_eq_true rfl]
        · rw [decide_eq_false z, decide_eq_false fun y => z (V.str.inj y)]
      rw [e3]
      exact q H1 sm

/-! ### _is_deed, _is_row -/
def hearOk : List PyData → Bool | [l] => letterD l | _ => false
def tellOk (ks : List (Key × V)) (hand : Str) : List PyData → Bool | [l, h] => letterD l && otherD ks hand h | _ => false
def deedOk (ks : List (Key × V)) (hand : Str) : PyData → Bool
  | .tuple (.str w :: r) => if w = "keep" then decide (r.length = 0) else if w = "hear" then hearOk r else if w = "tell" then tellOk ks hand r else false
  | _ => false
theorem len1 {α : Type} : ∀ {l : List α}, l.length = 1 → ∃ a, l = [a]
  | [a], _ => ⟨a, rfl⟩
theorem len2 {α : Type} : ∀ {l : List α}, l.length = 2 → ∃ a b, l = [a, b]
  | [a, b], _ => ⟨a, b, rfl⟩
theorem dal1 {K : PySem.W.Frag} {H : Hp} {xs : List V} {d : PyData} (h : DaL K H xs [d]) : ∃ x, xs = [x] ∧ Da K H x d := by
  cases h with
  | cons a b => cases b; exact ⟨_, rfl, a⟩
theorem dal2 {K : PySem.W.Frag} {H : Hp} {xs : List V} {d e : PyData} (h : DaL K H xs [d, e]) : ∃ x y, xs = [x, y] ∧ Da K H x d ∧ Da K H y e := by
  cases h with
  | cons a b =>
    obtain ⟨y, rfl, h⟩ := dal1 b
    exact ⟨_, y, rfl, a, h⟩
theorem hear_no : ∀ {dr : List PyData}, dr.length ≠ 1 → hearOk dr = false
  | [], _ => rfl
  | [_], z => absurd rfl z
  | _ :: _ :: _, _ => rfl
theorem tell_no {ks : List (Key × V)} {hand : Str} : ∀ {dr : List PyData}, dr.length ≠ 2 → tellOk ks hand dr = false
  | [], _ => rfl
  | [_], _ => rfl
  | [_, _], z => absurd rfl z
  | _ :: _ :: _ :: _, _ => rfl
def Sized2 (n : Nat) (d : PyData) : Prop := ∀ ds, d = .tuple ds → ∀ e ∈ ds, Sized n e
def sp_is_deed (K : PySem.W.Frag) : Sp := fun vs H Q _ => ∃ a ks hand v d, vs = [.ref a, .str hand, v] ∧ Rd H a (.dK ks) ∧ Da K H v d ∧ Sized2 50000 d ∧ ∀ H', Same H H' → Q (.bl (deedOk ks hand d)) H'
theorem eq_text {x y : Str} : decide (V.str x = V.str y) = decide (x = y) := by
  by_cases z : x = y
  · rw [z, decide_eq_true rfl, decide_eq_true rfl]
  · rw [decide_eq_false z, decide_eq_false fun q => z (V.str.inj q)]
theorem eq_num {x y : Int} : decide (V.int x = V.int y) = decide (x = y) := by
  by_cases z : x = y
  · rw [z, decide_eq_true rfl, decide_eq_true rfl]
  · rw [decide_eq_false z, decide_eq_false fun q => z (V.int.inj q)]
theorem ok_is_deed (D : Dfn K mg "_is_deed" s__is_deed P__is_deed) (T : Txt mg) (C__is_letter : Cal P w K mg base CX0 2 "_is_letter" s__is_letter P__is_letter (sp_is_letter K))
    (C__is_other : Cal P w K mg base CX0 3 "_is_other" s__is_other P__is_other (sp_is_other K)) : Cal P w K mg base CX0 4 "_is_deed" s__is_deed P__is_deed (sp_is_deed K) := D.cal fun f fd F => by
  refine F.ok sc__is_deed (fun vs H Q E h => ?_) (fun cdv A outer s H vs Q E hr h => ?_)
  · obtain ⟨a, ks, hand, v, d, rfl, _⟩ := h
    rfl
  · obtain ⟨a, ks, hand, v, d, rfl, rd, hd, hz, q⟩ := h
    have hu := hu_of hr
    refine ⟨_, (pss_cons (ps_if (PW.pt (pw_or (pt_not (pt_val (pe_callB (call_isiKK (K := K) rfl) (by rfl) T.isinstance (by decide +kernel) (pa_cons (pv 2) (pa_cons (pe_bltn (v := .ty "tuple") (by rfl) T.tuple (by decide +kernel) rfl) pa_nil))))) (pw_or (pt_not (pt_truth (pv 2) (by intro _; rfl))) (pw_or1 (pt_not (pt_val (pe_callB (call_isiKK (K := K) rfl) (by rfl) T.isinstance (by decide +kernel) (pa_cons (pe_ix (ix_tupK (K := K) rfl) (pv 2) pe_int (fun _ _ => rfl)) (pa_cons (pe_bltn (v := .ty "str") (by rfl) T.str (by decide +kernel) rfl) pa_nil))))))))) (pss_one (ps_ret pe_bl)) pss_nil)
      (pss_cons (ps_if (pt_cmpR op_eq (pe_ix (ix_tupK (K := K) rfl) (pv 2) pe_int (fun _ _ => rfl)) pe_str (nomark _)) (pss_one (ps_ret (pe_cmpR op_eq (pe_callB (call_len_seqK (K := K) rfl) (by rfl) T.len PySem.boot_len (pa_cons (pv 2) pa_nil)) pe_int (nomark _)))) pss_nil)
      (pss_cons (ps_if (pt_cmpR op_eq (pe_ix (ix_tupK (K := K) rfl) (pv 2) pe_int (fun _ _ => rfl)) pe_str (nomark _)) (pss_one (ps_ret (pe_and (pe_cmpR op_eq (pe_callB (call_len_seqK (K := K) rfl) (by rfl) T.len PySem.boot_len (pa_cons (pv 2) pa_nil)) pe_int (nomark _)) (pe_one (pe_callC C__is_letter (hr.mono (by decide)) rfl pass0 (pa_cons (pe_ix (ix_tupK (K := K) rfl) (pv 2) pe_int (fun _ _ => rfl)) pa_nil)))))) pss_nil)
      (pss_cons (ps_if (pt_cmpR op_eq (pe_ix (ix_tupK (K := K) rfl) (pv 2) pe_int (fun _ _ => rfl)) pe_str (nomark _)) (pss_one (ps_ret (pe_and (pe_cmpR op_eq (pe_callB (call_len_seqK (K := K) rfl) (by rfl) T.len PySem.boot_len (pa_cons (pv 2) pa_nil)) pe_int (nomark _)) (pe_and (pe_callC C__is_letter (hr.mono (by decide)) rfl pass0 (pa_cons (pe_ix (ix_tupK (K := K) rfl) (pv 2) pe_int (fun _ _ => rfl)) pa_nil)) (pe_one (pe_callC C__is_other (hr.mono (by decide)) rfl pass0 (pa_cons (pv 0) (pa_cons (pv 1) (pa_cons (pe_ix (ix_tupK (K := K) rfl) (pv 2) pe_int (fun _ _ => rfl)) pa_nil))))))))) pss_nil)
      (pss_one (ps_ret pe_bl)))))), ?_⟩
    refine ⟨v, rfl, v, .ty "tuple", _, _, _, rfl, .ty _, hd.ty, kit_ty (kit_tuple d), _, rfl, ?_⟩
    cases e : isTuple d with
    | false =>
      have n0 : deedOk ks hand d = false := by cases d <;> first | rfl | cases e
      rw [n0] at q
      exact iteT (iteT (q H (.refl H)))
    | true =>
      obtain ⟨ds, rfl⟩ : ∃ ds, d = .tuple ds := by cases d <;> first | exact ⟨_, rfl⟩ | cases e
      cases hd with
      | tup st dl =>
      rename_i t xs
      refine iteF ⟨.ref t, rfl, !xs.isEmpty, .inr (.inl ⟨xs, st, rfl⟩), ?_⟩
      cases dl with
      | nil => exact iteT (iteT (q H (.refl H)))
      | cons h0 hr0 =>
      rename_i x0 xr d0 dr
      refine iteF ⟨.ref t, rfl, t, _, 0, x0, rfl, rfl, st, atI_nat (j := 0) rfl, x0, .ty "str", _, _, _, rfl, .ty _, h0.ty, kit_ty (kit_str d0), _, rfl, ?_⟩
      cases e0 : isStr d0 with
      | false =>
        have n0 : deedOk ks hand (.tuple (d0 :: dr)) = false := by cases d0 <;> first | rfl | cases e0
        rw [n0] at q
        exact iteT (q H (.refl H))
      | true =>
      obtain ⟨x, rfl⟩ : ∃ x, d0 = .str x := by cases d0 <;> first | exact ⟨_, rfl⟩ | cases e0
      cases h0
      have hd0 : deedOk ks hand (.tuple (.str x :: dr)) = (if x = "keep" then decide (dr.length = 0) else if x = "hear" then hearOk dr else if x = "tell" then tellOk ks hand dr else false) := rfl
      rw [hd0] at q
      refine iteF ⟨.ref t, rfl, t, _, 0, _, rfl, rfl, st, atI_nat (j := 0) rfl, rfl, _, rfl, ?_⟩
      rw [eq_text]
      by_cases c1 : x = "keep"
      · rw [if_pos c1] at q
        rw [decide_eq_true c1]
        refine iteT ⟨.ref t, rfl, t, _, rfl, .inr st, rfl, ?_⟩
        rw [eq_num]
        have q' := q H (.refl H)
        have l2 := hr0.len
        have ev : decide ((((V.str x :: xr).length : Nat) : Int) = 1) = decide (dr.length = 0) := by
          rw [List.length_cons, l2]
          by_cases z : dr.length = 0
          · rw [decide_eq_true z, decide_eq_true (by omega)]
          · rw [decide_eq_false z, decide_eq_false (by omega)]
        rw [ev]
        exact q'
      rw [if_neg c1] at q
      rw [decide_eq_false c1]
      refine iteF ⟨.ref t, rfl, t, _, 0, _, rfl, rfl, st, atI_nat (j := 0) rfl, rfl, _, rfl, ?_⟩
      rw [eq_text]
      by_cases c2 : x = "hear"
      · rw [if_pos c2] at q
        rw [decide_eq_true c2]
        refine iteT ⟨.ref t, rfl, t, _, rfl, .inr st, rfl, _, rfl, ?_⟩
        rw [eq_num]
        have l2 := hr0.len
        by_cases len : dr.length = 1
        · rw [decide_eq_true (show ((((V.str x :: xr).length : Nat) : Int) = 2) by rw [List.length_cons]; omega)]
          obtain ⟨d1, rfl⟩ := len1 len
          obtain ⟨x1, rfl, h1⟩ := dal1 hr0
          exact iteT ⟨.ref t, rfl, t, _, 1, x1, rfl, rfl, st, atI_nat (j := 1) rfl, x1, d1, rfl, h1, q H (.refl H)⟩
        · have n0 : hearOk dr = false := hear_no len
          rw [n0] at q
          rw [decide_eq_false (show ¬ ((((V.str x :: xr).length : Nat) : Int) = 2) by rw [List.length_cons]; omega)]
          exact iteF (q H (.refl H))
      rw [if_neg c2] at q
      rw [decide_eq_false c2]
      refine iteF ⟨.ref t, rfl, t, _, 0, _, rfl, rfl, st, atI_nat (j := 0) rfl, rfl, _, rfl, ?_⟩
      rw [eq_text]
      by_cases c3 : x = "tell"
      · rw [if_pos c3] at q
        rw [decide_eq_true c3]
        refine iteT ⟨.ref t, rfl, t, _, rfl, .inr st, rfl, _, rfl, ?_⟩
        rw [eq_num]
        have l2 := hr0.len
        by_cases len : dr.length = 2
        · rw [decide_eq_true (show ((((V.str x :: xr).length : Nat) : Int) = 3) by rw [List.length_cons]; omega)]
          obtain ⟨d1, d2, rfl⟩ := len2 len
          obtain ⟨x1, x2, rfl, h1, h2⟩ := dal2 hr0
          refine iteT ⟨.ref t, rfl, t, _, 1, x1, rfl, rfl, st, atI_nat (j := 1) rfl, x1, d1, rfl, h1, _, rfl, ?_⟩
          have ev : tellOk ks hand [d1, d2] = (letterD d1 && otherD ks hand d2) := rfl
          rw [ev] at q
          cases e1 : letterD d1 with
          | false =>
            rw [e1] at q
            exact iteF (q H (.refl H))
          | true =>
            rw [e1] at q
            refine iteT ⟨.ref a, rfl, .str hand, rfl, .ref t, rfl, t, _, 2, x2, rfl, rfl, st, atI_nat (j := 2) rfl, a, ks, hand, x2, d2, rfl, rd, h2, hz _ rfl d2 (by simp), q⟩
        · have n0 : tellOk ks hand dr = false := tell_no len
          rw [n0] at q
          rw [decide_eq_false (show ¬ ((((V.str x :: xr).length : Nat) : Int) = 3) by rw [List.length_cons]; omega)]
          exact iteF (q H (.refl H))
      rw [if_neg c3] at q
      rw [decide_eq_false c3]
      exact iteF (q H (.refl H))
end
end L2.Fb.Law

namespace L2.Fb.Law
open PySem PySem.Spec
open PyProof.Rows
section
variable {P : Program} {w : World} {K : PySem.W.Frag} {mg : Str → Option Value} {base : Heap}
/-! ### _is_row -/
def rowOk (ks : List (Key × V)) (hand : Str) : PyData → Bool | .list ds => ds.all (deedOk ks hand) | _ => false
/-- texts of a size, within a row's deeds -/
def Sized3 (d : PyData) : Prop := ∀ ds, d = .list ds → ds.length ≤ 4000 ∧ ∀ e ∈ ds, Sized2 50000 e
def sp_is_row (K : PySem.W.Frag) : Sp := fun vs H Q _ => ∃ a ks hand v d, vs = [.ref a, .str hand] ∧ Rd H a (.dK ks) ∧ valV ks (.inr hand) = some v ∧ Da K H v d ∧ Sized3 d ∧ ∀ H', Same H H' → Q (.bl (rowOk ks hand d)) H'
theorem ok_is_row (D : Dfn K mg "_is_row" s__is_row P__is_row) (T : Txt mg) (C__is_deed : Cal P w K mg base CX0 4 "_is_deed" s__is_deed P__is_deed (sp_is_deed K)) : Cal P w K mg base CX0 5 "_is_row" s__is_row P__is_row (sp_is_row K) := D.cal fun f fd F => by
  refine F.ok sc__is_row (fun vs H Q E h => ?_) (fun cdv A outer s H vs Q E hr h => ?_)
  · obtain ⟨a, ks, hand, v, d, rfl, _⟩ := h
    rfl
  · obtain ⟨a, ks, hand, v, d, rfl, rd, hv, hd, hz, q⟩ := h
    have hu := hu_of hr
    refine ⟨_, (pss_cons (ps_set (i := 2) sc__is_row.nd rfl (.inl rfl) (pe_dget hu (pv 0) (pv 1) (fun _ _ => rfl)))
      (pss_one (ps_ret (pe_and (pe_callB (call_isiKK (K := K) rfl) (by rfl) T.isinstance (by decide +kernel) (pa_cons (pv 2) (pa_cons (pe_bltn (v := .ty "list") (by rfl) T.list (by decide +kernel) rfl) pa_nil))) (pe_one (pe_callB (cr_all rfl) (by rfl) T.all (by decide +kernel) (pa_cons (pe_lc (own := [("deed", 3)]) (g := (gName 3)) rfl sc__is_row.nd (pi_listK (K := K) rfl (pv 2)) (blkOk_by (own := [("deed", 3)]) (N := N__is_row) (sc := defScope s__is_row) (by decide +kernel)) (fun _ _ _ _ _ => pg_name (i := 3) sc__is_row.nd rfl (.inl rfl)) (fun _ _ _ _ _ => pts_nil) (fun _ _ _ _ _ => (pe_callC C__is_deed (hr.mono (by decide)) rfl pass0 (pa_cons (pv 0) (pa_cons (pv 1) (pa_cons (pv 3) pa_nil)))))) pa_nil))))))), ?_⟩
    refine ⟨.ref a, rfl, .str hand, rfl, a, v, rfl, .inl ⟨ks, .inr hand, rd, rfl, hv.symm⟩, ?_⟩
    refine ⟨v, rfl, v, .ty "list", _, _, _, rfl, .ty _, hd.ty, kit_ty (kit_list d), _, rfl, ?_⟩
    cases e : isList d with
    | false =>
      have n0 : rowOk ks hand d = false := by cases d <;> first | rfl | cases e
      rw [n0] at q
      exact iteF (q H (.refl H))
    | true =>
      obtain ⟨ds, rfl⟩ : ∃ ds, d = .list ds := by cases d <;> first | exact ⟨_, rfl⟩ | cases e
      obtain ⟨z1, z2⟩ := hz ds rfl
      cases hd with
      | lst sl dl =>
      rename_i b xs
      refine iteT ⟨.ref b, rfl, b, rfl, ⟨xs, sl⟩, fun L nL => ?_⟩
      refine lc_fm walk_list ds (fun d => some (deedOk ks hand d)) (fun t y _ => y = .bl t) nL dl.len (by rw [dl.len]; omega) (fun H' sm => sm.seq sl) (fun _ _ _ _ _ r => r) ?_ ?_
      · rintro i d x H1 H2 hi sm - ⟨rfl, hx⟩ KK NN k -
        obtain ⟨d', hd', da⟩ := dl.at i x hx
        rw [hi] at hd'
        cases Option.some.inj hd'
        refine ⟨rfl, yes_go ⟨.ref a, rfl, .str hand, rfl, x, rfl, a, ks, hand, x, d, rfl, rd_same sm rd, Da.same sm d da, z2 d (List.mem_of_getElem? hi), fun H' s' => k _ _ _ rfl s' rfl⟩⟩
      · intro H1 ys sm eL pr
        have e1 := paired_map pr
        rw [List.filterMap_eq_map'] at e1
        refine ⟨L, _, rfl, .inl (.inl (by rw [eL, e1])), ?_⟩
        have q' := q H1 sm
        have ev : rowOk ks hand (.list ds) = (ds.map (deedOk ks hand)).all id := by
          show ds.all _ = _
          rw [List.all_map]
          rfl
        rw [ev] at q'
        exact q'

/-! ### _told_once -/
def sp_told_once (K : PySem.W.Frag) : Sp := fun vs H Q _ => ∃ v p, vs = [v] ∧ Da K H v (pastD p) ∧ (p.map (·.1)).Nodup ∧ (toldP p).length ≤ 4000 ∧ p.length ≤ 4000 ∧ ∀ H', Same H H' → Q (.bl (decide (toldP p).Nodup)) H'
theorem ok_told_once (D : Dfn K mg "_told_once" s__told_once P__told_once) (T : Txt mg) : Cal P w K mg base CX0 1 "_told_once" s__told_once P__told_once (sp_told_once K) := D.cal fun f fd F => by
  refine F.ok sc__told_once (fun vs H Q E h => ?_) (fun cdv A outer s H vs Q E hr h => ?_)
  · obtain ⟨v, p, rfl, _⟩ := h
    rfl
  · obtain ⟨v, p, rfl, hd, nd, few, fewp, q⟩ := h
    have hu := hu_of hr
    refine ⟨_, (pss_cons (ps_lockO (ps_setLc2 (i := 1) (own := [("hand", 2), ("deed", 3)]) (vs1 := [3]) (g := (gName 2)) (g1 := (gName 3)) (by rfl) sc__told_once.nd rfl rfl (sw_true rfl rfl rfl (by decide +kernel)) (pi_keys (pv 0)) (blkOk_by (own := [("hand", 2), ("deed", 3)]) (N := N__told_once) (sc := defScope s__told_once) (by decide +kernel)) (by decide) (fun _ _ _ _ _ => pg_name (i := 2) sc__told_once.nd rfl (.inl rfl)) (fun _ _ _ _ _ => pts_nil) (fun _ _ _ _ _ => (pi_listK (K := K) rfl (pe_dget hu (pv 0) (pv 2) (fun _ _ => rfl)))) (fun _ _ _ _ _ => pg_name (i := 3) sc__told_once.nd rfl (.inl rfl)) (fun _ _ _ _ _ => pts_one (pt_cmpR op_eq (pe_ix (ix_tupK (K := K) rfl) (pv 3) pe_int (fun _ _ => rfl)) pe_str (nomark _))) (fun _ _ _ _ _ => (pe_ix (ix_tupK (K := K) rfl) (pv 3) pe_int (fun _ _ => rfl)))))
      (pss_one (ps_ret (pe_cmpR op_eq (pe_lenSet rfl T.len rfl T.set (pv 1)) (pe_callB (call_len_seqK (K := K) rfl) (by rfl) T.len PySem.boot_len (pa_cons (pv 1) pa_nil)) (nomark _))))), ?_⟩
    obtain ⟨a, ks, rfl, rd, dk⟩ := past_at hd
    have kl := past_len dk
    refine ⟨a, ks, rd, fun od un H1 L => ?_⟩
    refine ⟨.ref a, rfl, a, od, rfl, .inl ⟨ks, L.frz, fun M nM => ?_⟩⟩
    have dk1 := DaK.le L.le _ dk
    have line : 4000 < sizeLine := by decide
    refine in_it walk_keys (fun i H' => Same H1 H' ∧ H' M = some (.lst ((toldP (p.take i)).map V.int))) ⟨same_new nM, upd_same⟩ (fun i H' _ pv => pv.1 _ _ L.frz) ?_ ?_
    · rintro i x H2 H3 hi ⟨sm, eM⟩ ⟨rfl, k, v, hk, rfl⟩
      obtain ⟨⟨hand, r⟩, hp, rfl, da⟩ := past_ix dk1 i k v hk
      obtain ⟨v', hv', da'⟩ := past_look dk1 r (look_of nd (List.mem_of_getElem? hp))
      obtain ⟨b, xs, rfl, sl, dl⟩ := row_at da'
      refine ⟨rfl, yes_on ⟨.ref a, rfl, .str hand, rfl, a, .ref b, rfl, .inl ⟨ks, .inr hand, rd_same sm (L.le _ _ rd), rfl, hv'.symm⟩, b, rfl, ⟨xs, sm.seq sl⟩, ?_⟩⟩
      have tot : (toldP (p.take i)).length + (toldR r).length ≤ 4000 := by
        have h1 := toldP_le p (i + 1)
        rw [toldP_snoc hp, List.length_append] at h1
        have h2 : (toldR (hand, r).2).length = (toldR r).length := rfl
        omega
      refine in_it walk_list (fun j H' => Same H1 H' ∧ H' M = some (.lst ((toldP (p.take i) ++ toldR (r.take j)).map V.int))) ⟨sm, by rw [eM]; simp [toldR]⟩ (fun j H' _ pv => pv.1.seq sl) ?_ ?_
      · rintro j x H4 H5 hj ⟨sm4, eM4⟩ ⟨rfl, hx⟩
        obtain ⟨d, t, hd, rfl, st⟩ := rows_at dl hx
        have st4 := sqt_same sm4 st
        refine ⟨rfl, ?_⟩
        have sn := toldR_snoc hd
        cases d with
        | keep =>
          refine ⟨.ref t, rfl, t, _, 0, _, rfl, rfl, st4, atI_nat (j := 0) rfl, rfl, _, rfl, iteF ⟨sm4, ?_⟩⟩
          rw [eM4, sn]
          simp [tellL]
        | hear l =>
          refine ⟨.ref t, rfl, t, _, 0, _, rfl, rfl, st4, atI_nat (j := 0) rfl, rfl, _, rfl, iteF ⟨sm4, ?_⟩⟩
          rw [eM4, sn]
          simp [tellL]
        | tell l h =>
          refine ⟨.ref t, rfl, t, _, 0, _, rfl, rfl, st4, atI_nat (j := 0) rfl, rfl, _, rfl, iteT ⟨.ref t, rfl, t, _, 1, .int l, rfl, rfl, st4, atI_nat (j := 1) rfl, _, eM4, ?_, same_mut sm4 nM, ?_⟩⟩
          · rw [List.length_map, List.length_append]
            have := toldR_le r j
            omega
          · rw [upd_same, sn]
            simp [tellL]
      · rintro H4 ⟨sm4, eM4⟩
        refine ⟨sm4, ?_⟩
        have lr : xs.length = r.length := by rw [dl.len, List.length_map]
        rw [eM4, lr, List.take_length, toldP_snoc hp]
    · rintro H2 ⟨sm, eM⟩
      rw [kl, List.take_length] at eM
      refine ⟨sm _ _ L.frz, ?_⟩
      have un := L.same sm
      have eM' := (L.new nM eM).2
      refine ⟨.ref M, rfl, M, toldP p, rfl, .inl (.inl eM'), few, .ref M, rfl, M, _, rfl, .inl (.inl (.inl eM')), rfl, ?_⟩
      rw [eq_num, List.length_map]
      have ev : decide ((((firstMet (fun i => (toldP p).getD i 0) (toldP p).length).length : Nat) : Int) = (((toldP p).length : Nat) : Int)) = decide (toldP p).Nodup := by
        by_cases z : (toldP p).Nodup
        · rw [decide_eq_true z, decide_eq_true (by rw [(met_nodup _).mpr z])]
        · rw [decide_eq_false z, decide_eq_false fun y => z ((met_nodup _).mp (by omega))]
      rw [ev]
      exact q _ un

/-! ### _heard_once -/
def sp_heard_once (K : PySem.W.Frag) : Sp := fun vs H Q _ => ∃ v p, vs = [v] ∧ Da K H v (pastD p) ∧ (p.map (·.1)).Nodup ∧ (toldP p).Nodup ∧ (toldP p).length ≤ 4000 ∧ ∀ H', Same H H' → Q (.bl (decide (HeardOnce p))) H'
/-- the dict of who is told what: the letters told so far, those heard taken out -/
def HrAt (ts hs : List (Int × Str)) (ks : List (Key × V)) : Prop := ks.length ≤ ts.length ∧ ∀ l, valV ks (.inl l) = if l ∈ hs.map (·.1) then none else (lookT ts l).map V.str
def sp_hearers_of (K : PySem.W.Frag) : Sp := fun vs H Q _ => ∃ v p, vs = [v] ∧ Da K H v (pastD p) ∧ (p.map (·.1)).Nodup ∧ (toldP p).Nodup ∧ (toldP p).length ≤ 4000 ∧ ∀ H' M hs, Same H H' → H M = none → H' M = some (.dK hs) → HrAt (tellsP p) [] hs → Q (.ref M) H'
theorem ok_hearers_of (D : Dfn K mg "hearers_of" s_hearers_of P_hearers_of) (T : Txt mg) : Cal P w K mg base CX0 1 "hearers_of" s_hearers_of P_hearers_of (sp_hearers_of K) := D.cal fun f fd F => by
  refine F.ok sc_hearers_of (fun vs H Q E h => ?_) (fun cdv A outer s H vs Q E hr h => ?_)
  · obtain ⟨v, p, rfl, _⟩ := h
    rfl
  · obtain ⟨v, p, rfl, hd, nd, once, few, q⟩ := h
    have hu := hu_of hr
    refine ⟨_, (pss_one (ps_ret (pe_lockO (pe_dc2 (own := [("hand", 1), ("deed", 2)]) (vs1 := [2]) (g := (gName 1)) (g1 := (gName 2)) rfl sc_hearers_of.nd (pi_keys (pv 0)) (blkOk_by (own := [("hand", 1), ("deed", 2)]) (N := N_hearers_of) (sc := defScope s_hearers_of) (by decide +kernel)) (by decide) (fun _ _ _ _ _ => pg_name (i := 1) sc_hearers_of.nd rfl (.inl rfl)) (fun _ _ _ _ _ => pts_nil) (fun _ _ _ _ _ => (pi_listK (K := K) rfl (pe_dget hu (pv 0) (pv 1) (fun _ _ => rfl)))) (fun _ _ _ _ _ => pg_name (i := 2) sc_hearers_of.nd rfl (.inl rfl)) (fun _ _ _ _ _ => pts_one (pt_cmpR op_eq (pe_ix (ix_tupK (K := K) rfl) (pv 2) pe_int (fun _ _ => rfl)) pe_str (nomark _))) (fun _ _ _ _ _ => (pe_ix (ix_tupK (K := K) rfl) (pv 2) pe_int (fun _ _ => rfl))) (fun _ _ _ _ _ => (pe_ix (ix_tupK (K := K) rfl) (pv 2) pe_int (fun _ _ => rfl))))))), ?_⟩
    obtain ⟨a, ks, rfl, rd, dk⟩ := past_at hd
    have kl := past_len dk
    refine ⟨a, ks, rd, fun od un H1 L => ?_⟩
    refine ⟨.ref a, rfl, a, od, rfl, .inl ⟨ks, L.frz, fun M nM => ?_⟩⟩
    have dk1 := DaK.le L.le _ dk
    have line : 4000 < sizeLine := by decide
    have fewT : (tellsP p).length ≤ 4000 := by
      have := congrArg List.length (tells_fst p)
      rw [List.length_map] at this
      omega
    have ndT : ((tellsP p).map (·.1)).Nodup := by rw [tells_fst]; exact once
    refine in_it walk_keys (fun i H' => Same H1 H' ∧ ∃ hs, H' M = some (.dK hs) ∧ HrAt (tellsP (p.take i)) [] hs) ⟨same_new nM, [], upd_same, Nat.zero_le _, fun l => by simp [lookT, tellsP, valV_nil]⟩ (fun i H' _ pv => pv.1 _ _ L.frz) ?_ ?_
    · rintro i x H2 H3 hi ⟨sm, hs, eM, hrs⟩ ⟨rfl, k, v, hk, rfl⟩
      obtain ⟨⟨hand, r⟩, hp, rfl, da⟩ := past_ix dk1 i k v hk
      obtain ⟨v', hv', da'⟩ := past_look dk1 r (look_of nd (List.mem_of_getElem? hp))
      obtain ⟨b, xs, rfl, sl, dl⟩ := row_at da'
      refine ⟨rfl, yes_on ⟨.ref a, rfl, .str hand, rfl, a, .ref b, rfl, .inl ⟨ks, .inr hand, rd_same sm (L.le _ _ rd), rfl, hv'.symm⟩, b, rfl, ⟨xs, sm.seq sl⟩, ?_⟩⟩
      refine in_it walk_list (fun j H' => Same H1 H' ∧ ∃ hs, H' M = some (.dK hs) ∧ HrAt (tellsP (p.take i) ++ (r.take j).filterMap tellT) [] hs) ⟨sm, hs, eM, by simpa using hrs⟩ (fun j H' _ pv => pv.1.seq sl) ?_ ?_
      · rintro j x H4 H5 hj ⟨sm4, hs4, eM4, hr4⟩ ⟨rfl, hx⟩
        obtain ⟨d, t, hd, rfl, st⟩ := rows_at dl hx
        have st4 := sqt_same sm4 st
        refine ⟨rfl, ?_⟩
        have sn := tells_snocR hd
        obtain ⟨z, pre⟩ := tells_pre (j := j + 1) hp
        have pre : tellsP p = tellsP (p.take i) ++ (r.take (j + 1)).filterMap tellT ++ z := pre
        rw [sn] at pre ⊢
        cases d with
        | keep =>
          refine ⟨.ref t, rfl, t, _, 0, _, rfl, rfl, st4, atI_nat (j := 0) rfl, rfl, _, rfl, iteF ⟨sm4, hs4, eM4, ?_⟩⟩
          simpa [tellT] using hr4
        | hear l =>
          refine ⟨.ref t, rfl, t, _, 0, _, rfl, rfl, st4, atI_nat (j := 0) rfl, rfl, _, rfl, iteF ⟨sm4, hs4, eM4, ?_⟩⟩
          simpa [tellT] using hr4
        | tell l h =>
          have pre' : tellsP p = (tellsP (p.take i) ++ (r.take j).filterMap tellT) ++ ((l, h) :: z) := by rw [pre]; simp [tellT]
          have lens : (tellsP (p.take i) ++ (r.take j).filterMap tellT).length < 4000 := by
            have := congrArg List.length pre'
            rw [List.length_append, List.length_cons] at this
            omega
          refine ⟨.ref t, rfl, t, _, 0, _, rfl, rfl, st4, atI_nat (j := 0) rfl, rfl, _, rfl, iteT ⟨.ref t, rfl, t, _, 1, .int l, rfl, rfl, st4, atI_nat (j := 1) rfl, .ref t, rfl, t, _, 2, .str h, rfl, rfl, st4, atI_nat (j := 2) rfl, hs4, .inl l, rfl, eM4, ?_, same_mut sm4 nM, _, upd_same, ?_, fun j' => ?_⟩⟩
          · have := hr4.1
            omega
          · have h1 := length_putK hs4 (.inl l : Key) (.str h)
            have h2 := hr4.1
            simp [tellT] at h2 ⊢
            omega
          · have nl : l ∉ (tellsP (p.take i) ++ (r.take j).filterMap tellT).map (·.1) := fun m => by
              rw [pre', List.map_append, List.map_cons] at ndT
              exact (List.nodup_append.mp ndT).2.2 _ m _ List.mem_cons_self rfl
            rw [valV_put, ← List.append_assoc]
            show (if (Sum.inl j' : Key) = .inl l then some (V.str h) else valV hs4 (.inl j')) = _
            rw [show (tellT (Deed.tell l h)).toList = [(l, h)] from rfl, lookT_snoc nl, hr4.2]
            by_cases zz : j' = l
            · subst zz
              simp
            · rw [if_neg (fun y => zz (Sum.inl.inj y)), if_neg zz]
      · rintro H4 ⟨sm4, hs4, eM4, hr4⟩
        refine ⟨sm4, hs4, eM4, ?_⟩
        have lr : xs.length = r.length := by rw [dl.len, List.length_map]
        rw [lr, List.take_length] at hr4
        rw [tells_snocP hp]
        exact hr4
    · rintro H2 ⟨sm, hs, eM, hrs⟩
      rw [kl, List.take_length] at hrs
      refine ⟨sm _ _ L.frz, ?_⟩
      have un1 := L.same sm
      obtain ⟨nM0, eM'⟩ := L.new nM eM
      exact q _ M hs un1 nM0 eM' hrs
theorem ok_heard_once (D : Dfn K mg "_heard_once" s__heard_once P__heard_once) (C_hearers_of : Cal P w K mg base CX0 1 "hearers_of" s_hearers_of P_hearers_of (sp_hearers_of K)) : Cal P w K mg base CX0 2 "_heard_once" s__heard_once P__heard_once (sp_heard_once K) := D.cal fun f fd F => by
  refine F.ok sc__heard_once (fun vs H Q E h => ?_) (fun cdv A outer s H vs Q E hr h => ?_)
  · obtain ⟨v, p, rfl, _⟩ := h
    rfl
  · obtain ⟨v, p, rfl, hd, nd, once, few, q⟩ := h
    have hu := hu_of hr
    refine ⟨_, (pss_cons (ps_set (i := 1) sc__heard_once.nd rfl (.inl rfl) (pe_callC C_hearers_of (hr.mono (by decide)) rfl pass0 (pa_cons (pv 0) pa_nil)))
      (pss_cons (ps_lockO (ps_for PassesOwn.never rfl (pi_keys (pv 0)) (pg_name (i := 2) sc__heard_once.nd rfl (.inl rfl)) (pss_one (ps_for PassesOwn.never rfl (pi_listK (K := K) rfl (pe_dget hu (pv 0) (pv 2) (fun _ _ => rfl))) (pg_name (i := 3) sc__heard_once.nd rfl (.inl rfl)) (pss_one (ps_if (PW.pt (pw_and (pt_cmpR op_eq (pe_ix (ix_tupK (K := K) rfl) (pv 3) pe_int (fun _ _ => rfl)) pe_str (nomark _)) (pw_and1 (pt_cmpR op_ne (pe_dpop2 (pv 1) (pe_ix (ix_tupK (K := K) rfl) (pv 3) pe_int (fun _ _ => rfl)) pe_non ⟨rfl, rfl, rfl, rfl⟩) (pv 2) (nomark _))))) (pss_one (ps_ret pe_bl)) pss_nil))))))
      (pss_one (ps_ret pe_bl)))), ?_⟩
    obtain ⟨a, ks, rfl, rd, dk⟩ := past_at hd
    have kl := past_len dk
    have line : 4000 < sizeLine := by decide
    have fewT : (tellsP p).length ≤ 4000 := by
      have := congrArg List.length (tells_fst p)
      rw [List.length_map] at this
      omega
    have ndT : ((tellsP p).map (·.1)).Nodup := by rw [tells_fst]; exact once
    refine ⟨.ref a, rfl, .ref a, p, rfl, hd, nd, once, few, fun Hc M hs un1 nM0 eM' hrs => ?_⟩
    have nMa : M ≠ a := fun z => by
      subst z
      rcases rd with z | ⟨_, z⟩ <;> rw [nM0] at z <;> cases z
    -- the walk: each hearing takes its letter out
    refine ⟨a, ks, rd_same un1 rd, fun od2 un2 H3 L2 => ⟨.ref a, rfl, a, od2, rfl, .inl ⟨ks, L2.frz, ?_⟩⟩⟩
    have le3 : Le H H3 := (same_le un1).trans L2.le
    have eM3 : H3 M = some (.dK hs) := by rw [L2.off M nMa]; exact eM'
    have fail : ∀ H', Off M H3 H' → H' a = some (.frz od2 (.dK ks)) → ¬ HeardOnce p → Q (.bl false) (un2 H') := fun H' off ha no => by
      have q' := q _ (L2.sameOff off nM0 un1 ha)
      rw [decide_eq_false no] at q'
      exact q'
    refine for_it walk_keys (fun i σ' H' => (∃ y2 y3, σ' = [some (.ref a), some (.ref M), y2, y3]) ∧ Off M H3 H' ∧ (∃ hs, H' M = some (.dK hs) ∧ HrAt (tellsP p) (hearsP (p.take i)) hs) ∧ (∀ x ∈ hearsP (p.take i), x ∈ tellsP p) ∧ ((hearsP (p.take i)).map (·.1)).Nodup)
      ⟨⟨none, none, rfl⟩, fun _ _ _ z => z, ⟨hs, eM3, by simpa [hearsP] using hrs⟩, by simp [hearsP], by simp [hearsP]⟩ (fun i σ' H' _ pv => pv.2.1 _ _ nMa.symm L2.frz) ?_ ?_
    · rintro i x σ' H4 H5 hi ⟨⟨y2, y3, rfl⟩, off4, ⟨hs4, eM4, hr4⟩, in4, nd4⟩ ⟨rfl, k, v, hk, rfl⟩
      obtain ⟨⟨hand, r⟩, hp, rfl, da⟩ := past_ix dk i k v hk
      obtain ⟨v', hv', da'⟩ := past_look dk r (look_of nd (List.mem_of_getElem? hp))
      obtain ⟨b, xs, rfl, sl, dl⟩ := row_at da'
      have le4 := le_off nM0 le3 off4
      refine ⟨.ref a, rfl, .str hand, rfl, a, .ref b, rfl, .inl ⟨ks, .inr hand, le4 _ _ rd, rfl, hv'.symm⟩, b, rfl, ⟨xs, le4.seq sl⟩, ?_⟩
      refine for_it walk_list (fun j σ' H' => (∃ y3, σ' = [some (.ref a), some (.ref M), some (.str hand), y3]) ∧ Off M H3 H' ∧ (∃ hs, H' M = some (.dK hs) ∧ HrAt (tellsP p) (hearsP (p.take i) ++ hearsR (hand, r.take j)) hs) ∧ (∀ x ∈ hearsP (p.take i) ++ hearsR (hand, r.take j), x ∈ tellsP p) ∧ ((hearsP (p.take i) ++ hearsR (hand, r.take j)).map (·.1)).Nodup)
        ⟨⟨y3, rfl⟩, off4, ⟨hs4, eM4, by simpa [hearsR] using hr4⟩, by simpa [hearsR] using in4, by simpa [hearsR] using nd4⟩ (fun j σ' H' _ pv => (le_off nM0 le3 pv.2.1).seq sl) ?_ ?_
      · rintro j x σ'' H6 H7 hj ⟨⟨y3, rfl⟩, off6, ⟨hs6, eM6, hr6⟩, in6, nd6⟩ ⟨rfl, hx⟩
        obtain ⟨d, t, hd, rfl, st⟩ := rows_at dl hx
        have st6 := (le_off nM0 le3 off6).sqt st
        have frz6 := off6 _ _ nMa.symm L2.frz
        have sn := hears_snocR (hand := hand) hd
        obtain ⟨z, pre⟩ := hears_pre (j := j + 1) hp
        have pre : hearsP p = hearsP (p.take i) ++ hearsR (hand, r.take (j + 1)) ++ z := pre
        rw [sn] at pre
        cases d with
        | keep =>
          refine ⟨.ref t, rfl, t, _, 0, _, rfl, rfl, st6, atI_nat (j := 0) rfl, rfl, _, rfl, iteF (iteF ⟨⟨_, rfl⟩, off6, ⟨hs6, eM6, by rw [sn]; simpa [hearT] using hr6⟩, by rw [sn]; simpa [hearT] using in6, by rw [sn]; simpa [hearT] using nd6⟩)⟩
        | tell l h =>
          refine ⟨.ref t, rfl, t, _, 0, _, rfl, rfl, st6, atI_nat (j := 0) rfl, rfl, _, rfl, iteF (iteF ⟨⟨_, rfl⟩, off6, ⟨hs6, eM6, by rw [sn]; simpa [hearT] using hr6⟩, by rw [sn]; simpa [hearT] using in6, by rw [sn]; simpa [hearT] using nd6⟩)⟩
        | hear l =>
          have pre' : hearsP p = (hearsP (p.take i) ++ hearsR (hand, r.take j)) ++ ((l, hand) :: z) := by rw [pre]; simp [hearT]
          have here : (l, hand) ∈ hearsP p := by rw [pre']; simp
          refine ⟨.ref t, rfl, t, _, 0, _, rfl, rfl, st6, atI_nat (j := 0) rfl, rfl, _, rfl, iteT ⟨.ref M, rfl, M, rfl, .inl ⟨hs6, .inl eM6⟩, .ref t, rfl, t, _, 1, .int l, rfl, rfl, st6, atI_nat (j := 1) rfl, hs6, .inl l, eM6, rfl, fun v hv => ?_, fun hv => ?_⟩⟩
          · rw [hr6.2] at hv
            by_cases old : l ∈ (hearsP (p.take i) ++ hearsR (hand, r.take j)).map (·.1)
            · rw [if_pos old] at hv
              cases hv
            rw [if_neg old] at hv
            cases ht : lookT (tellsP p) l with
            | none =>
              rw [ht] at hv
              cases hv
            | some h' =>
            rw [ht] at hv
            cases Option.some.inj hv
            refine ⟨.str hand, rfl, rfl, _, rfl, ?_⟩
            rw [eq_text]
            by_cases same : h' = hand
            · rw [decide_eq_true same]
              subst same
              refine iteF ⟨⟨_, rfl⟩, off6.trans off_upd, ⟨_, upd_same, ?_, fun j' => ?_⟩, ?_, ?_⟩
              · exact Nat.le_trans (dropK_le _ _) hr6.1
              · rw [valV_drop, sn]
                show (if (Sum.inl j' : Key) = .inl l then none else valV hs6 (.inl j')) = _
                rw [hr6.2, show (hearT h' (Deed.hear l)).toList = [(l, h')] from rfl, ← List.append_assoc, List.map_append (l₂ := [(l, h')])]
                by_cases zz : j' = l
                · subst zz
                  simp
                · rw [if_neg (fun y => zz (Sum.inl.inj y))]
                  have mem : ∀ A : List Int, j' ∈ A ++ [(l, h')].map (·.1) ↔ j' ∈ A := fun A =>
                    ⟨fun m => (List.mem_append.mp m).elim id fun y => absurd (List.mem_singleton.mp y) zz, fun m => List.mem_append_left _ m⟩
                  by_cases yy : j' ∈ (hearsP (p.take i) ++ hearsR (h', r.take j)).map (·.1)
                  · rw [if_pos yy, if_pos ((mem _).mpr yy)]
                  · rw [if_neg yy, if_neg fun q => yy ((mem _).mp q)]
              · rw [sn, show (hearT h' (Deed.hear l)).toList = [(l, h')] from rfl, ← List.append_assoc]
                intro x hx
                rcases List.mem_append.mp hx with hx | hx
                · exact in6 x hx
                · cases List.mem_singleton.mp hx
                  exact lookT_mem ht
              · rw [sn, show (hearT h' (Deed.hear l)).toList = [(l, h')] from rfl, ← List.append_assoc, List.map_append]
                exact nd_snoc nd6 old
            · rw [decide_eq_false same]
              have off7 : Off M H3 (upd H7 M (.dK (dropK hs6 (.inl l)))) := off6.trans off_upd
              refine iteT ⟨off7 _ _ nMa.symm L2.frz, fail _ off7 (off7 _ _ nMa.symm L2.frz) fun ho => same ?_⟩
              have := lookT_of ndT (ho.1 _ here)
              rw [ht] at this
              exact Option.some.inj this
          · rw [hr6.2] at hv
            refine ⟨.str hand, rfl, rfl, _, rfl, iteT ⟨frz6, fail _ off6 frz6 fun ho => ?_⟩⟩
            by_cases old : l ∈ (hearsP (p.take i) ++ hearsR (hand, r.take j)).map (·.1)
            · have n2 := ho.2
              rw [pre', List.map_append, List.map_cons] at n2
              exact (List.nodup_append.mp n2).2.2 _ old _ List.mem_cons_self rfl
            · rw [if_neg old, lookT_of ndT (ho.1 _ here)] at hv
              cases hv
      · rintro σ'' H6 ⟨⟨y3, rfl⟩, off6, ⟨hs6, eM6, hr6⟩, in6, nd6⟩
        have lr : xs.length = r.length := by rw [dl.len, List.length_map]
        rw [lr, List.take_length] at hr6 in6 nd6
        refine ⟨⟨_, _, rfl⟩, off6, ⟨hs6, eM6, ?_⟩, ?_, ?_⟩ <;> rw [hears_snocP hp] <;> assumption
    · rintro σ' H4 ⟨⟨y2, y3, rfl⟩, off4, ⟨hs4, eM4, hr4⟩, in4, nd4⟩
      rw [kl, List.take_length] at in4 nd4
      have frz4 := off4 _ _ nMa.symm L2.frz
      refine ⟨frz4, ?_⟩
      have q' := q _ (L2.sameOff off4 nM0 un1 frz4)
      rw [decide_eq_true (show HeardOnce p from ⟨in4, nd4⟩)] at q'
      exact q'
end
end L2.Fb.Law

/-! The order in which deeds come, as the program finds it: mathematics alone. -/
namespace L2.Fb
open PySem

/-- how far a row runs on, and the letters told then -/
def runL : List Deed → List Int → Nat × List Int
  | [], T => (0, T)
  | .keep :: r, T => ((runL r T).1 + 1, (runL r T).2)
  | .tell l _ :: r, T => ((runL r (T ++ [l])).1 + 1, (runL r (T ++ [l])).2)
  | .hear l :: r, T => if l ∈ T then ((runL r T).1 + 1, (runL r T).2) else (0, T)
structure Od where
  done : Str → Nat
  told : List Int
  order : List Str
def Od.zero : Od := ⟨fun _ => 0, [], []⟩
section
variable (rows : Str → List Deed)
def odStep (st : Od) (h : Str) : Od :=
  ⟨fun x => if x = h then st.done h + (runL ((rows h).drop (st.done h)) st.told).1 else st.done x, (runL ((rows h).drop (st.done h)) st.told).2, st.order ++ List.replicate (runL ((rows h).drop (st.done h)) st.told).1 h⟩
def odPass (hands : List Str) (st : Od) : Od := hands.foldl (odStep rows) st
def odLoop (hands : List Str) : Nat → Od → Od
  | 0, st => st
  | f + 1, st => if (odPass rows hands st).order.length = st.order.length then odPass rows hands st else odLoop hands f (odPass rows hands st)
end
theorem runL_le : ∀ (r : List Deed) (T : List Int), (runL r T).1 ≤ r.length
  | [], _ => Nat.le_refl _
  | .keep :: r, T => Nat.succ_le_succ (runL_le r T)
  | .tell l h :: r, T => Nat.succ_le_succ (runL_le r (T ++ [l]))
  | .hear l :: r, T => by
    unfold runL
    split
    · exact Nat.succ_le_succ (runL_le r T)
    · exact Nat.zero_le _
theorem toldR_keep (r : List Deed) : toldR (.keep :: r) = toldR r := rfl
theorem toldR_tell (l : Int) (h : Str) (r : List Deed) : toldR (.tell l h :: r) = l :: toldR r := rfl
theorem toldR_hear (l : Int) (r : List Deed) : toldR (.hear l :: r) = toldR r := rfl
theorem runL_told : ∀ (r : List Deed) (T : List Int), (runL r T).2 = T ++ toldR (r.take (runL r T).1)
  | [], T => by simp [runL, toldR]
  | .keep :: r, T => by
    show (runL r T).2 = T ++ toldR ((Deed.keep :: r).take ((runL r T).1 + 1))
    rw [List.take_succ_cons, toldR_keep, runL_told r T]
  | .tell l h :: r, T => by
    show (runL r (T ++ [l])).2 = T ++ toldR ((Deed.tell l h :: r).take ((runL r (T ++ [l])).1 + 1))
    rw [List.take_succ_cons, toldR_tell, runL_told r (T ++ [l])]
    simp
  | .hear l :: r, T => by
    unfold runL
    split
    · show (runL r T).2 = T ++ toldR ((Deed.hear l :: r).take ((runL r T).1 + 1))
      rw [List.take_succ_cons, toldR_hear, runL_told r T]
    · simp [toldR]
theorem runL_zero {r : List Deed} {T : List Int} (h : (runL r T).1 = 0) : (runL r T).2 = T := by
  rw [runL_told, h]
  simp [toldR]
/-- where it stops, a letter lacks -/
theorem runL_stop {r : List Deed} {T : List Int} (h : (runL r T).1 = 0) : r = [] ∨ ∃ l r', r = .hear l :: r' ∧ l ∉ T := by
  cases r with
  | nil => exact .inl rfl
  | cons d r =>
    cases d with
    | keep => cases h
    | tell l h' => cases h
    | hear l =>
      unfold runL at h
      split at h
      · cases h
      · exact .inr ⟨l, r, rfl, ‹_›⟩

/-! ### going through -/
abbrev Gone := (Str → Nat) × (Int → Option Str)
def bump (g : Str → Nat) (h : Str) : Str → Nat := fun x => if x = h then g h + 1 else g x
/-- one deed more of a hand: how far each hand is, whom each letter was told -/
def go1 (rows : Str → List Deed) (s : Gone) (h : Str) : Option Gone := match (rows h)[s.1 h]? with
  | none => none
  | some .keep => some (bump s.1 h, s.2)
  | some (.tell l k) => some (bump s.1 h, fun m => if m = l then some k else s.2 m)
  | some (.hear l) => if s.2 l = some h then some (bump s.1 h, s.2) else none
def through (rows : Str → List Deed) (o : List Str) (s : Gone) : Option Gone := o.foldlM (go1 rows) s
theorem through_app (rows : Str → List Deed) (o o' : List Str) (s : Gone) : through rows (o ++ o') s = (through rows o s).bind fun q => through rows o' q := List.foldlM_append ..

/-- whom letters were told, by the deeds done -/
structure Told (rows : Str → List Deed) (hands : List Str) (done : Str → Nat) (T : List Int) (t : Int → Option Str) : Prop where
  mem : ∀ l, l ∈ T ↔ ∃ h ∈ hands, ∃ (j : Nat) (k : Str), j < done h ∧ (rows h)[j]? = some (Deed.tell l k)
  to : ∀ l k, t l = some k → ∃ h ∈ hands, ∃ (j : Nat), (rows h)[j]? = some (Deed.tell l k)
  told : ∀ l, l ∈ T → ∃ k, t l = some k
/-- a hand that runs on goes through -/
theorem run_through {rows : Str → List Deed} {hands : List Str} (uniq : ∀ (l : Int) (h k h' k' : Str) (j j' : Nat), h ∈ hands → h' ∈ hands → (rows h)[j]? = some (Deed.tell l k) → (rows h')[j']? = some (Deed.tell l k') → k = k')
    (heard : ∀ (h : Str) (l : Int) (j : Nat), h ∈ hands → (rows h)[j]? = some (Deed.hear l) → ∃ h' ∈ hands, ∃ (j' : Nat), (rows h')[j']? = some (Deed.tell l h)) {h : Str} (hh : h ∈ hands) :
    ∀ (r : List Deed) (g : Str → Nat) (T : List Int) (t : Int → Option Str), r = (rows h).drop (g h) → Told rows hands g T t →
      ∃ t', through rows (List.replicate (runL r T).1 h) (g, t) = some (fun x => if x = h then g h + (runL r T).1 else g x, t') ∧ Told rows hands (fun x => if x = h then g h + (runL r T).1 else g x) (runL r T).2 t' := by
  have step : ∀ {d : Deed} {r : List Deed} {g : Str → Nat}, d :: r = (rows h).drop (g h) → (rows h)[g h]? = some d ∧ r = (rows h).drop (bump g h h) := by
    intro d r g e
    have e1 : (rows h)[g h]? = some d := by
      have := congrArg (·[0]?) e
      simp only [List.getElem?_drop, Nat.add_zero, List.getElem?_cons_zero] at this
      exact this.symm
    refine ⟨e1, ?_⟩
    have := congrArg List.tail e
    rw [List.tail_drop] at this
    show r = (rows h).drop (if h = h then g h + 1 else g h)
    rw [if_pos rfl]
    exact this
  have grow : ∀ (g : Str → Nat) (n : Nat), (fun x => if x = h then bump g h h + n else bump g h x) = fun x => if x = h then g h + (n + 1) else g x := by
    intro g n
    funext x
    unfold bump
    rw [if_pos rfl]
    by_cases z : x = h
    · rw [if_pos z, if_pos z]
      omega
    · rw [if_neg z, if_neg z, if_neg z]
  have idle : ∀ (g : Str → Nat), (fun x => if x = h then g h + 0 else g x) = g := by
    intro g
    funext x
    by_cases z : x = h
    · rw [if_pos z, z]
      rfl
    · rw [if_neg z]
  -- what is told stays told when a hand goes on by a deed that tells nothing
  have quiet : ∀ {d : Deed} {g : Str → Nat} {T : List Int} {t : Int → Option Str}, (rows h)[g h]? = some d → (∀ l k, d ≠ .tell l k) → Told rows hands g T t → Told rows hands (bump g h) T t := by
    intro d g T t hd no W
    refine ⟨fun l => ⟨fun m => ?_, fun ⟨h', m', j, k, lt, e⟩ => ?_⟩, W.to, W.told⟩
    · obtain ⟨h', m', j, k, lt, e⟩ := (W.mem l).mp m
      refine ⟨h', m', j, k, ?_, e⟩
      unfold bump
      split
      · rename_i z
        rw [z] at lt
        omega
      · exact lt
    · unfold bump at lt
      split at lt
      · rename_i z
        rw [z] at e m'
        by_cases last : j = g h
        · rw [last, hd] at e
          exact absurd (Option.some.inj e) (no l k)
        · exact (W.mem l).mpr ⟨h, m', j, k, by omega, e⟩
      · exact (W.mem l).mpr ⟨h', m', j, k, lt, e⟩
  intro r
  induction r with
  | nil =>
    intro g T t e W
    refine ⟨t, ?_, ?_⟩
    · show some (g, t) = some (fun x => if x = h then g h + 0 else g x, t)
      rw [idle]
    · show Told rows hands (fun x => if x = h then g h + 0 else g x) T t
      rw [idle]
      exact W
  | cons d r ih =>
    intro g T t e W
    obtain ⟨hd, hr⟩ := step e
    cases d with
    | keep =>
      obtain ⟨t', p1, p2⟩ := ih (bump g h) T t hr (quiet hd (fun _ _ z => nomatch z) W)
      rw [grow] at p1 p2
      refine ⟨t', ?_, p2⟩
      show (go1 rows (g, t) h).bind (fun q => through rows (List.replicate (runL r T).1 h) q) = _
      have e1 : go1 rows (g, t) h = some (bump g h, t) := by
        unfold go1
        rw [hd]
      rw [e1]
      exact p1
    | tell l k =>
      have W' : Told rows hands (bump g h) (T ++ [l]) (fun m => if m = l then some k else t m) := by
        refine ⟨fun m => ⟨fun hm => ?_, fun ⟨h', m', j, k', lt, e'⟩ => ?_⟩, fun m k' e' => ?_, fun m hm => ?_⟩
        · rcases List.mem_append.mp hm with hm | hm
          · obtain ⟨h', m', j, k', lt, e'⟩ := (W.mem m).mp hm
            refine ⟨h', m', j, k', ?_, e'⟩
            unfold bump
            split
            · rename_i z
              rw [z] at lt
              omega
            · exact lt
          · rw [List.mem_singleton.mp hm]
            exact ⟨h, hh, g h, k, by unfold bump; rw [if_pos rfl]; omega, hd⟩
        · unfold bump at lt
          split at lt
          · rename_i z
            rw [z] at e' m'
            by_cases last : j = g h
            · rw [last, hd] at e'
              cases Option.some.inj e'
              exact List.mem_append_right _ (List.mem_singleton.mpr rfl)
            · exact List.mem_append_left _ ((W.mem m).mpr ⟨h, m', j, k', by omega, e'⟩)
          · exact List.mem_append_left _ ((W.mem m).mpr ⟨h', m', j, k', lt, e'⟩)
        · have e' : (if m = l then some k else t m) = some k' := e'
          split at e'
          · rename_i z
            cases Option.some.inj e'
            rw [z]
            exact ⟨h, hh, g h, hd⟩
          · exact W.to m k' e'
        · show ∃ k', (if m = l then some k else t m) = some k'
          split
          · exact ⟨k, rfl⟩
          · rename_i z
            rcases List.mem_append.mp hm with hm | hm
            · exact W.told m hm
            · exact absurd (List.mem_singleton.mp hm) z
      obtain ⟨t', p1, p2⟩ := ih (bump g h) (T ++ [l]) _ hr W'
      rw [grow] at p1 p2
      refine ⟨t', ?_, p2⟩
      show (go1 rows (g, t) h).bind (fun q => through rows (List.replicate (runL r (T ++ [l])).1 h) q) = _
      have e1 : go1 rows (g, t) h = some (bump g h, fun m => if m = l then some k else t m) := by
        unfold go1
        rw [hd]
      rw [e1]
      exact p1
    | hear l =>
      by_cases hl : l ∈ T
      · have er : runL (.hear l :: r) T = ((runL r T).1 + 1, (runL r T).2) := if_pos hl
        rw [er]
        obtain ⟨t', p1, p2⟩ := ih (bump g h) T t hr (quiet hd (fun _ _ z => nomatch z) W)
        rw [grow] at p1 p2
        refine ⟨t', ?_, p2⟩
        show (go1 rows (g, t) h).bind (fun q => through rows (List.replicate (runL r T).1 h) q) = _
        have e1 : go1 rows (g, t) h = some (bump g h, t) := by
          obtain ⟨k, hk⟩ := W.told l hl
          obtain ⟨h1, m1, j1, q1⟩ := W.to l k hk
          obtain ⟨h2, m2, j2, q2⟩ := heard h l _ hh hd
          have : k = h := uniq l h1 k h2 h j1 j2 m1 m2 q1 q2
          unfold go1
          rw [hd]
          show (if t l = some h then _ else _) = _
          rw [if_pos (by rw [hk, this])]
        rw [e1]
        exact p1
      · have er : runL (.hear l :: r) T = (0, T) := if_neg hl
        rw [er]
        refine ⟨t, ?_, ?_⟩
        · show some (g, t) = some (fun x => if x = h then g h + 0 else g x, t)
          rw [idle]
        · show Told rows hands (fun x => if x = h then g h + 0 else g x) T t
          rw [idle]
          exact W

/-! ### all goes through -/
/-- what is asked of rows: each letter told to one hand, heard by it -/
structure Fit (rows : Str → List Deed) (hands : List Str) : Prop where
  uniq : ∀ (l : Int) (h k h' k' : Str) (j j' : Nat), h ∈ hands → h' ∈ hands → (rows h)[j]? = some (Deed.tell l k) → (rows h')[j']? = some (Deed.tell l k') → k = k'
  heard : ∀ (h : Str) (l : Int) (j : Nat), h ∈ hands → (rows h)[j]? = some (Deed.hear l) → ∃ h' ∈ hands, ∃ (j' : Nat), (rows h')[j']? = some (Deed.tell l h)
/-- the found order so far -/
structure Sound (rows : Str → List Deed) (hands : List Str) (st : Od) : Prop where
  thr : ∃ t, through rows st.order (fun _ => 0, fun _ => none) = some (st.done, t) ∧ Told rows hands st.done st.told t
  le : ∀ h, st.done h ≤ (rows h).length
  cnt : ∀ h, st.order.count h = st.done h
  ins : ∀ h ∈ st.order, h ∈ hands
theorem sound_zero (rows : Str → List Deed) (hands : List Str) : Sound rows hands Od.zero where
  thr := ⟨_, rfl, ⟨fun l => ⟨fun m => (nomatch m), fun ⟨_, _, _, _, lt, _⟩ => absurd lt (Nat.not_lt_zero _)⟩, fun _ _ e => (nomatch e), fun _ m => (nomatch m)⟩⟩
  le := fun _ => Nat.zero_le _
  cnt := fun _ => rfl
  ins := fun _ m => (nomatch m)
theorem sound_step {rows : Str → List Deed} {hands : List Str} (F : Fit rows hands) {st : Od} {h : Str} (hh : h ∈ hands) (S : Sound rows hands st) : Sound rows hands (odStep rows st h) := by
  obtain ⟨t, p1, W⟩ := S.thr
  obtain ⟨t', p2, W'⟩ := run_through F.uniq F.heard hh _ st.done st.told t rfl W
  have nle := runL_le ((rows h).drop (st.done h)) st.told
  rw [List.length_drop] at nle
  refine ⟨⟨t', ?_, W'⟩, fun x => ?_, fun x => ?_, fun x hx => ?_⟩
  · show through rows (st.order ++ _) _ = _
    rw [through_app, p1]
    exact p2
  · show (if x = h then st.done h + _ else st.done x) ≤ _
    have := S.le h
    split
    · rename_i z
      subst z
      omega
    · exact S.le x
  · show (st.order ++ _).count x = (if x = h then st.done h + _ else st.done x)
    rw [List.count_append, S.cnt x, List.count_replicate]
    by_cases z : x = h
    · subst z
      simp
    · rw [if_neg z, if_neg (by simpa using fun y : h = x => z y.symm)]
      rfl
  · rcases List.mem_append.mp hx with hx | hx
    · exact S.ins x hx
    · rw [List.eq_of_mem_replicate hx]
      exact hh
theorem sound_pass {rows : Str → List Deed} {hands : List Str} (F : Fit rows hands) : ∀ (hs : List Str), (∀ h ∈ hs, h ∈ hands) → ∀ (st : Od), Sound rows hands st → Sound rows hands (hs.foldl (odStep rows) st)
  | [], _, _, S => S
  | h :: hs, m, st, S => sound_pass F hs (fun x hx => m x (List.mem_cons_of_mem _ hx)) _ (sound_step F (m h List.mem_cons_self) S)
theorem sound_loop {rows : Str → List Deed} {hands : List Str} (F : Fit rows hands) : ∀ (f : Nat) (st : Od), Sound rows hands st → Sound rows hands (odLoop rows hands f st)
  | 0, _, S => S
  | f + 1, st, S => by
    unfold odLoop
    have S' := sound_pass F hands (fun _ h => h) st S
    split
    · exact S'
    · exact sound_loop F f _ S'

/-! ### the end: nobody can go on -/
theorem step_grow (rows : Str → List Deed) (st : Od) (h : Str) : st.order.length ≤ (odStep rows st h).order.length := by
  show _ ≤ (st.order ++ _).length
  rw [List.length_append]
  omega
theorem pass_grow (rows : Str → List Deed) : ∀ (hs : List Str) (st : Od), st.order.length ≤ (hs.foldl (odStep rows) st).order.length
  | [], _ => Nat.le_refl _
  | h :: hs, st => Nat.le_trans (step_grow rows st h) (pass_grow rows hs _)
theorem step_same {rows : Str → List Deed} {st : Od} {h : Str} (e : (odStep rows st h).order.length = st.order.length) : odStep rows st h = st ∧ (runL ((rows h).drop (st.done h)) st.told).1 = 0 := by
  have z : (runL ((rows h).drop (st.done h)) st.told).1 = 0 := by
    have e : (st.order ++ List.replicate (runL ((rows h).drop (st.done h)) st.told).1 h).length = st.order.length := e
    rw [List.length_append, List.length_replicate] at e
    omega
  refine ⟨?_, z⟩
  unfold odStep
  rw [runL_zero z, z]
  obtain ⟨d, t, o⟩ := st
  simp only [Nat.add_zero, List.replicate_zero, List.append_nil]
  congr 1
  funext x
  split
  · rename_i q
    rw [q]
  · rfl
theorem pass_same {rows : Str → List Deed} : ∀ (hs : List Str) {st : Od}, (hs.foldl (odStep rows) st).order.length = st.order.length → hs.foldl (odStep rows) st = st ∧ ∀ h ∈ hs, (runL ((rows h).drop (st.done h)) st.told).1 = 0
  | [], _, _ => ⟨rfl, fun _ m => (nomatch m)⟩
  | h :: hs, st, e => by
    have g1 := step_grow rows st h
    have g2 := pass_grow rows hs (odStep rows st h)
    have e : (hs.foldl (odStep rows) (odStep rows st h)).order.length = st.order.length := e
    obtain ⟨s1, z⟩ := step_same (rows := rows) (st := st) (h := h) (by omega)
    rw [s1] at e g2
    obtain ⟨s2, zs⟩ := pass_same hs e
    refine ⟨by show hs.foldl (odStep rows) (odStep rows st h) = st; rw [s1, s2], fun x hx => ?_⟩
    rcases List.mem_cons.mp hx with q | q
    · rw [q]
      exact z
    · exact zs x q

/-! ### how many there are -/
def total (rows : Str → List Deed) (hands : List Str) : Nat := (hands.map fun h => (rows h).length).sum
theorem one_of : ∀ (hands : List Str), hands.Nodup → ∀ x ∈ hands, (hands.map fun h => if h = x then 1 else 0).sum = 1
  | h :: hs, nd, x, m => by
    obtain ⟨n1, n2⟩ := List.nodup_cons.mp nd
    have none : ∀ (l : List Str), x ∉ l → (l.map fun h => if h = x then 1 else 0).sum = 0 := by
      intro l
      induction l with
      | nil => exact fun _ => rfl
      | cons y l ih =>
        intro hn
        rw [List.map_cons, List.sum_cons, if_neg fun z => hn (by rw [z]; exact List.mem_cons_self), ih fun z => hn (List.mem_cons_of_mem _ z)]
    rw [List.map_cons, List.sum_cons]
    by_cases z : h = x
    · rw [if_pos z, none hs (by rw [← z]; exact n1)]
    · rw [if_neg z, one_of hs n2 x ((List.mem_cons.mp m).resolve_left fun y => z y.symm)]
theorem sum_add (f g : Str → Nat) : ∀ (hs : List Str), (hs.map fun h => f h + g h).sum = (hs.map f).sum + (hs.map g).sum
  | [] => rfl
  | h :: hs => by
    rw [List.map_cons, List.map_cons, List.map_cons, List.sum_cons, List.sum_cons, List.sum_cons, sum_add f g hs]
    omega
theorem count_sum {hands : List Str} (nd : hands.Nodup) : ∀ (l : List Str), (∀ x ∈ l, x ∈ hands) → l.length = (hands.map fun h => l.count h).sum
  | [], _ => by
    show 0 = _
    have : ∀ hs : List Str, (hs.map fun h => ([] : List Str).count h).sum = 0 := by
      intro hs
      induction hs with
      | nil => rfl
      | cons h hs ih => rw [List.map_cons, List.sum_cons, ih]; rfl
    exact (this hands).symm
  | x :: l, m => by
    have ih := count_sum nd l fun y hy => m y (List.mem_cons_of_mem _ hy)
    have e : (fun h => (x :: l).count h) = fun h => l.count h + if h = x then 1 else 0 := by
      funext h
      rw [List.count_cons]
      by_cases z : h = x
      · rw [if_pos z, if_pos (by simp [z])]
      · rw [if_neg z, if_neg (by simpa using fun y : x = h => z y.symm)]
    rw [List.length_cons, e, sum_add, one_of hands nd x (m x List.mem_cons_self), ih]
theorem sum_le {f g : Str → Nat} (h : ∀ x, f x ≤ g x) : ∀ (hs : List Str), (hs.map f).sum ≤ (hs.map g).sum
  | [] => Nat.le_refl _
  | x :: hs => by
    rw [List.map_cons, List.map_cons, List.sum_cons, List.sum_cons]
    exact Nat.add_le_add (h x) (sum_le h hs)
theorem sound_length {rows : Str → List Deed} {hands : List Str} (nd : hands.Nodup) {st : Od} (S : Sound rows hands st) : st.order.length = (hands.map st.done).sum := by
  rw [count_sum nd st.order S.ins]
  congr 1
  exact List.map_congr_left fun h _ => S.cnt h
theorem sound_bound {rows : Str → List Deed} {hands : List Str} (nd : hands.Nodup) {st : Od} (S : Sound rows hands st) : st.order.length ≤ total rows hands := by
  rw [sound_length nd S]
  exact sum_le S.le hands
/-- deeds have times: a row's rise, a hearing is later than its telling -/
def Timed (rows : Str → List Deed) (hands : List Str) : Prop := ∃ t : Str → Nat → Nat, (∀ h i j, i < j → j < (rows h).length → t h i < t h j) ∧
  ∀ (h : Str) (l : Int) (j : Nat), h ∈ hands → (rows h)[j]? = some (Deed.hear l) → ∃ h' ∈ hands, ∃ (j' : Nat), (rows h')[j']? = some (Deed.tell l h) ∧ t h' j' < t h j
theorem stuck_done {rows : Str → List Deed} {hands : List Str} (Tm : Timed rows hands) {st : Od} (S : Sound rows hands st) (stuck : ∀ h ∈ hands, (runL ((rows h).drop (st.done h)) st.told).1 = 0) : ∀ h ∈ hands, st.done h = (rows h).length := by
  obtain ⟨t, mono, before⟩ := Tm
  obtain ⟨_, _, W⟩ := S.thr
  have key : ∀ (n : Nat) (h : Str), h ∈ hands → st.done h < (rows h).length → t h (st.done h) = n → False := by
    intro n
    induction n using Nat.strongRecOn with
    | ind n ih =>
      intro h hh lt e
      rcases runL_stop (stuck h hh) with z | ⟨l, r, z, nl⟩
      · have := congrArg List.length z
        rw [List.length_drop, List.length_nil] at this
        omega
      · have e1 : (rows h)[st.done h]? = some (Deed.hear l) := by
          have := congrArg (·[0]?) z
          simpa only [List.getElem?_drop, Nat.add_zero, List.getElem?_cons_zero] using this
        obtain ⟨h', hh', j', e2, lt2⟩ := before h l _ hh e1
        have late : st.done h' ≤ j' := by
          rcases Nat.lt_or_ge j' (st.done h') with y | y
          · exact absurd ((W.mem l).mpr ⟨h', hh', j', h, y, e2⟩) nl
          · exact y
        have jl : j' < (rows h').length := (List.getElem?_eq_some_iff.mp e2).1
        have le2 : t h' (st.done h') ≤ t h' j' := by
          rcases Nat.lt_or_ge (st.done h') j' with y | y
          · exact Nat.le_of_lt (mono h' _ _ y jl)
          · rw [show st.done h' = j' by omega]
            exact Nat.le_refl _
        exact ih (t h' (st.done h')) (by omega) h' hh' (by omega) rfl
  intro h hh
  have := S.le h
  rcases Nat.lt_or_ge (st.done h) (rows h).length with y | y
  · exact (key _ h hh y rfl).elim
  · omega
theorem loop_done {rows : Str → List Deed} {hands : List Str} (nd : hands.Nodup) (F : Fit rows hands) (Tm : Timed rows hands) : ∀ (f : Nat) (st : Od), Sound rows hands st → total rows hands < f + st.order.length → ∀ h ∈ hands, (odLoop rows hands f st).done h = (rows h).length
  | 0, st, S, lt => by
    have := sound_bound nd S
    omega
  | f + 1, st, S, lt => by
    have S' := sound_pass F hands (fun _ h => h) st S
    have g := pass_grow rows hands st
    unfold odLoop
    split
    · rename_i e
      have e : (hands.foldl (odStep rows) st).order.length = st.order.length := e
      obtain ⟨s1, z⟩ := pass_same hands e
      show ∀ h ∈ hands, (hands.foldl (odStep rows) st).done h = _
      rw [s1]
      exact stuck_done Tm S z
    · rename_i e
      refine loop_done nd F Tm f _ S' ?_
      have e : ¬ (hands.foldl (odStep rows) st).order.length = st.order.length := e
      have : (odPass rows hands st).order.length = (hands.foldl (odStep rows) st).order.length := rfl
      omega
/-- the order found, of rows by hands -/
def found (rows : Str → List Deed) (hands : List Str) : Od := odLoop rows hands (total rows hands + 1) Od.zero
theorem found_sound {rows : Str → List Deed} {hands : List Str} (F : Fit rows hands) : Sound rows hands (found rows hands) := sound_loop F _ _ (sound_zero rows hands)
theorem found_done {rows : Str → List Deed} {hands : List Str} (nd : hands.Nodup) (F : Fit rows hands) (Tm : Timed rows hands) : ∀ h ∈ hands, (found rows hands).done h = (rows h).length :=
  loop_done nd F Tm _ _ (sound_zero rows hands) (by show total rows hands < total rows hands + 1 + 0; omega)
theorem found_length {rows : Str → List Deed} {hands : List Str} (nd : hands.Nodup) (F : Fit rows hands) (Tm : Timed rows hands) : (found rows hands).order.length = total rows hands := by
  rw [sound_length nd (found_sound F)]
  unfold total
  congr 1
  exact List.map_congr_left (found_done nd F Tm)

/-! ### sorted names -/
open PyProof.Rows PySem.Spec in
theorem rising_pair : ∀ (l : List Str) (p : Str), risingS p l = true → (∀ x ∈ l, p.cps.toList ≤ x.cps.toList) ∧ l.Pairwise fun a b => a.cps.toList ≤ b.cps.toList
  | [], _, _ => ⟨fun _ m => (nomatch m), List.Pairwise.nil⟩
  | x :: r, p, h => by
    have h : (!ltCps x.cps.toList p.cps.toList && risingS x r) = true := h
    rw [Bool.and_eq_true, ltCps_eq] at h
    obtain ⟨h1, h2⟩ := h
    obtain ⟨a, b⟩ := rising_pair r x h2
    have px : p.cps.toList ≤ x.cps.toList := by simpa using h1
    refine ⟨fun y hy => ?_, List.pairwise_cons.mpr ⟨a, b⟩⟩
    rcases List.mem_cons.mp hy with z | z
    · rw [z]
      exact px
    · exact List.le_trans px (a y z)
open PyProof.Rows PySem.Spec in
theorem sortedS_pair {l : List Str} (h : sortedS l = true) : l.Pairwise fun a b => a.cps.toList ≤ b.cps.toList := by
  cases l with
  | nil => exact List.Pairwise.nil
  | cons x r =>
    obtain ⟨a, b⟩ := rising_pair r x h
    exact List.pairwise_cons.mpr ⟨a, b⟩
open PyProof.Rows PySem.Spec in
theorem sorted_uniq {l m : List Str} (p : l.Perm m) (h1 : sortedS l = true) (h2 : sortedS m = true) : l = m := by
  refine List.Perm.eq_of_pairwise (le := fun a b : Str => a.cps.toList ≤ b.cps.toList) (fun a b _ _ x y => ?_) (sortedS_pair h1) (sortedS_pair h2) p
  have e := List.le_antisymm x y
  obtain ⟨⟨a⟩⟩ := a
  obtain ⟨⟨b⟩⟩ := b
  have e : a = b := e
  rw [e]
theorem putK_same {κ : Type} [DecidableEq κ] {ks : List (κ × V)} {k : κ} {v : V} (h : valV ks k = some v) (y : V) : (putK ks k y).length = ks.length := by
  have q : (ks.any fun kv => decide (kv.1 = k)) = true := by
    rw [valV_any, h]
    rfl
  unfold putK
  rw [if_pos q, List.length_map]
theorem runL_few : ∀ (r : List Deed) (T : List Int), (runL r T).2.length ≤ T.length + (runL r T).1 := fun r T => by
  rw [runL_told, List.length_append]
  have h : (toldR (r.take (runL r T).1)).length ≤ (r.take (runL r T).1).length := List.length_filterMap_le ..
  rw [List.length_take] at h
  omega
def rowsOf (p : Past) (h : Str) : List Deed := (look p h).getD []
theorem rep_flat (h : Str) : ∀ n : Nat, (List.replicate n [V.str h]).flatten = (List.replicate n h).map V.str
  | 0 => rfl
  | n + 1 => by
    rw [List.replicate_succ, List.flatten_cons, rep_flat h n]
    rfl
end L2.Fb

namespace L2.Fb.Law
open PySem PySem.Spec
open PyProof.Rows
section
variable {P : Program} {w : World} {K : PySem.W.Frag} {mg : Str → Option Value} {base : Heap}
theorem sql_off {H H' : Hp} {M b : Addr} {ks : List (Key × V)} {xs : List V} (hM : H M = some (.dK ks)) (off : Off M H H') (h : SqL K H b xs) : SqL K H' b xs := by
  rcases h with (h | ⟨o, h⟩) | h
  · exact .inl (.inl (off _ _ (fun z => by subst z; rw [hM] at h; cases h) h))
  · exact .inl (.inr ⟨o, off _ _ (fun z => by subst z; rw [hM] at h; cases h) h⟩)
  · exact .inr h
theorem sqt_off {H H' : Hp} {M b : Addr} {ks : List (Key × V)} {xs : List V} (hM : H M = some (.dK ks)) (off : Off M H H') (h : SqT K H b xs) : SqT K H' b xs := by
  rcases h with (h | ⟨o, h⟩) | h
  · exact .inl (.inl (off _ _ (fun z => by subst z; rw [hM] at h; cases h) h))
  · exact .inl (.inr ⟨o, off _ _ (fun z => by subst z; rw [hM] at h; cases h) h⟩)
  · exact .inr h
/-! ### _run_on -/
/-- the dict of the letters told -/
def TdAt (T : List Int) (ks : List (Key × V)) : Prop := ks.length ≤ T.length ∧ ∀ l, (valV ks (.inl l)).isSome = decide (l ∈ T)
def sp_run_on (K : PySem.W.Frag) : Sp := fun vs H Q _ => ∃ (b M : Addr) (r : List Deed) (xs : List V) (st : Nat) (T : List Int) (ks : List (Key × V)), vs = [.ref b, .int (st : Int), .ref M] ∧ SqL K H b xs ∧ DaL K H xs (r.map deedD) ∧ st ≤ r.length ∧
  H M = some (.dK ks) ∧ TdAt T ks ∧ T.length + r.length ≤ 50000 ∧
  ∀ H' ks', Off M H H' → H' M = some (.dK ks') → TdAt (runL (r.drop st) T).2 ks' → Q (.int ((st + (runL (r.drop st) T).1 : Nat) : Int)) H'
theorem ok_run_on (D : Dfn K mg "_run_on" s__run_on P__run_on) (T : Txt mg) : Cal P w K mg base CX0 1 "_run_on" s__run_on P__run_on (sp_run_on K) := D.cal fun f fd F => by
  refine F.ok sc__run_on (fun vs H Q E h => ?_) (fun cdv A outer s H vs Q E hr h => ?_)
  · obtain ⟨b, M, r, xs, st, Td, ks, rfl, _⟩ := h
    rfl
  · obtain ⟨b, M, r, xs, st, Td, ks, rfl, sl, dl, hst, hM, td, few, q⟩ := h
    have hu := hu_of hr
    refine ⟨_, (pss_cons (ps_for PassesOwn.never rfl (pi_range2 (by rfl) T.range (pa_cons (pv 1) (pa_cons (pe_callB (call_len_seqK (K := K) rfl) (by rfl) T.len PySem.boot_len (pa_cons (pv 0) pa_nil)) pa_nil))) (pg_name (i := 3) sc__run_on.nd rfl (.inl rfl)) (pss_cons (ps_set (i := 4) sc__run_on.nd rfl (.inl rfl) (pe_ix (ix_listK (K := K) rfl) (pv 0) (pv 3) (fun _ _ => rfl)))
      (pss_cons (ps_if (PW.pt (pw_and (pt_cmpR op_eq (pe_ix (ix_tupK (K := K) rfl) (pv 4) pe_int (fun _ _ => rfl)) pe_str (nomark _)) (pw_and1 (pt_cmp (pc_dnotin hu (pe_ix (ix_tupK (K := K) rfl) (pv 4) pe_int (fun _ _ => rfl)) (pv 2)))))) (pss_one (ps_ret (pv 3))) pss_nil)
      (pss_one (ps_if (pt_cmpR op_eq (pe_ix (ix_tupK (K := K) rfl) (pv 4) pe_int (fun _ _ => rfl)) pe_str (nomark _)) (pss_one (ps_dput hu (pv 2) (pe_ix (ix_tupK (K := K) rfl) (pv 4) pe_int (fun _ _ => rfl)) pe_bl rfl)) pss_nil)))))
      (pss_one (ps_ret (pe_callB (call_len_seqK (K := K) rfl) (by rfl) T.len PySem.boot_len (pa_cons (pv 0) pa_nil))))), ?_⟩
    have lr : xs.length = r.length := by rw [dl.len, List.length_map]
    refine ⟨.int st, rfl, .ref b, rfl, b, _, rfl, .inl sl, st, xs.length, rfl, ⟨by omega, by omega, by omega, by omega⟩, ?_⟩
    have line : 50000 < sizeLine := by decide
    have hn : ((xs.length : Int) - (st : Int)).toNat = r.length - st := by omega
    rw [hn]
    refine for_it walk_range (fun i σ' H' => (∃ y3 y4, σ' = [some (.ref b), some (.int st), some (.ref M), y3, y4]) ∧ Off M H H' ∧ ∃ ks' Ti, H' M = some (.dK ks') ∧ TdAt Ti ks' ∧ Ti.length ≤ Td.length + i ∧
      runL (r.drop st) Td = (i + (runL (r.drop (st + i)) Ti).1, (runL (r.drop (st + i)) Ti).2))
      ⟨⟨none, none, rfl⟩, fun _ _ _ z => z, ks, Td, hM, td, Nat.le_refl _, by simp⟩ (fun _ _ _ _ _ => trivial) ?_ ?_
    · rintro i x σ' H1 H2 hi ⟨⟨y3, y4, rfl⟩, off, ks1, Ti, eM, td1, len1, run⟩ ⟨rfl, rfl⟩
      have ix : st + i < r.length := by omega
      have ed : r[st + i]? = some r[st + i] := List.getElem?_eq_getElem ix
      have ex : xs[st + i]? = some xs[st + i] := List.getElem?_eq_getElem (by omega)
      obtain ⟨d, t, hd, ext, stt⟩ := rows_at dl ex
      have cut : r.drop (st + i) = d :: r.drop (st + (i + 1)) := by
        rw [List.drop_eq_getElem_cons ix]
        rw [ed] at hd
        rw [Option.some.inj hd]
        rfl
      have st1 := sqt_off hM off stt
      have e0 : (st : Int) + ((i : Nat) : Int) = ((st + i : Nat) : Int) := by omega
      rw [cut] at run
      -- deed = row[at]
      refine ⟨.ref b, rfl, .int ((st : Int) + (i : Nat)), rfl, b, _, _, .ref t, rfl, rfl, sql_off hM off sl, at_of e0 (by rw [ex, ext]), ?_⟩
      have le3 : ks1.length < sizeLine := by
        have := td1.1
        omega
      cases d with
      | keep =>
        refine ⟨.ref t, rfl, t, _, 0, _, rfl, rfl, st1, atI_nat (j := 0) rfl, rfl, _, rfl, iteF (iteF ⟨.ref t, rfl, t, _, 0, _, rfl, rfl, st1, atI_nat (j := 0) rfl, rfl, _, rfl, iteF ⟨⟨_, _, rfl⟩, off, ks1, Ti, eM, td1, by omega, ?_⟩⟩)⟩
        rw [run]
        show (i + ((runL (r.drop (st + (i + 1))) Ti).1 + 1), _) = _
        rw [Nat.add_assoc i 1, Nat.add_comm 1]
        rfl
      | tell l h =>
        refine ⟨.ref t, rfl, t, _, 0, _, rfl, rfl, st1, atI_nat (j := 0) rfl, rfl, _, rfl, iteF (iteF ⟨.ref t, rfl, t, _, 0, _, rfl, rfl, st1, atI_nat (j := 0) rfl, rfl, _, rfl, iteT ?_⟩)⟩
        refine ⟨.ref M, rfl, .ref t, rfl, t, _, 1, .int l, rfl, rfl, st1, atI_nat (j := 1) rfl, M, _, rfl, DPut.k (k := Sum.inl l) eM le3, ⟨_, _, rfl⟩, off.trans off_upd, _, Ti ++ [l], upd_same, ⟨?_, fun j => ?_⟩, ?_, ?_⟩
        · have h1 := length_putK ks1 (.inl l : Key) (.bl true)
          have h2 := td1.1
          rw [List.length_append, List.length_singleton]
          omega
        · rw [valV_put]
          by_cases zz : j = l
          · subst zz
            rw [if_pos rfl, decide_eq_true (by simp)]
            rfl
          · rw [if_neg fun y => zz (Sum.inl.inj y), td1.2]
            by_cases yy : j ∈ Ti
            · rw [decide_eq_true yy, decide_eq_true (List.mem_append_left _ yy)]
            · rw [decide_eq_false yy, decide_eq_false fun m => (List.mem_append.mp m).elim yy fun m => zz (List.mem_singleton.mp m)]
        · rw [List.length_append, List.length_singleton]
          omega
        · rw [run]
          show (i + ((runL (r.drop (st + (i + 1))) (Ti ++ [l])).1 + 1), _) = _
          rw [Nat.add_assoc i 1, Nat.add_comm 1]
          rfl
      | hear l =>
        refine ⟨.ref t, rfl, t, _, 0, _, rfl, rfl, st1, atI_nat (j := 0) rfl, rfl, _, rfl, iteT ⟨.ref t, rfl, t, _, 1, .int l, rfl, rfl, st1, atI_nat (j := 1) rfl, .ref M, rfl, M, _, rfl, DGet.k (k := Sum.inl l) eM, _, rfl, ?_⟩⟩
        rw [td1.2]
        by_cases hl : l ∈ Ti
        · rw [decide_eq_true hl]
          refine iteF ⟨.ref t, rfl, t, _, 0, _, rfl, rfl, st1, atI_nat (j := 0) rfl, rfl, _, rfl, iteF ⟨⟨_, _, rfl⟩, off, ks1, Ti, eM, td1, by omega, ?_⟩⟩
          rw [run, show runL (.hear l :: r.drop (st + (i + 1))) Ti = ((runL (r.drop (st + (i + 1))) Ti).1 + 1, (runL (r.drop (st + (i + 1))) Ti).2) from if_pos hl]
          show (i + ((runL (r.drop (st + (i + 1))) Ti).1 + 1), _) = _
          rw [Nat.add_assoc i 1, Nat.add_comm 1]
        · rw [decide_eq_false hl]
          rw [show runL (.hear l :: r.drop (st + (i + 1))) Ti = (0, Ti) from if_neg hl] at run
          refine iteT ⟨.int ((st : Int) + (i : Nat)), rfl, ?_⟩
          have q' := q H2 ks1 off eM (by rw [run]; exact td1)
          rw [run] at q'
          rw [e0]
          exact q'
    · rintro σ' H1 ⟨⟨y3, y4, rfl⟩, off, ks1, Ti, eM, td1, len1, run⟩
      have none0 : r.drop (st + (r.length - st)) = [] := List.drop_eq_nil_of_le (by omega)
      rw [none0] at run
      have run : runL (r.drop st) Td = (r.length - st + 0, Ti) := run
      refine ⟨.ref b, rfl, b, _, rfl, .inl (sql_off hM off sl), ?_⟩
      have q' := q H1 ks1 off eM (by rw [run]; exact td1)
      rw [run] at q'
      have e1 : st + (r.length - st + 0) = xs.length := by omega
      have q' : Q (.int ((st + (r.length - st + 0) : Nat) : Int)) H1 := q'
      rw [e1] at q'
      exact q'

/-! ### _order_found -/
theorem same_of_off {H Hc H' : Hp} {M : Addr} (s : Same H Hc) (off : Off M Hc H') (n : H M = none) : Same H H' := fun b u e => off b u (fun z => by subst z; rw [n] at e; cases e) (s _ _ e)
/-- the search's state: the hands, how far each is, the letters told, the order -/
structure OdAt (H H' : Hp) (h1 h2 h3 h4 : Addr) (ys : List Str) (st : Od) : Prop where
  sm : Same H H'
  hands : H' h1 = some (.lst (ys.map V.str))
  done : ∃ ds, H' h2 = some (.dK ds) ∧ ds.length ≤ 64 ∧ ∀ h ∈ ys, valV ds (.inr h) = some (.int ((st.done h : Nat) : Int))
  told : ∃ ts, H' h3 = some (.dK ts) ∧ TdAt st.told ts
  order : H' h4 = some (.lst (st.order.map V.str))
  few : st.told.length ≤ st.order.length
def sp_order_found (K : PySem.W.Frag) : Sp := fun vs H Q _ => ∃ v p, vs = [v] ∧ Da K H v (pastD p) ∧ (p.map (·.1)).Nodup ∧ p.length < 64 ∧ Fit (rowsOf p) (p.map (·.1)) ∧ total (rowsOf p) (p.map (·.1)) ≤ 20000 ∧
  ∀ ys, ys.Perm (p.map (·.1)) → PyProof.Rows.sortedS ys = true → ∀ H' o, Same H H' → H o = none → H' o = some (.lst ((found (rowsOf p) ys).order.map V.str)) → Q (.ref o) H'
theorem ok_order_found (D : Dfn K mg "_order_found" s__order_found P__order_found) (T : Txt mg) (C__run_on : Cal P w K mg base CX0 1 "_run_on" s__run_on P__run_on (sp_run_on K)) :
    Cal P w K mg base CX0 2 "_order_found" s__order_found P__order_found (sp_order_found K) := D.cal fun f fd F => by
  refine F.ok sc__order_found (fun vs H Q E h => ?_) (fun cdv A outer s H vs Q E hr h => ?_)
  · obtain ⟨v, p, rfl, _⟩ := h
    rfl
  · obtain ⟨v, p, rfl, hd, nd, few, fit, tot, q⟩ := h
    have hu := hu_of hr
    refine ⟨_, (pss_cons (ps_set (i := 1) sc__order_found.nd rfl (.inl rfl) (pe_callB (call_sortedD rfl) (by rfl) T.sorted (by decide +kernel) (pa_cons (pv 0) pa_nil)))
      (pss_cons (ps_setDc (i := 2) (own := [("hand", 6)]) (g := (gName 6)) (by rfl) sc__order_found.nd rfl rfl (in_frame rfl rfl rfl (by decide +kernel)) (pi_listK (K := K) rfl (pv 1)) (blkOk_by (own := [("hand", 6)]) (N := N__order_found) (sc := defScope s__order_found) (by decide +kernel)) (fun _ _ _ _ _ => pg_name (i := 6) sc__order_found.nd rfl (.inl rfl)) (fun _ _ _ _ _ => pts_nil) (fun _ _ _ _ _ => (pv 6)) (fun _ _ _ _ _ => pe_int))
      (pss_cons (ps_set (i := 3) sc__order_found.nd rfl (.inl rfl) pe_dnewK)
      (pss_cons (ps_set (i := 4) sc__order_found.nd rfl (.inl rfl) (pe_lst pa_nil))
      (pss_cons (ps_set (i := 5) sc__order_found.nd rfl (.inl rfl) pe_bl)
      (pss_cons (ps_while PassesOwn.never (pt_val (pv 5)) (pss_cons (ps_set (i := 5) sc__order_found.nd rfl (.inl rfl) pe_bl)
      (pss_one (ps_for PassesOwn.never rfl (pi_listK (K := K) rfl (pv 1)) (pg_name (i := 6) sc__order_found.nd rfl (.inl rfl)) (pss_cons (ps_set (i := 7) sc__order_found.nd rfl (.inl rfl) (pe_callC C__run_on (hr.mono (by decide)) rfl pass0 (pa_cons (pe_dget hu (pv 0) (pv 6) (fun _ _ => rfl)) (pa_cons (pe_dget hu (pv 2) (pv 6) (fun _ _ => rfl)) (pa_cons (pv 3) pa_nil)))))
      (pss_one (ps_if (pt_cmpR op_gt (pv 7) (pe_dget hu (pv 2) (pv 6) (fun _ _ => rfl)) (nomark _)) (pss_cons (ps_expr (pe_bmK (K := K) rfl PySem.F.plainAttrs_list PySem.F.slot_list_extend PySem.F.type_list_extend mt_extend (pv 4) (pa_cons (pe_op op_rep (pe_lst (pa_cons (pv 6) pa_nil)) (pe_op op_sub (pv 7) (pe_dget hu (pv 2) (pv 6) (fun _ _ => rfl)))) pa_nil)))
      (pss_cons (ps_dput hu (pv 2) (pv 6) (pv 7) rfl)
      (pss_one (ps_set (i := 5) sc__order_found.nd rfl (.inl rfl) pe_bl)))) pss_nil)))))))
      (pss_one (ps_ret (pv 4))))))))), ?_⟩
    obtain ⟨a, ks, rfl, rd, dk⟩ := past_at hd
    refine ⟨.ref a, rfl, a, ks, p.map (·.1), rfl, rd, by rw [past_keys dk, List.map_map]; rfl, by rw [List.length_map]; exact few, fun ys h1 perm srt n1 => ?_⟩
    have s1 : Same H (upd H h1 (.lst (ys.map V.str))) := same_new n1
    have ndY : ys.Nodup := perm.nodup_iff.mpr nd
    -- done = {hand: 0 for hand in hands}
    refine ⟨.ref h1, rfl, h1, rfl, ⟨_, .inl (.inl upd_same)⟩, fun h2 n2 => ?_⟩
    have ne21 : h2 ≠ h1 := fun z => by
      subst z
      rw [upd_same] at n2
      cases n2
    generalize eA : upd H h1 (.lst (ys.map V.str)) = HA at n2 s1
    have a1 : HA h1 = some (.lst (ys.map V.str)) := by rw [← eA]; exact upd_same
    refine dc_it walk_list (fun i H' => Same HA H' ∧ ∃ ds, H' h2 = some (.dK ds) ∧ ds.length ≤ i ∧ ∀ h ∈ ys.take i, valV ds (.inr h) = some (.int 0)) ⟨same_new n2, [], upd_same, Nat.zero_le _, by simp⟩ (fun i H' _ pv => .inl (.inl (pv.1 _ _ a1))) ?_ ?_
    · rintro i x H2 H3 hi ⟨sm, ds, eD, len, dn⟩ ⟨rfl, hx⟩
      rw [List.length_map] at hi
      rw [List.getElem?_map, List.getElem?_eq_getElem hi] at hx
      cases Option.some.inj hx
      have line : 4000 < sizeLine := by decide
      have ly : ys.length < 64 := by rw [perm.length_eq, List.length_map]; exact few
      refine ⟨rfl, yes_on ⟨_, rfl, ds, .inr ys[i], rfl, eD, by omega, same_mut sm n2, _, upd_same, ?_, fun h hh => ?_⟩⟩
      · have := length_putK ds (.inr ys[i] : Key) (.int 0)
        omega
      · rw [valV_put]
        by_cases z : h = ys[i]
        · rw [if_pos (by rw [z])]
        · rw [if_neg fun y => z (Sum.inr.inj y)]
          rw [take_snoc (List.getElem?_eq_getElem hi)] at hh
          exact dn h ((List.mem_append.mp hh).resolve_right fun m => z (List.mem_singleton.mp m))
    rintro H2 ⟨sm2, ds, e2, len2, dn2⟩
    rw [List.length_map] at len2
    rw [List.length_map, List.take_length] at dn2
    have b1 := sm2 _ _ a1
    have s2 : Same H H2 := s1.trans sm2
    have n2H : H h2 = Option.none := s1.free n2
    -- told = {}; order = []; came = True
    intro h3 n3
    refine ⟨Nat.zero_le _, fun h4 n4 => ?_⟩
    have ne34 : h4 ≠ h3 := fun z => by
      subst z
      rw [upd_same] at n4
      cases n4
    rw [upd_ne ne34] at n4
    have ne31 : h1 ≠ h3 := ne_of_none b1 n3
    have ne32 : h2 ≠ h3 := ne_of_none e2 n3
    have ne41 : h1 ≠ h4 := ne_of_none b1 n4
    have ne42 : h2 ≠ h4 := ne_of_none e2 n4
    have ly : ys.length < 64 := by rw [perm.length_eq, List.length_map]; exact few
    have n3H : H h3 = Option.none := s2.free n3
    have n4H : H h4 = Option.none := s2.free n4
    have n1H : H h1 = Option.none := n1
    have fitY : Fit (rowsOf p) ys := ⟨fun l h k h' k' j j' m m' => fit.uniq l h k h' k' j j' (perm.mem_iff.mp m) (perm.mem_iff.mp m'), fun h l j m e => by
      obtain ⟨h', m', z⟩ := fit.heard h l j (perm.mem_iff.mp m) e
      exact ⟨h', perm.mem_iff.mpr m', z⟩⟩
    have totY : total (rowsOf p) ys ≤ 20000 := by
      have e : total (rowsOf p) ys = total (rowsOf p) (p.map (·.1)) := (perm.map fun h => (rowsOf p h).length).sum_nat
      omega
    have z0 : OdAt H (upd (upd H2 h3 (.dK [])) h4 (.lst [])) h1 h2 h3 h4 ys Od.zero := by
      refine ⟨fun b u e => ?_, ?_, ⟨ds, ?_, by omega, dn2⟩, ⟨[], ?_, Nat.le_refl _, fun l => by simp [valV_nil, Od.zero]⟩, upd_same, Nat.le_refl _⟩
      · rw [upd_ne (ne_of_none (s2 _ _ e) n4), upd_ne (ne_of_none (s2 _ _ e) n3)]
        exact s2 _ _ e
      · rw [upd_ne ne41, upd_ne ne31]
        exact b1
      · rw [upd_ne ne42, upd_ne ne32]
        exact e2
      · rw [upd_ne ne34.symm, upd_same]
    have goal : ∀ H' st, OdAt H H' h1 h2 h3 h4 ys st → st.order = (found (rowsOf p) ys).order → Q (.ref h4) H' := fun H' st o e => q ys perm srt H' h4 o.sm n4H (by rw [o.order, e])
    refine ⟨fun m σ' H' => ∃ st c y6 y7, σ' = [some (.ref a), some (.ref h1), some (.ref h2), some (.ref h3), some (.ref h4), some (.bl c), y6, y7] ∧ OdAt H H' h1 h2 h3 h4 ys st ∧ Sound (rowsOf p) ys st ∧
      (if c = true then ∃ f, m = f + 1 ∧ total (rowsOf p) ys < f + st.order.length ∧ (odLoop (rowsOf p) ys f st).order = (found (rowsOf p) ys).order else st.order = (found (rowsOf p) ys).order),
      ⟨total (rowsOf p) ys + 2, Od.zero, true, Option.none, Option.none, rfl, z0, sound_zero _ _, iteT ⟨_, rfl, by show _ < _ + 0; omega, rfl⟩⟩, ?_⟩
    rintro m σ' H5 ⟨st, c, y6, y7, rfl, o, S, mc⟩
    refine ⟨.bl c, rfl, c, rfl, ?_⟩
    cases c with
    | false =>
      have mc : st.order = (found (rowsOf p) ys).order := by simpa using mc
      exact iteF ⟨.ref h4, rfl, goal H5 st o mc⟩
    | true =>
    have mc : ∃ f, m = f + 1 ∧ total (rowsOf p) ys < f + st.order.length ∧ (odLoop (rowsOf p) ys f st).order = (found (rowsOf p) ys).order := by simpa using mc
    obtain ⟨f0, rfl, big, res⟩ := mc
    have bnd := sound_bound ndY S
    obtain ⟨f, rfl⟩ : ∃ f, f0 = f + 1 := ⟨f0 - 1, by omega⟩
    refine iteT ⟨_, fun σ2 H6 w => w, ?_⟩
    -- a pass over the hands
    refine ⟨.ref h1, rfl, h1, rfl, ⟨_, .inl (.inl o.hands)⟩, ?_⟩
    refine for_it walk_list (fun i σ' H' => ∃ c y6 y7, σ' = [some (.ref a), some (.ref h1), some (.ref h2), some (.ref h3), some (.ref h4), some (.bl c), y6, y7] ∧ OdAt H H' h1 h2 h3 h4 ys ((ys.take i).foldl (odStep (rowsOf p)) st) ∧ Sound (rowsOf p) ys ((ys.take i).foldl (odStep (rowsOf p)) st) ∧
      c = !decide (((ys.take i).foldl (odStep (rowsOf p)) st).order.length = st.order.length)) ⟨false, y6, y7, rfl, o, S, by simp⟩ (fun i σ' H' _ ⟨_, _, _, _, o, _⟩ => .inl (.inl o.hands)) ?_ ?_
    · rintro i x σ' H6 H7 hi ⟨c, y6, y7, rfl, o, S, ec⟩ ⟨rfl, hx⟩
      rw [List.length_map] at hi
      rw [List.getElem?_map, List.getElem?_eq_getElem hi] at hx
      cases Option.some.inj hx
      generalize eh : ys[i] = hand at *
      have hm : hand ∈ ys := by rw [← eh]; exact List.getElem_mem hi
      have tk : ys.take (i + 1) = ys.take i ++ [hand] := by rw [take_snoc (List.getElem?_eq_getElem hi), eh]
      have nx : (ys.take (i + 1)).foldl (odStep (rowsOf p)) st = odStep (rowsOf p) ((ys.take i).foldl (odStep (rowsOf p)) st) hand := by rw [tk, List.foldl_append]; rfl
      have grow := pass_grow (rowsOf p) (ys.take i) st
      rw [nx]
      generalize (ys.take i).foldl (odStep (rowsOf p)) st = s at *
      have S' := sound_step fitY hm S
      -- the row
      obtain ⟨⟨hd', r⟩, mp, rfl⟩ := List.mem_map.mp (perm.mem_iff.mp hm)
      have lk := look_of nd mp
      have er : rowsOf p hd' = r := by unfold rowsOf; rw [lk]; rfl
      obtain ⟨v', hv', da'⟩ := past_look dk r lk
      obtain ⟨b, xs, rfl, sl, dl⟩ := row_at da'
      obtain ⟨ds6, eD6, len6, dn6⟩ := o.done
      obtain ⟨ts6, eT6, td6⟩ := o.told
      have le6 := S.le hd'
      rw [er] at le6
      have tot1 : r.length ≤ 20000 := by
        have h1 : r.length = (rowsOf p hd').length := by rw [er]
        have h2 : ∀ (l : List Str), hd' ∈ l → (rowsOf p hd').length ≤ total (rowsOf p) l := by
          intro l
          induction l with
          | nil => exact fun m => (nomatch m)
          | cons y l ih =>
            intro m
            show _ ≤ ((y :: l).map _).sum
            rw [List.map_cons, List.sum_cons]
            rcases List.mem_cons.mp m with z | z
            · rw [z]
              omega
            · have := ih z
              unfold total at this
              omega
        have := h2 ys hm
        omega
      have tot2 := sound_bound ndY S
      have fewT := o.few
      refine ⟨.ref a, rfl, .str hd', rfl, a, .ref b, rfl, .inl ⟨ks, .inr hd', rd_same o.sm rd, rfl, hv'.symm⟩, .ref h2, rfl, .str hd', rfl, h2, _, rfl, .inl ⟨ds6, .inr hd', .inl eD6, rfl, (dn6 hd' hm).symm⟩, .ref h3, rfl, ?_⟩
      refine ⟨b, h3, r, xs, s.done hd', s.told, ts6, rfl, o.sm.seq sl, DaL.same o.sm _ dl, le6, eT6, td6, by omega, fun H8 ts8 off8 eT8 td8 => ?_⟩
      have a8 : H8 h1 = some (.lst (ys.map V.str)) := off8 _ _ ne31 o.hands
      have d8 : H8 h2 = some (.dK ds6) := off8 _ _ ne32 eD6
      have o8 : H8 h4 = some (.lst (s.order.map V.str)) := off8 _ _ ne34 o.order
      have sm8 : Same H H8 := same_of_off o.sm off8 n3H
      refine ⟨_, rfl, .ref h2, rfl, .str hd', rfl, h2, _, rfl, .inl ⟨ds6, .inr hd', .inl d8, rfl, (dn6 hd' hm).symm⟩, _, _, rfl, rfl, _, rfl, ?_⟩
      have odDone : ∀ h, (odStep (rowsOf p) s hd').done h = if h = hd' then s.done hd' + (runL (r.drop (s.done hd')) s.told).1 else s.done h := fun h => by show (if h = hd' then s.done hd' + (runL ((rowsOf p hd').drop (s.done hd')) s.told).1 else _) = _; rw [er]
      have odTold : (odStep (rowsOf p) s hd').told = (runL (r.drop (s.done hd')) s.told).2 := by show (runL ((rowsOf p hd').drop (s.done hd')) s.told).2 = _; rw [er]
      have odOrder : (odStep (rowsOf p) s hd').order = s.order ++ List.replicate (runL (r.drop (s.done hd')) s.told).1 hd' := by show s.order ++ List.replicate (runL ((rowsOf p hd').drop (s.done hd')) s.told).1 hd' = _; rw [er]
      have fewR := runL_few (r.drop (s.done hd')) s.told
      generalize hn : (runL (r.drop (s.done hd')) s.told).1 = n at *
      by_cases n0 : n = 0
      · rw [decide_eq_false (show ¬ ((s.done hd' : Nat) : Int) < ((s.done hd' + n : Nat) : Int) by omega)]
        have stay : odStep (rowsOf p) s hd' = s := by
          refine (step_same (rows := rowsOf p) (st := s) (h := hd') ?_).1
          rw [odOrder, n0]
          simp
        refine iteF ⟨c, _, _, rfl, ?_, by rw [stay]; exact S, by rw [stay]; exact ec⟩
        rw [stay]
        rw [runL_zero (by rw [hn, n0])] at td8
        exact ⟨sm8, a8, ⟨ds6, d8, len6, dn6⟩, ⟨ts8, eT8, td8⟩, o8, o.few⟩
      · rw [decide_eq_true (show ((s.done hd' : Nat) : Int) < ((s.done hd' + n : Nat) : Int) by omega)]
        have bnd' := sound_bound ndY S'
        rw [odOrder, List.length_append, List.length_replicate] at bnd'
        have line : 50000 < sizeLine := by decide
        -- order.extend([hand] * (end - done[hand]))
        refine iteT ⟨.ref h4, rfl, .inl ⟨rfl, _, .inl (.inl o8)⟩, .str hd', rfl, (by show 1 ≤ sizeLine; omega), fun h5 n5 => ?_⟩
        have ne52 : h2 ≠ h5 := ne_of_none d8 n5
        refine ⟨_, rfl, .ref h2, rfl, .str hd', rfl, h2, _, rfl, .inl ⟨ds6, .inr hd', .inl (by rw [upd_ne ne52]; exact d8), rfl, (dn6 hd' hm).symm⟩, _, _, rfl, rfl, ?_⟩
        have diff : ((s.done hd' + n : Nat) : Int) - ((s.done hd' : Nat) : Int) = (n : Int) := by omega
        refine ⟨h5, (n : Int), [V.str hd'], rfl, congrArg V.int diff, upd_same, by omega, by omega, by simp; omega, fun h6 n6 => ?_⟩
        have eRep : (List.replicate ((n : Int)).toNat [V.str hd']).flatten = (List.replicate n hd').map V.str := by rw [Int.toNat_natCast, rep_flat]
        rw [eRep]
        have ne56 : h5 ≠ h6 := fun z => by
          subst z
          rw [upd_same] at n6
          cases n6
        have n6' : H8 h6 = Option.none := by rwa [upd_ne ne56.symm] at n6
        have ne54 : h4 ≠ h5 := ne_of_none o8 n5
        have ne64 : h4 ≠ h6 := ne_of_none o8 n6'
        refine ⟨h4, h6, _, _, rfl, rfl, by rw [upd_ne ne64, upd_ne ne54]; exact o8, upd_same, by rw [List.length_map, List.length_map, List.length_replicate]; omega, ?_⟩
        -- done[hand] = end; came = True
        have ne62 : h2 ≠ h6 := ne_of_none d8 n6'
        refine ⟨_, rfl, .ref h2, rfl, .str hd', rfl, h2, _, rfl, DPut.k (k := Sum.inr hd') (by rw [upd_ne ne42, upd_ne ne62, upd_ne ne52]; exact d8) (by omega), ?_⟩
        have ne53 : h3 ≠ h5 := ne_of_none eT8 n5
        have ne63 : h3 ≠ h6 := ne_of_none eT8 n6'
        have ne51 : h1 ≠ h5 := ne_of_none a8 n5
        have ne61 : h1 ≠ h6 := ne_of_none a8 n6'
        refine ⟨true, _, _, rfl, ⟨fun b u e => ?_, ?_, ⟨_, upd_same, ?_, fun h hh => ?_⟩, ⟨ts8, ?_, by rw [odTold]; exact td8⟩, ?_, ?_⟩, S', ?_⟩
        · have nb2 : b ≠ h2 := ne_of_none e n2H
          have nb4 : b ≠ h4 := ne_of_none e n4H
          rw [upd_ne nb2, upd_ne nb4, upd_ne (ne_of_none (sm8 _ _ e) n6'), upd_ne (ne_of_none (sm8 _ _ e) n5)]
          exact sm8 _ _ e
        · rw [upd_ne ne21.symm, upd_ne ne41, upd_ne ne61, upd_ne ne51]
          exact a8
        · rw [putK_same (dn6 hd' hm)]
          exact len6
        · rw [valV_put, odDone]
          by_cases z : h = hd'
          · rw [if_pos (by rw [z]), if_pos z]
          · rw [if_neg fun y => z (Sum.inr.inj y), if_neg z]
            exact dn6 h hh
        · rw [upd_ne ne32.symm, upd_ne ne34.symm, upd_ne ne63, upd_ne ne53]
          exact eT8
        · rw [upd_ne ne42.symm, upd_same, odOrder, List.map_append]
        · rw [odTold, odOrder, List.length_append, List.length_replicate]
          omega
        · rw [odOrder, List.length_append, List.length_replicate, decide_eq_false (by omega)]
          rfl
    · rintro σ' H6 ⟨c, y6, y7, rfl, o, S, ec⟩
      rw [List.length_map, List.take_length] at o S ec
      have e1 : odPass (rowsOf p) ys st = ys.foldl (odStep (rowsOf p)) st := rfl
      have grow := pass_grow (rowsOf p) ys st
      refine ⟨f + 1, by omega, ys.foldl (odStep (rowsOf p)) st, c, y6, y7, rfl, o, S, ?_⟩
      have res' : (if (odPass (rowsOf p) ys st).order.length = st.order.length then odPass (rowsOf p) ys st else odLoop (rowsOf p) ys f (odPass (rowsOf p) ys st)).order = (found (rowsOf p) ys).order := res
      rw [e1] at res'
      by_cases z : (ys.foldl (odStep (rowsOf p)) st).order.length = st.order.length
      · rw [if_pos z] at res'
        rw [ec, decide_eq_true z]
        exact iteF res'
      · rw [if_neg z] at res'
        rw [ec, decide_eq_false z]
        exact iteT ⟨f, rfl, by omega, res'⟩
end
end L2.Fb.Law

namespace L2.Fb.Law
open PySem PySem.Spec
open PyProof.Rows
section
variable {P : Program} {w : World} {K : PySem.W.Frag} {mg : Str → Option Value} {base : Heap}
/-! ### _can_have_come -/
theorem rowsOf_mem {p : Past} (nd : (p.map (·.1)).Nodup) {q : Str × List Deed} (m : q ∈ p) : rowsOf p q.1 = q.2 := by
  unfold rowsOf
  rw [look_of nd m]
  rfl
theorem total_past {p : Past} (nd : (p.map (·.1)).Nodup) : total (rowsOf p) (p.map (·.1)) = (p.map fun q => q.2.length).sum := by
  unfold total
  rw [List.map_map]
  congr 1
  exact List.map_congr_left fun q m => by show (rowsOf p q.1).length = _; rw [rowsOf_mem nd m]
theorem int_sum : ∀ (l : List Nat), (l.map fun n : Nat => (n : Int)).sum = ((l.sum : Nat) : Int)
  | [] => rfl
  | n :: l => by
    rw [List.map_cons, List.sum_cons, List.sum_cons, int_sum l]
    omega
def sp_can_have_come (K : PySem.W.Frag) : Sp := fun vs H Q _ => ∃ v p, vs = [v] ∧ Da K H v (pastD p) ∧ (p.map (·.1)).Nodup ∧ p.length < 64 ∧ Fit (rowsOf p) (p.map (·.1)) ∧ total (rowsOf p) (p.map (·.1)) ≤ 20000 ∧
  ∀ ys, ys.Perm (p.map (·.1)) → PyProof.Rows.sortedS ys = true → ∀ H', Same H H' → Q (.bl (decide ((found (rowsOf p) ys).order.length = total (rowsOf p) (p.map (·.1))))) H'
theorem ok_can_have_come (D : Dfn K mg "_can_have_come" s__can_have_come P__can_have_come) (T : Txt mg) (C__order_found : Cal P w K mg base CX0 2 "_order_found" s__order_found P__order_found (sp_order_found K)) :
    Cal P w K mg base CX0 3 "_can_have_come" s__can_have_come P__can_have_come (sp_can_have_come K) := D.cal fun f fd F => by
  refine F.ok sc__can_have_come (fun vs H Q E h => ?_) (fun cdv A outer s H vs Q E hr h => ?_)
  · obtain ⟨v, p, rfl, _⟩ := h
    rfl
  · obtain ⟨v, p, rfl, hd, nd, few, fit, tot, q⟩ := h
    have hu := hu_of hr
    refine ⟨_, (pss_one (ps_ret (pe_cmpR op_eq (pe_callB (call_len_seqK (K := K) rfl) (by rfl) T.len PySem.boot_len (pa_cons (pe_callC C__order_found (hr.mono (by decide)) rfl pass0 (pa_cons (pv 0) pa_nil)) pa_nil)) (pe_callB (cr_sum rfl) (by rfl) T.sum (by decide +kernel) (pa_cons (pe_lockO (pe_lc (own := [("hand", 1)]) (g := (gName 1)) rfl sc__can_have_come.nd (pi_keys (pv 0)) (blkOk_by (own := [("hand", 1)]) (N := N__can_have_come) (sc := defScope s__can_have_come) (by decide +kernel)) (fun _ _ _ _ _ => pg_name (i := 1) sc__can_have_come.nd rfl (.inl rfl)) (fun _ _ _ _ _ => pts_nil) (fun _ _ _ _ _ => (pe_callB (call_len_seqK (K := K) rfl) (by rfl) T.len PySem.boot_len (pa_cons (pe_dget hu (pv 0) (pv 1) (fun _ _ => rfl)) pa_nil))))) pa_nil)) (nomark _)))), ?_⟩
    refine ⟨v, rfl, v, p, rfl, hd, nd, few, fit, tot, fun ys perm srt H1 o s1 n1 e1 => ?_⟩
    refine ⟨o, _, rfl, .inl (.inl (.inl e1)), ?_⟩
    obtain ⟨a, ks, rfl, rd, dk⟩ := past_at hd
    refine ⟨a, ks, rd_same s1 rd, fun od un H2 L => ⟨.ref a, rfl, a, od, rfl, .inl ⟨ks, L.frz, fun M nM => ?_⟩⟩⟩
    have dk2 := DaK.le L.le _ (DaK.same s1 _ dk)
    refine lc_fm walk_keys p (fun q => some ((q.2.length : Nat) : Int)) (fun t y _ => y = .int t) nM (past_len dk) (by rw [past_len dk]; omega) (fun H' sm => sm _ _ L.frz) (fun _ _ _ _ _ r => r) ?_ ?_
    · rintro i q x H3 H4 hi sm - ⟨rfl, k, v, hk, rfl⟩ KK NN kk -
      obtain ⟨q', hp, rfl, da⟩ := past_ix dk2 i k v hk
      rw [hi] at hp
      cases Option.some.inj hp
      obtain ⟨v', hv', da'⟩ := past_look dk2 q.2 (look_of nd (List.mem_of_getElem? hi))
      obtain ⟨b, xs, rfl, sl, dl⟩ := row_at da'
      have lr : xs.length = q.2.length := by rw [dl.len, List.length_map]
      refine ⟨rfl, yes_go ⟨.ref a, rfl, .str q.1, rfl, a, .ref b, rfl, .inl ⟨ks, .inr q.1, rd_same sm (L.le _ _ (rd_same s1 rd)), rfl, hv'.symm⟩, b, _, rfl, .inl (sm.seq sl), kk _ _ _ rfl (.refl _) (by rw [lr])⟩⟩
    · intro H3 zs sm eM pr
      refine ⟨sm _ _ L.frz, ?_⟩
      have e2 := paired_map pr
      rw [List.filterMap_eq_map'] at e2
      have eM' := (L.new nM eM).2
      refine ⟨M, _, rfl, .inl (.inl (by rw [eM', e2])), rfl, ?_⟩
      rw [eq_num]
      have es : (List.map (fun q : Str × List Deed => ((q.2.length : Nat) : Int)) p).sum = ((total (rowsOf p) (p.map (·.1)) : Nat) : Int) := by
        rw [total_past nd, ← int_sum, List.map_map]
        rfl
      rw [es, List.length_map]
      have q' := q ys perm srt _ (s1.trans (L.same sm))
      have ev : decide ((((found (rowsOf p) ys).order.length : Nat) : Int) = ((total (rowsOf p) (p.map (·.1)) : Nat) : Int)) = decide ((found (rowsOf p) ys).order.length = total (rowsOf p) (p.map (·.1))) := by
        by_cases z : (found (rowsOf p) ys).order.length = total (rowsOf p) (p.map (·.1))
        · rw [decide_eq_true z, decide_eq_true (by omega)]
        · rw [decide_eq_false z, decide_eq_false (by omega)]
      rw [ev]
      exact q'

/-! ### which data are pasts -/
def DeedGood (names : List Str) (hand : Str) : Deed → Prop
  | .keep => True
  | .tell l h => 0 ≤ l ∧ nameOk h = true ∧ h ∈ names ∧ h ≠ hand
  | .hear l => 0 ≤ l
def CanCome (p : Past) : Prop := ∀ ys, ys.Perm (p.map (·.1)) → PyProof.Rows.sortedS ys = true → (found (rowsOf p) ys).order.length = total (rowsOf p) (p.map (·.1))
structure GoodP (p : Past) : Prop where
  some : 1 ≤ p.length
  few : p.length ≤ 40
  nd : (p.map (·.1)).Nodup
  names : ∀ q ∈ p, nameOk q.1 = true
  deeds : ∀ q ∈ p, ∀ x ∈ q.2, DeedGood (p.map (·.1)) q.1 x
  told : (toldP p).Nodup
  heard : HeardOnce p
  come : CanCome p
def PastD (d : PyData) : Prop := ∃ p, d = pastD p ∧ GoodP p
theorem letterD_iff {d : PyData} : letterD d = true ↔ ∃ l, d = .int l ∧ 0 ≤ l := by
  cases d with
  | int i => exact ⟨fun h => ⟨i, rfl, of_decide_eq_true h⟩, fun ⟨l, e, h⟩ => by cases e; exact decide_eq_true h⟩
  | _ => exact ⟨fun h => (nomatch h), fun ⟨l, e, h⟩ => (nomatch e)⟩
section
variable {ks : List (Key × V)} {names : List Str} {hand : Str}
theorem otherD_iff (hk : ∀ x, (valV ks (.inr x)).isSome = decide (x ∈ names)) {d : PyData} : otherD ks hand d = true ↔ ∃ x, d = .str x ∧ nameOk x = true ∧ x ∈ names ∧ x ≠ hand := by
  cases d with
  | str x =>
    show (nameOk x && (valV ks (.inr x)).isSome && !decide (x = hand)) = true ↔ _
    rw [hk]
    simp only [Bool.and_eq_true, decide_eq_true_eq, Bool.not_eq_true', decide_eq_false_iff_not]
    exact ⟨fun h => ⟨x, rfl, h.1.1, h.1.2, h.2⟩, fun ⟨y, e, h1, h2, h3⟩ => by cases e; exact ⟨⟨h1, h2⟩, h3⟩⟩
  | _ => exact ⟨fun h => (nomatch h), fun ⟨x, e, _⟩ => (nomatch e)⟩
theorem deedOk_iff (hk : ∀ x, (valV ks (.inr x)).isSome = decide (x ∈ names)) {e : PyData} : deedOk ks hand e = true ↔ ∃ d, e = deedD d ∧ DeedGood names hand d := by
  constructor
  · intro h
    match e, h with
    | .tuple (.str w :: r), h =>
      have h : (if w = "keep" then decide (r.length = 0) else if w = "hear" then hearOk r else if w = "tell" then tellOk ks hand r else false) = true := h
      by_cases c1 : w = "keep"
      · rw [if_pos c1] at h
        have z : r = [] := List.length_eq_zero_iff.mp (of_decide_eq_true h)
        rw [c1, z]
        exact ⟨.keep, rfl, trivial⟩
      rw [if_neg c1] at h
      by_cases c2 : w = "hear"
      · rw [if_pos c2] at h
        by_cases len : r.length = 1
        · obtain ⟨d, rfl⟩ := len1 len
          obtain ⟨l, rfl, hl⟩ := letterD_iff.mp h
          rw [c2]
          exact ⟨.hear l, rfl, hl⟩
        · rw [hear_no len] at h
          cases h
      rw [if_neg c2] at h
      by_cases c3 : w = "tell"
      · rw [if_pos c3] at h
        by_cases len : r.length = 2
        · obtain ⟨d, d', rfl⟩ := len2 len
          have h : (letterD d && otherD ks hand d') = true := h
          rw [Bool.and_eq_true] at h
          obtain ⟨l, rfl, hl⟩ := letterD_iff.mp h.1
          obtain ⟨x, rfl, hx⟩ := (otherD_iff hk).mp h.2
          rw [c3]
          exact ⟨.tell l x, rfl, hl, hx⟩
        · rw [tell_no len] at h
          cases h
      rw [if_neg c3] at h
      cases h
  · rintro ⟨d, rfl, g⟩
    cases d with
    | keep => rfl
    | tell l h =>
      show (if ("tell" : Str) = "keep" then decide (([.int l, .str h] : List PyData).length = 0) else if ("tell" : Str) = "hear" then hearOk [.int l, .str h] else if ("tell" : Str) = "tell" then tellOk ks hand [.int l, .str h] else false) = true
      rw [if_neg (by decide +kernel), if_neg (by decide +kernel), if_pos rfl]
      show (letterD (.int l) && otherD ks hand (.str h)) = true
      rw [Bool.and_eq_true]
      exact ⟨letterD_iff.mpr ⟨l, rfl, g.1⟩, (otherD_iff hk).mpr ⟨h, rfl, g.2⟩⟩
    | hear l =>
      show (if ("hear" : Str) = "keep" then decide (([.int l] : List PyData).length = 0) else if ("hear" : Str) = "hear" then hearOk [.int l] else if ("hear" : Str) = "tell" then tellOk ks hand [.int l] else false) = true
      rw [if_neg (by decide +kernel), if_pos rfl]
      exact letterD_iff.mpr ⟨l, rfl, g⟩
theorem rowOk_iff (hk : ∀ x, (valV ks (.inr x)).isSome = decide (x ∈ names)) {d : PyData} : rowOk ks hand d = true ↔ ∃ r, d = rowD r ∧ ∀ x ∈ r, DeedGood names hand x := by
  constructor
  · intro h
    match d, h with
    | .list ds, h =>
      have h : ds.all (deedOk ks hand) = true := h
      have : ∃ r : List Deed, ds = r.map deedD ∧ ∀ x ∈ r, DeedGood names hand x := by
        induction ds with
        | nil => exact ⟨[], rfl, fun _ m => (nomatch m)⟩
        | cons e ds ih =>
          rw [List.all_cons, Bool.and_eq_true] at h
          obtain ⟨x, rfl, g⟩ := (deedOk_iff hk).mp h.1
          obtain ⟨r, rfl, gs⟩ := ih h.2 h.2
          exact ⟨x :: r, rfl, fun y m => (List.mem_cons.mp m).elim (fun z => by rw [z]; exact g) (gs y)⟩
      obtain ⟨r, rfl, g⟩ := this
      exact ⟨r, rfl, g⟩
  · rintro ⟨r, rfl, g⟩
    show (r.map deedD).all _ = true
    rw [List.all_map, List.all_eq_true]
    exact fun x m => (deedOk_iff hk).mpr ⟨x, rfl, g x m⟩
end
/-- told once, heard once: the rows fit -/
theorem mem_tells {p : Past} (nd : (p.map (·.1)).Nodup) {l : Int} {k : Str} : (l, k) ∈ tellsP p ↔ ∃ h ∈ p.map (·.1), ∃ (j : Nat), (rowsOf p h)[j]? = some (Deed.tell l k) := by
  unfold tellsP
  rw [List.mem_flatMap]
  constructor
  · rintro ⟨q, m, h⟩
    obtain ⟨d, md, e⟩ := List.mem_filterMap.mp h
    obtain ⟨j, ej⟩ := List.mem_iff_getElem?.mp md
    cases d with
    | tell l' k' =>
      cases e
      exact ⟨q.1, List.mem_map.mpr ⟨q, m, rfl⟩, j, by rw [rowsOf_mem nd m]; exact ej⟩
    | keep => cases e
    | hear _ => cases e
  · rintro ⟨h, m, j, e⟩
    obtain ⟨q, mq, rfl⟩ := List.mem_map.mp m
    rw [rowsOf_mem nd mq] at e
    exact ⟨q, mq, List.mem_filterMap.mpr ⟨_, List.mem_of_getElem? e, rfl⟩⟩
theorem fit_of {p : Past} (nd : (p.map (·.1)).Nodup) (once : (toldP p).Nodup) (ho : HeardOnce p) : Fit (rowsOf p) (p.map (·.1)) := by
  have ndT : ((tellsP p).map (·.1)).Nodup := by rw [tells_fst]; exact once
  refine ⟨fun l h k h' k' j j' m m' e e' => ?_, fun h l j m e => ?_⟩
  · have h1 := lookT_of ndT ((mem_tells nd).mpr ⟨h, m, j, e⟩)
    have h2 := lookT_of ndT ((mem_tells nd).mpr ⟨h', m', j', e'⟩)
    rw [h1] at h2
    exact Option.some.inj h2
  · obtain ⟨q, mq, rfl⟩ := List.mem_map.mp m
    rw [rowsOf_mem nd mq] at e
    have : (l, q.1) ∈ hearsP p := List.mem_flatMap.mpr ⟨q, mq, List.mem_filterMap.mpr ⟨_, List.mem_of_getElem? e, rfl⟩⟩
    exact (mem_tells nd).mp (ho.1 _ this)

/-! ### is_past -/
def rowLen : PyData → Nat | .list ds => ds.length | _ => 0
/-- not too great to be looked at -/
structure SmallKv (kvs : List (PyData × PyData)) : Prop where
  keys : ∀ q ∈ kvs, Sized 50000 q.1
  deeds : ∀ q ∈ kvs, ∀ ds, q.2 = .list ds → ∀ e ∈ ds, Sized2 50000 e
  all : (kvs.map fun q => rowLen q.2).sum ≤ 4000
def SmallD (d : PyData) : Prop := ∀ kvs, d = .dict kvs → SmallKv kvs
theorem DaK.at {H : Hp} : ∀ {ks : List (Key × V)} {ds : List (PyData × PyData)}, DaK K H ks ds → ∀ (i : Nat) (k : Key) (v : V), ks[i]? = some (k, v) → ∃ d, ds[i]? = some (kD k, d) ∧ Da K H v d
  | _, _, .nil, _, _, _, e => by simp at e
  | _, _, .cons h _, 0, k, v, e => by
    cases (Option.some.inj (show some _ = some (k, v) from e))
    exact ⟨_, rfl, h⟩
  | _, _, .cons _ h, i + 1, k, v, e => DaK.at h i k v e
theorem DaK.of {H : Hp} : ∀ {ks : List (Key × V)} {ds : List (PyData × PyData)}, DaK K H ks ds → ∀ (i : Nat) (q : PyData × PyData), ds[i]? = some q → ∃ k v, ks[i]? = some (k, v) ∧ q.1 = kD k ∧ Da K H v q.2
  | _, _, .nil, _, _, e => by simp at e
  | _, _, .cons h _, 0, q, e => by
    cases (Option.some.inj (show some _ = some q from e))
    exact ⟨_, _, rfl, rfl, h⟩
  | _, _, .cons _ h, i + 1, q, e => DaK.of h i q e
theorem kV_da {H : Hp} (k : Key) : Da K H (kV k) (kD k) := by
  cases k with
  | inl i => exact .int i
  | inr x => exact .str x
theorem valV_nodup {κ : Type} [DecidableEq κ] : ∀ {ks : List (κ × V)} (nd : (ks.map (·.1)).Nodup) {i : Nat} {k : κ} {v : V}, ks[i]? = some (k, v) → valV ks k = some v
  | q :: ks, nd, 0, k, v, e => by
    cases (Option.some.inj (show some _ = some (k, v) from e))
    exact valV_pos rfl
  | q :: ks, nd, i + 1, k, v, e => by
    have nd : (q.1 :: ks.map (·.1)).Nodup := nd
    obtain ⟨n1, n2⟩ := List.nodup_cons.mp nd
    have e : ks[i]? = some (k, v) := e
    rw [valV_neg fun z => n1 (by rw [z]; exact List.mem_map.mpr ⟨(k, v), List.mem_of_getElem? e, rfl⟩)]
    exact valV_nodup n2 e
def nameOf : PyData → Str | .str x => x | _ => ""
def keyNames (ks : List (Key × V)) : List Str := ks.filterMap fun q => match q.1 with | .inr x => some x | .inl _ => none
theorem keyNames_has (ks : List (Key × V)) (x : Str) : (valV ks (.inr x)).isSome = decide (x ∈ keyNames ks) := by
  rw [← valV_any]
  by_cases h : x ∈ keyNames ks
  · rw [decide_eq_true h]
    obtain ⟨q, m, e⟩ := List.mem_filterMap.mp h
    refine List.any_eq_true.mpr ⟨q, m, decide_eq_true ?_⟩
    obtain ⟨k, v⟩ := q
    cases k with
    | inl i => cases e
    | inr y =>
      cases e
      rfl
  · rw [decide_eq_false h]
    refine List.any_eq_false.mpr fun q m => ?_
    rw [decide_eq_true_eq]
    exact fun z => h (List.mem_filterMap.mpr ⟨q, m, by rw [z]⟩)
theorem keyNames_past {H : Hp} {p : Past} {ks : List (Key × V)} (h : DaK K H ks (pastKv p)) : keyNames ks = p.map (·.1) := by
  have e := past_keys h
  have : keyNames ks = (ks.map (·.1)).filterMap fun k => match k with | Sum.inr x => some x | Sum.inl _ => none := by
    unfold keyNames
    rw [List.filterMap_map]
    rfl
  rw [this, e, List.filterMap_map]
  show (p.filterMap fun q => some q.1) = _
  rw [List.filterMap_eq_map']
theorem mem_le_sum {α : Type} (f : α → Nat) : ∀ (l : List α) (x : α), x ∈ l → f x ≤ (l.map f).sum
  | y :: l, x, m => by
    rw [List.map_cons, List.sum_cons]
    rcases List.mem_cons.mp m with z | z
    · rw [z]
      omega
    · have := mem_le_sum f l x z
      omega
theorem pastKv_inj : ∀ {p q : Past}, pastKv p = pastKv q → p = q
  | [], [], _ => rfl
  | [], _ :: _, e => by cases e
  | _ :: _, [], e => by cases e
  | (h, r) :: p, (h', r') :: q, e => by
    have e : (PyData.str h, rowD r) :: pastKv p = (PyData.str h', rowD r') :: pastKv q := e
    injection e with e1 e2
    have eh : h = h' := by
      injection e1 with a b
      injection a
    have er : r = r' := by
      injection e1 with a b
      injection b with b
      have inj : ∀ (x y : List Deed), x.map deedD = y.map deedD → x = y := by
        intro x
        induction x with
        | nil => exact fun y z => by cases y with | nil => rfl | cons _ _ => cases z
        | cons d x ih =>
          intro y z
          cases y with
          | nil => cases z
          | cons d' y =>
            rw [List.map_cons, List.map_cons] at z
            injection z with z1 z2
            have : d = d' := by cases d <;> cases d' <;> simp_all [deedD]
            rw [this, ih y z2]
      exact inj r r' b
    rw [eh, er, pastKv_inj e2]
theorem typed_of {ks : List (Key × V)} : ∀ {kvs : List (PyData × PyData)}, (∀ q ∈ kvs, nameD q.1 = true ∧ rowOk ks (nameOf q.1) q.2 = true) → ∃ p : Past, kvs = pastKv p ∧ ∀ q ∈ p, nameOk q.1 = true ∧ ∀ x ∈ q.2, DeedGood (keyNames ks) q.1 x
  | [], _ => ⟨[], rfl, fun _ m => (nomatch m)⟩
  | (k, d) :: kvs, h => by
    obtain ⟨h1, h2⟩ := h _ List.mem_cons_self
    obtain ⟨p, rfl, hp⟩ := typed_of fun q m => h q (List.mem_cons_of_mem _ m)
    obtain ⟨x, rfl⟩ : ∃ x, k = .str x := by cases k <;> first | exact ⟨_, rfl⟩ | cases h1
    obtain ⟨r, rfl, g⟩ := (rowOk_iff (keyNames_has ks)).mp h2
    exact ⟨(x, r) :: p, rfl, fun q m => (List.mem_cons.mp m).elim (fun z => by rw [z]; exact ⟨h1, g⟩) (hp q)⟩
theorem row_lens (p : Past) : (pastKv p).map (fun q => rowLen q.2) = p.map fun q => q.2.length := by
  unfold pastKv
  rw [List.map_map]
  exact List.map_congr_left fun q _ => by show (q.2.map deedD).length = _; rw [List.length_map]
theorem told_le (p : Past) : (toldP p).length ≤ (p.map fun q => q.2.length).sum := by
  induction p with
  | nil => exact Nat.le_refl _
  | cons q p ih =>
    have e : toldP (q :: p) = toldR q.2 ++ toldP p := rfl
    have h : (toldR q.2).length ≤ q.2.length := List.length_filterMap_le ..
    rw [e, List.length_append, List.map_cons, List.sum_cons]
    omega
def sp_is_past (K : PySem.W.Frag) : Sp := fun vs H Q _ => ∃ v d, vs = [v] ∧ Da K H v d ∧ SmallD d ∧ ∀ H' c, Same H H' → (c = true ↔ PastD d) → Q (.bl c) H'
theorem ok_is_past (D : Dfn K mg "is_past" s_is_past P_is_past) (T : Txt mg) (C_is_name : Cal P w K mg base CX0 1 "is_name" s_is_name P_is_name (sp_is_name K)) (C__is_row : Cal P w K mg base CX0 5 "_is_row" s__is_row P__is_row (sp_is_row K))
    (C__told_once : Cal P w K mg base CX0 1 "_told_once" s__told_once P__told_once (sp_told_once K)) (C__heard_once : Cal P w K mg base CX0 2 "_heard_once" s__heard_once P__heard_once (sp_heard_once K))
    (C__can_have_come : Cal P w K mg base CX0 3 "_can_have_come" s__can_have_come P__can_have_come (sp_can_have_come K)) : Cal P w K mg base CX0 6 "is_past" s_is_past P_is_past (sp_is_past K) := D.cal fun f fd F => by
  refine F.ok sc_is_past (fun vs H Q E h => ?_) (fun cdv A outer s H vs Q E hr h => ?_)
  · obtain ⟨v, d, rfl, _⟩ := h
    rfl
  · obtain ⟨v, d, rfl, hd, small, q⟩ := h
    have hu := hu_of hr
    obtain ⟨t40, g_MOST_HANDS⟩ := T.g_MOST_HANDS
    refine ⟨_, (pss_cons (ps_if (PW.pt (pw_or (pt_not (pt_val (pe_callB (call_isiKK (K := K) rfl) (by rfl) T.isinstance (by decide +kernel) (pa_cons (pv 0) (pa_cons (pe_bltn (v := .ty "dict") (by rfl) T.dict (by decide +kernel) rfl) pa_nil))))) (pw_or1 (pt_not (pt_chain op_le op_le pe_int (pe_callB call_lenDN (by rfl) T.len PySem.boot_len (pa_cons (pv 0) pa_nil)) (pe_glob (v := .int 40) rfl g_MOST_HANDS ⟨_, rfl⟩)))))) (pss_one (ps_ret pe_bl)) pss_nil)
      (pss_cons (ps_if (pt_not (pt_val (pe_callB (cr_all rfl) (by rfl) T.all (by decide +kernel) (pa_cons (pe_lockO (pe_lc (own := [("hand", 1)]) (g := (gName 1)) rfl sc_is_past.nd (pi_keys (pv 0)) (blkOk_by (own := [("hand", 1)]) (N := N_is_past) (sc := defScope s_is_past) (by decide +kernel)) (fun _ _ _ _ _ => pg_name (i := 1) sc_is_past.nd rfl (.inl rfl)) (fun _ _ _ _ _ => pts_nil) (fun _ _ _ _ _ => (pe_callC C_is_name (hr.mono (by decide)) rfl pass0 (pa_cons (pv 1) pa_nil))))) pa_nil)))) (pss_one (ps_ret pe_bl)) pss_nil)
      (pss_cons (ps_if (pt_not (pt_val (pe_callB (cr_all rfl) (by rfl) T.all (by decide +kernel) (pa_cons (pe_lockO (pe_lc (own := [("hand", 1)]) (g := (gName 1)) rfl sc_is_past.nd (pi_keys (pv 0)) (blkOk_by (own := [("hand", 1)]) (N := N_is_past) (sc := defScope s_is_past) (by decide +kernel)) (fun _ _ _ _ _ => pg_name (i := 1) sc_is_past.nd rfl (.inl rfl)) (fun _ _ _ _ _ => pts_nil) (fun _ _ _ _ _ => (pe_callC C__is_row (hr.mono (by decide)) rfl pass0 (pa_cons (pv 0) (pa_cons (pv 1) pa_nil)))))) pa_nil)))) (pss_one (ps_ret pe_bl)) pss_nil)
      (pss_one (ps_ret (pe_and (pe_callC C__told_once (hr.mono (by decide)) rfl pass0 (pa_cons (pv 0) pa_nil)) (pe_and (pe_callC C__heard_once (hr.mono (by decide)) rfl pass0 (pa_cons (pv 0) pa_nil)) (pe_one (pe_callC C__can_have_come (hr.mono (by decide)) rfl pass0 (pa_cons (pv 0) pa_nil)))))))))), ?_⟩
    refine ⟨v, rfl, v, .ty "dict", _, _, _, rfl, .ty _, hd.ty, kit_ty (kit_dict d), _, rfl, ?_⟩
    cases e : isDict d with
    | false =>
      refine iteT (iteT (q H false (.refl H) ⟨fun z => (nomatch z), ?_⟩))
      rintro ⟨p, rfl, _⟩
      cases e
    | true =>
    obtain ⟨kvs, rfl⟩ : ∃ kvs, d = .dict kvs := by cases d <;> first | exact ⟨_, rfl⟩ | cases e
    have sm := small kvs rfl
    cases hd with
    | dct rd dk =>
    rename_i a ks
    have kl := dk.len
    have no : ∀ H', Same H H' → ¬ PastD (.dict kvs) → Q (.bl false) H' := fun H' s n => q H' false s ⟨fun z => (nomatch z), fun z => (n z).elim⟩
    refine iteF ⟨.ref a, rfl, a, ks, rfl, rd, fun nd => ⟨1, ks.length, rfl, rfl, _, rfl, ?_⟩⟩
    by_cases h1 : (1 : Int) ≤ ks.length
    · rw [decide_eq_true h1]
      refine iteT ⟨_, 40, rfl, rfl, _, rfl, ?_⟩
      by_cases h40 : (ks.length : Int) ≤ 40
      · rw [decide_eq_true h40]
        refine iteF ?_
        -- all are names
        refine ⟨a, ks, rd, fun od un H1 L => ⟨.ref a, rfl, a, od, rfl, .inl ⟨ks, L.frz, fun M nM => ?_⟩⟩⟩
        have dk1 := DaK.le L.le _ dk
        refine lc_fm walk_keys kvs (fun q => some (nameD q.1)) (fun t y _ => y = .bl t) nM kl (by omega) (fun H' s => s _ _ L.frz) (fun _ _ _ _ _ r => r) ?_ ?_
        · rintro i q x H3 H4 hi s3 - ⟨rfl, k, v, hk, rfl⟩ KK NN kk -
          obtain ⟨d, ed, da⟩ := DaK.at dk1 i k v hk
          rw [hi] at ed
          cases Option.some.inj ed
          exact ⟨rfl, yes_go ⟨_, rfl, kV k, kD k, rfl, kV_da k, sm.keys _ (List.mem_of_getElem? hi), fun H' s' => kk _ _ _ rfl s' rfl⟩⟩
        intro H3 zs s3 eM pr
        have e2 := paired_map pr
        rw [List.filterMap_eq_map'] at e2
        obtain ⟨nM0, eM'⟩ := L.new nM eM
        have u1 := L.same s3
        refine ⟨s3 _ _ L.frz, M, _, rfl, .inl (.inl (by rw [eM', e2])), _, rfl, ?_⟩
        cases b1 : (kvs.map fun q => nameD q.1).all id with
        | false =>
          refine iteT (no _ u1 ?_)
          rintro ⟨p, ep, g⟩
          have ep : kvs = pastKv p := by cases ep; rfl
          subst ep
          have : ((pastKv p).map fun q => nameD q.1).all id = true := by
            rw [List.all_map, List.all_eq_true]
            intro q m
            obtain ⟨q', m', rfl⟩ := List.mem_map.mp m
            exact g.names q' m'
          rw [this] at b1
          cases b1
        | true =>
        rw [List.all_map, List.all_eq_true] at b1
        refine iteF ?_
        generalize hHc : un H3 = Hc at u1
        -- all are rows
        refine ⟨a, ks, rd_same u1 rd, fun od2 un2 H5 L2 => ⟨.ref a, rfl, a, od2, rfl, .inl ⟨ks, L2.frz, fun M2 nM2 => ?_⟩⟩⟩
        have dk5 := DaK.le L2.le _ (DaK.same u1 _ dk)
        refine lc_fm walk_keys kvs (fun q => some (rowOk ks (nameOf q.1) q.2)) (fun t y _ => y = .bl t) nM2 kl (by omega) (fun H' s => s _ _ L2.frz) (fun _ _ _ _ _ r => r) ?_ ?_
        · rintro i q x H6 H7 hi s6 - ⟨rfl, k, v, hk, rfl⟩ KK NN kk -
          obtain ⟨d, ed, da⟩ := DaK.at dk5 i k v hk
          rw [hi] at ed
          cases Option.some.inj ed
          have hm := List.mem_of_getElem? hi
          have hn : nameD (kD k) = true := b1 _ hm
          obtain ⟨x, rfl⟩ : ∃ x, k = .inr x := by cases k <;> first | exact ⟨_, rfl⟩ | cases hn
          refine ⟨rfl, yes_go ⟨.ref a, rfl, .str x, rfl, a, ks, x, v, d, rfl, rd_same s6 (L2.le _ _ (rd_same u1 rd)), valV_nodup nd hk, Da.same s6 d da, fun ds ed => ⟨?_, sm.deeds _ hm ds ed⟩, fun H' s' => kk _ _ _ rfl s' rfl⟩⟩
          have h1 := mem_le_sum (fun q : PyData × PyData => rowLen q.2) kvs _ hm
          have h2 := sm.all
          subst ed
          have h1 : ds.length ≤ _ := h1
          omega
        intro H6 zs2 s6 eM2 pr2
        have e4 := paired_map pr2
        rw [List.filterMap_eq_map'] at e4
        obtain ⟨nM20, eM2'⟩ := L2.new nM2 eM2
        have u2 := u1.trans (L2.same s6)
        refine ⟨s6 _ _ L2.frz, M2, _, rfl, .inl (.inl (by rw [eM2', e4])), _, rfl, ?_⟩
        cases b2 : (kvs.map fun q => rowOk ks (nameOf q.1) q.2).all id with
        | false =>
          refine iteT (no _ u2 ?_)
          rintro ⟨p, ep, g⟩
          have ep : kvs = pastKv p := by cases ep; rfl
          subst ep
          have : ((pastKv p).map fun q => rowOk ks (nameOf q.1) q.2).all id = true := by
            rw [List.all_map, List.all_eq_true]
            intro q m
            obtain ⟨q', m', rfl⟩ := List.mem_map.mp m
            refine (rowOk_iff (keyNames_has ks)).mpr ⟨q'.2, rfl, ?_⟩
            rw [keyNames_past dk]
            exact g.deeds q' m'
          rw [this] at b2
          cases b2
        | true =>
        rw [List.all_map, List.all_eq_true] at b2
        refine iteF ?_
        obtain ⟨p, rfl, typed⟩ := typed_of fun q m => ⟨b1 q m, b2 q m⟩
        rw [keyNames_past dk] at typed
        generalize hHe : un2 H6 = He at u2
        have da := Da.same u2 _ (Da.dct (K := K) rd dk)
        have ndp : (p.map (·.1)).Nodup := by
          rw [past_keys dk] at nd
          exact (List.pairwise_map.mp nd |> fun h => List.pairwise_map.mpr (h.imp fun h z => h (by rw [z])))
        have lp : ks.length = p.length := past_len dk
        have sums := sm.all
        rw [row_lens] at sums
        have tl := told_le p
        have no2 : ∀ H', Same H H' → ¬ GoodP p → Q (.bl false) H' := fun H' s n => no H' s fun ⟨p', e, g⟩ => n (by
          have e : pastKv p = pastKv p' := PyData.dict.inj e
          rw [pastKv_inj e]
          exact g)
        refine ⟨.ref a, rfl, .ref a, p, rfl, da, ndp, by omega, by omega, fun H8 s8 => ⟨_, rfl, ?_⟩⟩
        by_cases c1 : (toldP p).Nodup
        · rw [decide_eq_true c1]
          refine iteT ⟨.ref a, rfl, .ref a, p, rfl, Da.same s8 _ da, ndp, c1, by omega, fun H9 s9 => ⟨_, rfl, ?_⟩⟩
          by_cases c2 : HeardOnce p
          · rw [decide_eq_true c2]
            have tot : total (rowsOf p) (p.map (·.1)) ≤ 20000 := by
              rw [total_past ndp]
              omega
            refine iteT ⟨.ref a, rfl, .ref a, p, rfl, Da.same s9 _ (Da.same s8 _ da), ndp, by omega, fit_of ndp c1 c2, tot, fun ys perm srt H10 s10 => ?_⟩
            refine q H10 _ (u2.trans (s8.trans (s9.trans s10))) ⟨fun h => ⟨p, rfl, by omega, by omega, ndp, fun q m => (typed q m).1, fun q m => (typed q m).2, c1, c2, fun ys' perm' srt' => ?_⟩, fun ⟨p', e, g⟩ => ?_⟩
            · rw [sorted_uniq (perm'.trans perm.symm) srt' srt]
              exact of_decide_eq_true h
            · have e : pastKv p = pastKv p' := PyData.dict.inj e
              have e := pastKv_inj e
              subst e
              exact decide_eq_true (g.come ys perm srt)
          · rw [decide_eq_false c2]
            exact iteF (no2 H9 (u2.trans (s8.trans s9)) fun g => c2 g.heard)
        · rw [decide_eq_false c1]
          exact iteF (no2 H8 (u2.trans s8) fun g => c1 g.told)
      · rw [decide_eq_false h40]
        refine iteT (no H (.refl H) ?_)
        rintro ⟨p, ep, g⟩
        have ep : kvs = pastKv p := by cases ep; rfl
        have := g.few
        rw [kl, ep] at h40
        unfold pastKv at h40
        rw [List.length_map] at h40
        omega
    · rw [decide_eq_false h1]
      refine iteF ⟨_, rfl, iteT (no H (.refl H) ?_)⟩
      rintro ⟨p, ep, g⟩
      have ep : kvs = pastKv p := by cases ep; rfl
      have := g.some
      rw [kl, ep] at h1
      unfold pastKv at h1
      rw [List.length_map] at h1
      omega

/-! ### check_past, order_of: of what is a past -/
theorem small_past {p : Past} (g : GoodP p) (few : (p.map fun q => q.2.length).sum ≤ 4000) : SmallD (pastD p) := by
  have len8 : ∀ x, nameOk x = true → x.length ≤ 50000 := fun x h => by
    unfold nameOk at h
    rw [Bool.and_eq_true, Bool.and_eq_true] at h
    have := of_decide_eq_true h.1.2
    omega
  intro kvs e
  have e : kvs = pastKv p := (PyData.dict.inj e).symm
  subst e
  refine ⟨fun q m x ex => ?_, fun q m ds ed e me => ?_, by rw [row_lens]; exact few⟩
  · obtain ⟨q', m', rfl⟩ := List.mem_map.mp m
    cases ex
    exact len8 _ (g.names q' m')
  · obtain ⟨q', m', rfl⟩ := List.mem_map.mp m
    have ed : ds = q'.2.map deedD := (PyData.list.inj ed).symm
    subst ed
    obtain ⟨x, mx, rfl⟩ := List.mem_map.mp me
    have gx := g.deeds q' m' x mx
    intro es ee y my z ez
    subst ez
    have lt : ∀ w : Str, w = "keep" ∨ w = "tell" ∨ w = "hear" → w.length ≤ 50000 := by
      rintro w (h | h | h) <;> rw [h] <;> decide +kernel
    cases x with
    | keep =>
      cases ee
      cases List.mem_singleton.mp my
      exact lt _ (.inl rfl)
    | tell l h =>
      cases ee
      rcases List.mem_cons.mp my with q | my
      · cases q
        exact lt _ (.inr (.inl rfl))
      rcases List.mem_cons.mp my with q | my
      · cases q
      cases List.mem_singleton.mp my
      exact len8 _ gx.2.1
    | hear l =>
      cases ee
      rcases List.mem_cons.mp my with q | my
      · cases q
        exact lt _ (.inr (.inr rfl))
      cases List.mem_singleton.mp my
def sp_check_past (K : PySem.W.Frag) : Sp := fun vs H Q _ => ∃ v p, vs = [v] ∧ Da K H v (pastD p) ∧ GoodP p ∧ (p.map fun q => q.2.length).sum ≤ 4000 ∧ ∀ H', Same H H' → Q .non H'
theorem ok_check_past (D : Dfn K mg "check_past" s_check_past P_check_past) (C_is_past : Cal P w K mg base CX0 6 "is_past" s_is_past P_is_past (sp_is_past K)) : Cal P w K mg base CX0 7 "check_past" s_check_past P_check_past (sp_check_past K) := D.cal fun f fd F => by
  refine F.ok sc_check_past (fun vs H Q E h => ?_) (fun cdv A outer s H vs Q E hr h => ?_)
  · obtain ⟨v, p, rfl, _⟩ := h
    rfl
  · obtain ⟨v, p, rfl, hd, g, few, q⟩ := h
    refine ⟨_, (pss_one (ps_if (pt_not (pt_val (pe_callC C_is_past (hr.mono (by decide)) rfl pass0 (pa_cons (pv 0) pa_nil)))) (pss_one ps_never) pss_nil)), ?_⟩
    refine ⟨v, rfl, v, pastD p, rfl, hd, small_past g few, fun H1 c s1 hc => ⟨c, rfl, ?_⟩⟩
    rw [hc.mpr ⟨p, rfl, g⟩]
    exact iteF (q H1 s1)
end
abbrev s_order_of : Stmt := topS 9
abbrev N_order_of : List Str := ["past"]
abbrev P_order_of : List Str := ["past"]
theorem sc_order_of : FnScope N_order_of P_order_of (defScope s_order_of) := ⟨rfl, rfl, rfl, by decide +kernel, rfl, by decide +kernel, by decide +kernel⟩
section
variable {P : Program} {w : World} {K : PySem.W.Frag} {mg : Str → Option Value} {base : Heap}
def sp_order_of (K : PySem.W.Frag) : Sp := fun vs H Q _ => ∃ v p, vs = [v] ∧ Da K H v (pastD p) ∧ GoodP p ∧ (p.map fun q => q.2.length).sum ≤ 4000 ∧
  ∀ ys, ys.Perm (p.map (·.1)) → PyProof.Rows.sortedS ys = true → ∀ H' o, Same H H' → H o = none → H' o = some (.lst ((found (rowsOf p) ys).order.map V.str)) → Q (.ref o) H'
theorem ok_order_of (D : Dfn K mg "order_of" s_order_of P_order_of) (C_check_past : Cal P w K mg base CX0 7 "check_past" s_check_past P_check_past (sp_check_past K)) (C__order_found : Cal P w K mg base CX0 2 "_order_found" s__order_found P__order_found (sp_order_found K)) :
    Cal P w K mg base CX0 8 "order_of" s_order_of P_order_of (sp_order_of K) := D.cal fun f fd F => by
  refine F.ok sc_order_of (fun vs H Q E h => ?_) (fun cdv A outer s H vs Q E hr h => ?_)
  · obtain ⟨v, p, rfl, _⟩ := h
    rfl
  · obtain ⟨v, p, rfl, hd, g, few, q⟩ := h
    refine ⟨_, (pss_cons (ps_expr (pe_callC C_check_past (hr.mono (by decide)) rfl pass0 (pa_cons (pv 0) pa_nil)))
      (pss_one (ps_ret (pe_callC C__order_found (hr.mono (by decide)) rfl pass0 (pa_cons (pv 0) pa_nil))))), ?_⟩
    refine ⟨v, rfl, v, p, rfl, hd, g, few, fun H1 s1 => ?_⟩
    have tot : total (rowsOf p) (p.map (·.1)) ≤ 20000 := by
      rw [total_past g.nd]
      omega
    refine ⟨v, rfl, v, p, rfl, Da.same s1 _ hd, g.nd, by have := g.few; omega, fit_of g.nd g.told g.heard, tot, fun ys perm srt H2 o s2 n2 e2 => q ys perm srt H2 o (s1.trans s2) (s1.free n2) e2⟩
end
end L2.Fb.Law

namespace L2.Fb.Law
open PySem PySem.Spec
open PyProof.Rows
abbrev s__law_pot : Stmt := topS 23
abbrev N__law_pot : List Str := ["script", "k", "cell"]
abbrev P__law_pot : List Str := ["script", "k"]
theorem sc__law_pot : FnScope N__law_pot P__law_pot (defScope s__law_pot) := ⟨rfl, rfl, rfl, by decide +kernel, rfl, by decide +kernel, by decide +kernel⟩
abbrev s__law_dip : Stmt := topS 24
abbrev N__law_dip : List Str := ["pot", "many", "found", "mixed"]
abbrev P__law_dip : List Str := ["pot", "many"]
theorem sc__law_dip : FnScope N__law_dip P__law_dip (defScope s__law_dip) := ⟨rfl, rfl, rfl, by decide +kernel, rfl, by decide +kernel, by decide +kernel⟩
abbrev s__law_names : Stmt := topS 25
abbrev N__law_names : List Str := ["pot", "many", "pool", "sign", "turn"]
abbrev P__law_names : List Str := ["pot", "many"]
theorem sc__law_names : FnScope N__law_names P__law_names (defScope s__law_names) := ⟨rfl, rfl, rfl, by decide +kernel, rfl, by decide +kernel, by decide +kernel⟩
structure TxtL (mg : Str → Option Value) : Prop extends Txt mg where
  max : mg "max" = none
  min : mg "min" = none
  repr : mg "repr" = none
section
variable {P : Program} {w : World} {K : PySem.W.Frag} {mg : Str → Option Value} {base : Heap}
/-! ### the pot -/
/-- a pot at p from which n more may be drawn -/
def PotAt (H : Hp) (p : Addr) (n : Nat) : Prop := ∃ a b c : Int, H p = some (.lst [.int a, .int b, .int c]) ∧ 0 ≤ a ∧ 0 ≤ b ∧ b < 2 ^ 200 ∧ 0 ≤ c ∧ c + n ≤ 1000000
theorem PotAt.off {H H' : Hp} {p : Addr} {n : Nat} (h : PotAt H p n) (e : ∀ u, H p = some u → H' p = some u) : PotAt H' p n := by
  obtain ⟨a, b, c, h1, h2⟩ := h
  exact ⟨a, b, c, e _ h1, h2⟩
theorem PotAt.less {H : Hp} {p : Addr} {n m : Nat} (h : PotAt H p n) (le : m ≤ n) : PotAt H p m := by
  obtain ⟨a, b, c, h1, h2, h3, h4, h5, h6⟩ := h
  exact ⟨a, b, c, h1, h2, h3, h4, h5, by omega⟩
theorem pow18 : (10 : Int) ^ ((18 : Int).toNat) = 1000000000000000000 := by decide +kernel
theorem pow45 : (10 : Int) ^ ((45 : Int).toNat) = 1000000000000000000000000000000000000000000000 := by decide +kernel
theorem pow41 : (10 : Int) ^ ((41 : Int).toNat) = 100000000000000000000000000000000000000000 := by decide +kernel
theorem pow42 : (10 : Int) ^ ((42 : Int).toNat) = 1000000000000000000000000000000000000000000 := by decide +kernel
theorem two200 : (2 : Int) ^ 200 = 1606938044258990275541962092341162602522202993782792835301376 := by decide +kernel
theorem two201 : (2 : Int) ^ 201 = 3213876088517980551083924184682325205044405987565585670602752 := by decide +kernel
theorem fmod_lt {i j : Int} (h : 0 < j) : 0 ≤ i.fmod j ∧ i.fmod j < j := by
  rw [Int.fmod_eq_emod_of_nonneg i (by omega)]
  exact ⟨Int.emod_nonneg i (by omega), Int.emod_lt_of_pos i h⟩
theorem fdiv_nn {i j : Int} (h : 0 ≤ i) (hj : 0 < j) : 0 ≤ i.fdiv j := by
  rw [Int.fdiv_eq_ediv_of_nonneg i (by omega)]
  exact Int.ediv_nonneg h (by omega)
theorem small_pow {i : Int} {n : Nat} {j : Int} (h0 : 0 ≤ i) (h1 : i < 2 ^ n) (hn : 0 < n) (hj : 0 ≤ j) (hz : (n : Int) * j ≤ 1000000) : CPowW i j := by
  refine ⟨hj, n, ?_, hn, hz⟩
  have e : ((2 ^ n : Nat) : Int) = 2 ^ n := by norm_cast
  omega
def sp_pot (K : PySem.W.Frag) : Sp := fun vs H Q _ => ∃ (a : Addr) (ns : List Int) (k : Nat), vs = [.ref a, .int (k : Int)] ∧ SqL K H a (ns.map V.int) ∧ k ≤ 1000 ∧ ∀ H' p, Same H H' → H p = none → PotAt H' p 1000000 → Q (.ref p) H'
theorem ok_pot (D : Dfn K mg "_law_pot" s__law_pot P__law_pot) (T : TxtL mg) : Cal P w K mg base CX0 1 "_law_pot" s__law_pot P__law_pot (sp_pot K) := D.cal fun f fd F => by
  refine F.ok sc__law_pot (fun vs H Q E h => ?_) (fun cdv A outer s H vs Q E hr h => ?_)
  · obtain ⟨a, ns, k, rfl, _⟩ := h
    rfl
  · obtain ⟨a, ns, k, rfl, hS, hk, q⟩ := h
    refine ⟨_, (pss_cons (ps_set (i := 2) sc__law_pot.nd rfl (.inl rfl) pe_int)
      (pss_cons (ps_if (pt_cmpR op_lt (pv 1) (pe_callB (call_len_seqK (K := K) rfl) (by rfl) T.len PySem.boot_len (pa_cons (pv 0) pa_nil)) (nomark _)) (pss_one (ps_set (i := 2) sc__law_pot.nd rfl (.inl rfl) (pe_ix (ix_listK (K := K) rfl) (pv 0) (pv 1) (fun _ _ => rfl)))) pss_nil)
      (pss_one (ps_ret (pe_lst (pa_cons (pe_callB (call_max2 rfl) (by rfl) T.max (by decide +kernel) (pa_cons pe_int (pa_cons (pe_op op_sub (pv 2) (pe_op op_powW pe_int pe_int)) pa_nil))) (pa_cons (pe_op op_add (pe_op op_add (pe_op op_mul (pe_op op_modN (pv 2) (pe_op op_add (pe_op op_powW pe_int pe_int) pe_int)) pe_int) (pe_op op_mul pe_int (pv 1))) pe_int) (pa_cons pe_int pa_nil)))))))), ?_⟩
    have fin : ∀ cell : Int, ∀ p, H p = none → Q (.ref p) (upd H p (.lst [.int (if cell - 10 ^ (18 : Int).toNat > 0 then cell - 10 ^ (18 : Int).toNat else 0), .int (cell.fmod (10 ^ (45 : Int).toNat + 9) * 512 + 5 * k + 1), .int 0])) := by
      intro cell p np
      refine q _ p (same_new np) np ⟨_, _, _, upd_same, ?_, ?_, ?_, by omega, by omega⟩
      · split <;> omega
      · have := fmod_lt (i := cell) (j := 10 ^ (45 : Int).toNat + 9) (by rw [pow45]; omega)
        omega
      · have := fmod_lt (i := cell) (j := 10 ^ (45 : Int).toNat + 9) (by rw [pow45]; omega)
        rw [two200]
        rw [pow45] at this ⊢
        omega
    refine ⟨_, rfl, .ref a, rfl, a, _, rfl, .inl hS, _, _, rfl, rfl, _, rfl, ?_⟩
    have p18 : CPowW 10 18 := small_pow (n := 4) (by omega) (by omega) (by omega) (by omega) (by omega)
    have p45 : CPowW 10 45 := small_pow (n := 4) (by omega) (by omega) (by omega) (by omega) (by omega)
    have j0 : (10 : Int) ^ (45 : Int).toNat + 9 ≠ 0 := by rw [pow45]; omega

    show (if decide ((k : Int) < ((ns.map V.int).length : Int)) = true then _ else _)
    by_cases lt : k < ns.length
    · rw [decide_eq_true (by rw [List.length_map]; omega)]
      refine iteT ?_
      have hx : (ns.map V.int)[k]? = some (.int (ns[k]'lt)) := by rw [List.getElem?_map, List.getElem?_eq_getElem lt]; rfl
      refine ⟨.ref a, rfl, .int k, rfl, a, _, k, _, rfl, rfl, hS, atI_nat (j := k) hx, ?_⟩
      generalize ns[k]'lt = cell
      refine ⟨.int cell, rfl, 10, 18, rfl, rfl, p18, cell, _, rfl, rfl, 0, _, rfl, ?_⟩
      refine ⟨.int cell, rfl, 10, 45, rfl, rfl, p45, _, _, rfl, rfl, _, _, rfl, rfl, j0, _, _, rfl, rfl, .inr ?_, .int k, rfl, 5, k, rfl, rfl, ?_, _, _, rfl, rfl, _, _, rfl, rfl, ?_⟩
      · exact ⟨by omega, by omega⟩
      · exact .inl ⟨by omega, by omega⟩
      · exact ⟨(by show 3 ≤ sizeLine; decide), fun p np => fin cell p np⟩
    · rw [decide_eq_false (by rw [List.length_map]; omega)]
      refine iteF ?_
      refine ⟨.int 0, rfl, 10, 18, rfl, rfl, p18, 0, _, rfl, rfl, 0, _, rfl, ?_⟩
      refine ⟨.int 0, rfl, 10, 45, rfl, rfl, p45, _, _, rfl, rfl, _, _, rfl, rfl, j0, _, _, rfl, rfl, .inr ?_, .int k, rfl, 5, k, rfl, rfl, ?_, _, _, rfl, rfl, _, _, rfl, rfl, ?_⟩
      · exact ⟨by omega, by omega⟩
      · exact .inl ⟨by omega, by omega⟩
      · exact ⟨(by show 3 ≤ sizeLine; decide), fun p np => fin 0 p np⟩
def sp_dip (K : PySem.W.Frag) : Sp := fun vs H Q _ => ∃ (p : Addr) (many : Int) (n : Nat), vs = [.ref p, .int many] ∧ 0 < many ∧ many < 1073741824 ∧ PotAt H p (n + 1) ∧ ∀ H' r, Off p H H' → PotAt H' p n → 0 ≤ r → r < many → Q (.int r) H'
theorem ok_dip (D : Dfn K mg "_law_dip" s__law_dip P__law_dip) (T : TxtL mg) : Cal P w K mg base CX0 1 "_law_dip" s__law_dip P__law_dip (sp_dip K) := D.cal fun f fd F => by
  refine F.ok sc__law_dip (fun vs H Q E h => ?_) (fun cdv A outer s H vs Q E hr h => ?_)
  · obtain ⟨p, many, n, rfl, _⟩ := h
    rfl
  · obtain ⟨p, many, n, rfl, hm, hm2, ⟨a, b, c, e0, ha, hb, hb2, hc, hc2⟩, q⟩ := h
    refine ⟨_, (pss_cons (ps_if (pt_cmpR op_gt (pe_ix (ix_listK (K := K) rfl) (pv 0) pe_int (fun _ _ => rfl)) pe_int (nomark _)) (pss_cons (ps_set (i := 2) sc__law_dip.nd rfl (.inl rfl) (pe_op op_modN (pe_ix (ix_listK (K := K) rfl) (pv 0) pe_int (fun _ _ => rfl)) (pv 1)))
      (pss_cons (ps_asg (pe_op op_fdivN (pe_ix (ix_listK (K := K) rfl) (pv 0) pe_int (fun _ _ => rfl)) (pv 1)) (pg_sub (pv 0) pe_int set_list))
      (pss_one (ps_ret (pv 2))))) pss_nil)
      (pss_cons (ps_asg (pe_op op_add (pe_ix (ix_listK (K := K) rfl) (pv 0) pe_int (fun _ _ => rfl)) pe_int) (pg_sub (pv 0) pe_int set_list))
      (pss_cons (ps_set (i := 3) sc__law_dip.nd rfl (.inl rfl) (pe_op op_modN (pe_op op_powW (pe_op op_add (pe_ix (ix_listK (K := K) rfl) (pv 0) pe_int (fun _ _ => rfl)) (pe_op op_mul pe_int (pe_ix (ix_listK (K := K) rfl) (pv 0) pe_int (fun _ _ => rfl)))) pe_int) (pe_op op_add (pe_op op_powW pe_int pe_int) pe_int)))
      (pss_cons (ps_set (i := 3) sc__law_dip.nd rfl (.inl rfl) (pe_op op_modN (pe_op op_powW (pe_op op_add (pv 3) (pe_op op_mul pe_int (pe_ix (ix_listK (K := K) rfl) (pv 0) pe_int (fun _ _ => rfl)))) pe_int) (pe_op op_add (pe_op op_powW pe_int pe_int) pe_int)))
      (pss_one (ps_ret (pe_op op_modN (pe_op op_fdivN (pv 3) pe_int) (pv 1)))))))), ?_⟩
    have sl : SqL K H p [.int a, .int b, .int c] := .inl (.inl e0)
    have mz : many ≠ 0 := by omega
    refine ⟨.ref p, rfl, p, _, 0, _, rfl, rfl, sl, atI_nat (j := 0) rfl, a, 0, rfl, rfl, _, rfl, ?_⟩
    by_cases z : 0 < a
    · rw [decide_eq_true z]
      refine iteT ⟨.ref p, rfl, p, _, 0, _, rfl, rfl, sl, atI_nat (j := 0) rfl, .int many, rfl, a, many, rfl, rfl, mz, ?_⟩
      refine ⟨.ref p, rfl, p, _, 0, _, rfl, rfl, sl, atI_nat (j := 0) rfl, .int many, rfl, a, many, rfl, rfl, ⟨mz, by omega⟩, ?_⟩
      refine ⟨.ref p, rfl, p, _, 0, _, rfl, rfl, e0, rfl, ?_⟩
      refine ⟨_, rfl, ?_⟩
      obtain ⟨f0, f1⟩ := fmod_lt (i := a) hm
      exact q _ _ off_upd ⟨_, b, c, upd_same, fdiv_nn ha hm, hb, hb2, hc, by omega⟩ f0 f1
    · rw [decide_eq_false z]
      refine iteF ?_
      refine ⟨.ref p, rfl, p, _, 2, _, rfl, rfl, sl, atI_nat (j := 2) rfl, c, 1, rfl, rfl, ?_⟩
      refine ⟨.ref p, rfl, p, _, 2, _, rfl, rfl, e0, rfl, ?_⟩
      have e1 : upd H p (.lst [.int a, .int b, .int (c + 1)]) p = some (.lst [.int a, .int b, .int (c + 1)]) := upd_same
      have sl1 : SqL K (upd H p (.lst [.int a, .int b, .int (c + 1)])) p [.int a, .int b, .int (c + 1)] := .inl (.inl e1)
      have c1 : CMul 701408733 (c + 1) := .inl ⟨by omega, by omega⟩
      have c2 : CMul 512927357 (c + 1) := .inl ⟨by omega, by omega⟩
      have t41 : CPowW 10 41 := small_pow (n := 4) (by omega) (by omega) (by omega) (by omega) (by omega)
      have t42 : CPowW 10 42 := small_pow (n := 4) (by omega) (by omega) (by omega) (by omega) (by omega)
      have n41 : (10 : Int) ^ (41 : Int).toNat + 37 ≠ 0 := by rw [pow41]; omega
      have n42 : (10 : Int) ^ (42 : Int).toNat + 63 ≠ 0 := by rw [pow42]; omega
      have w3 : CPowW (b + 701408733 * (c + 1)) 3 := by
        rw [two200] at hb2
        exact small_pow (n := 201) (by omega) (by rw [two201]; omega) (by omega) (by omega) (by omega)
      refine ⟨.ref p, rfl, p, _, 1, _, rfl, rfl, sl1, atI_nat (j := 1) rfl, .ref p, rfl, p, _, 2, _, rfl, rfl, sl1, atI_nat (j := 2) rfl, _, _, rfl, rfl, c1, _, _, rfl, rfl, _, _, rfl, rfl, w3, _, _, rfl, rfl, t41, _, _, rfl, rfl, _, _, rfl, rfl, n41, ?_⟩
      have bx := fmod_lt (i := (b + 701408733 * (c + 1)) ^ (3 : Int).toNat) (j := 10 ^ (41 : Int).toNat + 37) (by rw [pow41]; omega)
      have w5 : CPowW (((b + 701408733 * (c + 1)) ^ (3 : Int).toNat).fmod (10 ^ (41 : Int).toNat + 37) + 512927357 * (c + 1)) 5 := by
        generalize ((b + 701408733 * (c + 1)) ^ (3 : Int).toNat).fmod (10 ^ (41 : Int).toNat + 37) = x at bx
        rw [pow41] at bx
        exact small_pow (n := 201) (by omega) (by rw [two201]; omega) (by omega) (by omega) (by omega)
      refine ⟨_, rfl, .ref p, rfl, p, _, 2, _, rfl, rfl, sl1, atI_nat (j := 2) rfl, _, _, rfl, rfl, c2, _, _, rfl, rfl, _, _, rfl, rfl, w5, _, _, rfl, rfl, t42, _, _, rfl, rfl, _, _, rfl, rfl, n42, ?_⟩
      refine ⟨_, rfl, _, _, rfl, rfl, ⟨by decide, by decide⟩, .int many, rfl, _, _, rfl, rfl, mz, ?_⟩
      obtain ⟨f0, f1⟩ := fmod_lt (i := (((((b + 701408733 * (c + 1)) ^ (3 : Int).toNat).fmod (10 ^ (41 : Int).toNat + 37) + 512927357 * (c + 1)) ^ (5 : Int).toNat).fmod (10 ^ (42 : Int).toNat + 63)).fdiv 131071) hm
      exact q _ _ off_upd ⟨a, b, _, e1, ha, hb, hb2, by omega, by omega⟩ f0 f1
end
end L2.Fb.Law

namespace L2.Fb.Law
open PySem PySem.Spec
open PyProof.Rows
section
variable {P : Program} {w : World} {K : PySem.W.Frag} {mg : Str → Option Value} {base : Heap}
theorem seqIdx {k n : Nat} (h : k < n) : seqIndex? (k : Int) n = some k := by
  unfold seqIndex?
  simp
  omega
def pool40 : List Str := (["an", "bo", "cy", "di", "a", "ab", "keep", "tell", "hear", "net", "none", "abcdefgh", "abcdefgi"] : List Str) ++ (["zzzzzzzz"] : List Str) ++ (("abcdefghijklmnopqrstuvwxyz" : Str).cps.toList.map fun c => ("h" : Str) ++ ⟨#[c]⟩)
theorem pool_len : pool40.length = 40 := by decide +kernel
theorem pool_ok : pool40.Nodup ∧ ∀ x ∈ pool40, nameOk x = true := by decide +kernel
theorem paired_eq {α β : Type} {f : α → β} : ∀ {xs : List α} {ys : List β}, Paired (fun x y => y = f x) xs ys → ys = xs.map f
  | _, _, .nil => rfl
  | _, _, .cons a b => by rw [a, paired_eq b]; rfl
theorem erase_perm {α : Type} : ∀ {l : List α} {k : Nat} (h : k < l.length), (l[k]'h :: l.eraseIdx k).Perm l
  | a :: l, 0, _ => .refl _
  | a :: l, k + 1, h => (List.Perm.swap ..).trans ((erase_perm (l := l) (k := k) (by simpa using h)).cons a)
theorem erase_map {α β : Type} (f : α → β) : ∀ (l : List α) (k : Nat), (l.map f).eraseIdx k = (l.eraseIdx k).map f
  | [], _ => rfl
  | _ :: _, 0 => rfl
  | a :: l, k + 1 => congrArg (f a :: ·) (erase_map f l k)
def sp_names (K : PySem.W.Frag) : Sp := fun vs H Q _ => ∃ (p : Addr) (many n : Nat), vs = [.ref p, .int (many : Int)] ∧ many ≤ 40 ∧ PotAt H p (n + many) ∧
  ∀ H' l (ns : List Str), Off p H H' → PotAt H' p n → H l = none → H' l = some (.lst (ns.map V.str)) → ns.length = many → ns.Nodup → (∀ x ∈ ns, nameOk x = true) → Q (.ref l) H'
theorem ok_names (D : Dfn K mg "_law_names" s__law_names P__law_names) (T : TxtL mg) (C__law_dip : Cal P w K mg base CX0 1 "_law_dip" s__law_dip P__law_dip (sp_dip K)) : Cal P w K mg base CX0 2 "_law_names" s__law_names P__law_names (sp_names K) := D.cal fun f fd F => by
  refine F.ok sc__law_names (fun vs H Q E h => ?_) (fun cdv A outer s H vs Q E hr h => ?_)
  · obtain ⟨p, many, n, rfl, _⟩ := h
    rfl
  · obtain ⟨p, many, n, rfl, hm, hP, q⟩ := h
    refine ⟨_, (pss_cons (ps_set (i := 2) sc__law_names.nd rfl (.inr rfl) (pe_lst (pa_cons pe_str (pa_cons pe_str (pa_cons pe_str (pa_cons pe_str (pa_cons pe_str (pa_cons pe_str (pa_cons pe_str (pa_cons pe_str (pa_cons pe_str (pa_cons pe_str (pa_cons pe_str (pa_cons pe_str (pa_cons pe_str pa_nil)))))))))))))))
      (pss_cons (ps_set (i := 2) sc__law_names.nd rfl (.inr rfl) (pe_op op_cat (pe_op op_cat (pv 2) (pe_lst (pa_cons pe_str pa_nil))) (pe_lc (own := [("sign", 3)]) (g := (gName 3)) rfl sc__law_names.nd (pi_str pe_str) (blkOk_by (own := [("sign", 3)]) (N := N__law_names) (sc := defScope s__law_names) (by decide +kernel)) (fun _ _ _ _ _ => pg_name (i := 3) sc__law_names.nd rfl (.inl rfl)) (fun _ _ _ _ _ => pts_nil) (fun _ _ _ _ _ => (pe_op op_add_str pe_str (pv 3))))))
      (pss_one (ps_ret (pe_lc (own := [("turn", 4)]) (g := (gName 4)) rfl sc__law_names.nd (pi_range1 (by rfl) T.range (pa_cons (pv 1) pa_nil)) (blkOk_by (own := [("turn", 4)]) (N := N__law_names) (sc := defScope s__law_names) (by decide +kernel)) (fun _ _ _ _ _ => pg_name (i := 4) sc__law_names.nd rfl (.inl rfl)) (fun _ _ _ _ _ => pts_nil) (fun _ _ _ _ _ => (pe_bmK (K := K) rfl PySem.F.plainAttrs_list PySem.F.slot_list_pop PySem.F.type_list_pop mt_popAt (pv 2) (pa_cons (pe_callC C__law_dip (hr.mono (by decide)) rfl pass0 (pa_cons (pv 0) (pa_cons (pe_callB (call_len_seqK (K := K) rfl) (by rfl) T.len PySem.boot_len (pa_cons (pv 2) pa_nil)) pa_nil))) pa_nil)))))))), ?_⟩
    refine ⟨by show 13 ≤ sizeLine; decide, fun a0 n0 => ?_⟩
    refine ⟨.ref a0, rfl, by show 1 ≤ sizeLine; decide, fun a1 n1 => ⟨a0, a1, _, _, rfl, rfl, (same_new n1) _ _ upd_same, upd_same, by show 14 ≤ sizeLine; decide, fun a2 n2 => ?_⟩⟩
    refine ⟨_, rfl, fun D nD => ?_⟩
    refine lc_fm walk_str ("abcdefghijklmnopqrstuvwxyz" : Str).cps.toList (fun c => some (("h" : Str) ++ ⟨#[c]⟩)) (fun x y _ => y = .str x) nD (by decide +kernel) (by decide +kernel) (fun _ _ => trivial) (fun _ _ _ _ _ r => r) ?_ ?_
    · rintro i c y H1 H2 hc sm ⟨zs, eD⟩ ⟨rfl, c', hc', rfl⟩ KK NN k n
      have ec : c' = c := by
        rw [← Array.getElem?_toList, hc] at hc'
        exact (Option.some.inj hc').symm
      subst ec
      refine ⟨rfl, yes_go ⟨_, rfl, _, _, rfl, rfl, by show 2 ≤ sizeLine; decide, k _ _ _ rfl (.refl _) rfl⟩⟩
    · intro H1 ys sm eD pr
      have e1 := paired_eq pr
      rw [List.filterMap_eq_map'] at e1
      refine ⟨a2, D, _, _, rfl, rfl, sm _ _ upd_same, eD, ?_, fun a3 n3 => ?_⟩
      · rw [e1, List.length_map, List.length_map]
        show 14 + 26 ≤ sizeLine
        decide
      have eP : ([V.str "an", V.str "bo", V.str "cy", V.str "di", V.str "a", V.str "ab", V.str "keep", V.str "tell", V.str "hear", V.str "net", V.str "none", V.str "abcdefgh", V.str "abcdefgi"] ++ [V.str "zzzzzzzz"]) ++ ys = pool40.map V.str := by
        rw [e1, pool40, List.map_append]
        rfl
      have s4 : Same H (upd H1 a3 (.lst (pool40.map V.str))) := ((((same_new n0).trans (same_new n1)).trans (same_new n2)).trans sm).trans (same_new n3)
      have f3 : H a3 = none := (((same_new n0).trans (same_new n1)).trans (same_new n2)).trans sm |>.free n3
      have e3 : upd H1 a3 (.lst (pool40.map V.str)) a3 = some (.lst (pool40.map V.str)) := upd_same
      rw [eP]
      generalize upd H1 a3 (.lst (pool40.map V.str)) = H4 at s4 e3
      refine ⟨.int many, rfl, many, rfl, by omega, by omega, fun M nM => ?_⟩
      have fM : H M = none := s4.free nM
      have hP4 : PotAt H4 p (n + many) := hP.off fun u q => s4 _ _ q
      obtain ⟨x0, y0, z0, pe, _⟩ := hP
      have p3 : p ≠ a3 := fun z => by rw [z, f3] at pe; cases pe
      have pM : p ≠ M := fun z => by rw [z, fM] at pe; cases pe
      have a3M : a3 ≠ M := fun z => by rw [z, nM] at e3; cases e3
      refine lc_it walk_range (fun i H' => ∃ made rest : List Str, made.length = i ∧ (made ++ rest).Perm pool40 ∧ H' M = some (.lst (made.map V.str)) ∧ H' a3 = some (.lst (rest.map V.str)) ∧ PotAt H' p (n + (many - i)) ∧ ∀ b u, b ≠ p → H b = some u → H' b = some u) ?_ (fun _ _ _ _ => trivial) ?_ ?_
      · exact ⟨[], pool40, rfl, .refl _, upd_same, by rw [upd_ne a3M]; exact e3, hP4.off fun u q => by rw [upd_ne pM]; exact q, fun b u z q => by rw [upd_ne fun z => by rw [z, fM] at q; cases q]; exact s4 _ _ q⟩
      · rintro i x H' H'' hi ⟨made, rest, ml, perm, eM, eR, pot, off⟩ y
        have lr : rest.length = 40 - i := by
          have := perm.length_eq
          rw [List.length_append, pool_len] at this
          omega
        obtain ⟨rfl, rfl⟩ := y
        refine ⟨rfl, yes_go ⟨.ref a3, rfl, .inl ⟨rfl, _, .inl (.inl eR)⟩, .ref p, rfl, .ref a3, rfl, a3, _, rfl, .inl (.inl (.inl eR)), p, _, n + (many - (i + 1)), rfl, ?_, ?_, ?_, fun H2 r o pot2 r0 r1 => ?_⟩⟩
        · rw [List.length_map]
          omega
        · rw [List.length_map]
          omega
        · exact pot.less (by omega)
        rw [List.length_map] at r1
        obtain ⟨k, rfl⟩ := Int.eq_ofNat_of_zero_le r0
        have hk : k < rest.length := by omega
        have e3' := o _ _ p3.symm eR
        have eM' := o _ _ pM.symm eM
        refine ⟨a3, _, _, k, .str (rest[k]'hk), rfl, rfl, e3', by omega, by omega, by rw [List.length_map]; exact seqIdx hk, by rw [List.getElem?_map, List.getElem?_eq_getElem hk]; rfl, made.map V.str, by rw [upd_ne a3M.symm]; exact eM', ?_, made ++ [rest[k]'hk], rest.eraseIdx k, by rw [List.length_append, ml]; rfl, ?_, ?_, ?_, ?_, ?_⟩
        · rw [List.length_map, ml]
          have : 50000 < sizeLine := by decide
          omega
        · refine .trans ?_ perm
          rw [List.append_assoc]
          exact List.Perm.append_left _ (erase_perm hk)
        · rw [List.map_append]
          exact upd_same
        · rw [upd_ne a3M, upd_same, erase_map]
        · exact pot2.off fun u q => by rw [upd_ne pM, upd_ne p3]; exact q
        · intro b u z q
          rw [upd_ne (fun z => by rw [z, fM] at q; cases q), upd_ne (fun z => by rw [z, f3] at q; cases q)]
          exact o _ _ z (off _ _ z q)
      · rintro H' ⟨made, rest, ml, perm, eM, eR, pot, off⟩
        have nd := perm.nodup_iff.mpr pool_ok.1
        exact q H' M made off (pot.less (by omega)) fM eM ml (List.nodup_append.mp nd).1 fun x m => pool_ok.2 x (perm.mem_iff.mp (List.mem_append_left _ m))
end
end L2.Fb.Law

namespace L2.Fb.Law
open PySem PySem.Spec
open PyProof.Rows
/-! ### a past grown deed by deed -/
def addD : Past → Nat → Deed → Past
  | [], _, _ => []
  | (h, r) :: p, 0, d => (h, r ++ [d]) :: p
  | q :: p, k + 1, d => q :: addD p k d
theorem addD_names : ∀ (p : Past) (k : Nat) (d : Deed), (addD p k d).map (·.1) = p.map (·.1)
  | [], _, _ => rfl
  | (h, r) :: p, 0, d => rfl
  | q :: p, k + 1, d => congrArg (q.1 :: ·) (addD_names p k d)
theorem addD_flat {β : Type} {f : Str × List Deed → List β} {g : Str → Deed → List β} (hf : ∀ h r d, f (h, r ++ [d]) = f (h, r) ++ g h d) : ∀ {p : Past} {k : Nat} {d : Deed} {q : Str × List Deed}, p[k]? = some q → ((addD p k d).flatMap f).Perm (p.flatMap f ++ g q.1 d)
  | [], _, _, _, e => by simp at e
  | (h, r) :: p, 0, d, q, e => by
    cases (Option.some.inj (show some _ = some q from e))
    show (f (h, r ++ [d]) ++ p.flatMap f).Perm (f (h, r) ++ p.flatMap f ++ g h d)
    rw [hf, List.append_assoc, List.append_assoc]
    exact List.Perm.append_left _ List.perm_append_comm
  | x :: p, k + 1, d, q, e => by
    have ih := addD_flat hf (p := p) (k := k) (d := d) (q := q) (show p[k]? = some q from e)
    show (f x ++ (addD p k d).flatMap f).Perm (f x ++ p.flatMap f ++ g q.1 d)
    rw [List.append_assoc]
    exact List.Perm.append_left _ ih
theorem addD_told {p : Past} {k : Nat} {d : Deed} {q : Str × List Deed} (e : p[k]? = some q) : (toldP (addD p k d)).Perm (toldP p ++ (tellL d).toList) :=
  addD_flat (f := fun q => toldR q.2) (g := fun _ d => (tellL d).toList) (fun h r d => by
    show (r ++ [d]).filterMap tellL = r.filterMap tellL ++ _
    rw [List.filterMap_append]
    cases d <;> rfl) e
theorem addD_tells {p : Past} {k : Nat} {d : Deed} {q : Str × List Deed} (e : p[k]? = some q) : (tellsP (addD p k d)).Perm (tellsP p ++ (tellT d).toList) :=
  addD_flat (f := fun q => q.2.filterMap tellT) (g := fun _ d => (tellT d).toList) (fun h r d => by
    show (r ++ [d]).filterMap tellT = r.filterMap tellT ++ _
    rw [List.filterMap_append]
    cases d <;> rfl) e
theorem addD_hears {p : Past} {k : Nat} {d : Deed} {q : Str × List Deed} (e : p[k]? = some q) : (hearsP (addD p k d)).Perm (hearsP p ++ (hearT q.1 d).toList) :=
  addD_flat (f := hearsR) (g := fun h d => (hearT h d).toList) (fun h r d => by
    show (r ++ [d]).filterMap (hearT h) = r.filterMap (hearT h) ++ _
    rw [List.filterMap_append]
    cases d <;> rfl) e
theorem addD_sum : ∀ (p : Past) (k : Nat) (d : Deed), ((addD p k d).map fun q => q.2.length).sum ≤ (p.map fun q => q.2.length).sum + 1
  | [], _, _ => by simp [addD]
  | (h, r) :: p, 0, d => by
    show ((h, r ++ [d]) :: p |>.map fun q => q.2.length).sum ≤ _
    simp only [List.map_cons, List.sum_cons, List.length_append, List.length_singleton]
    omega
  | q :: p, k + 1, d => by
    have := addD_sum p k d
    show (q :: addD p k d |>.map fun q => q.2.length).sum ≤ _
    simp only [List.map_cons, List.sum_cons]
    omega
theorem addD_mem : ∀ {p : Past} {k : Nat} {d : Deed} {q x : Str × List Deed}, p[k]? = some q → x ∈ addD p k d → ∀ y ∈ x.2, (∃ x' ∈ p, x'.1 = x.1 ∧ y ∈ x'.2) ∨ (x.1 = q.1 ∧ y = d)
  | [], _, _, _, _, e, _, _, _ => by simp at e
  | (h, r) :: p, 0, d, q, x, e, m, y, my => by
    cases (Option.some.inj (show some _ = some q from e))
    rcases List.mem_cons.mp m with rfl | m
    · rcases List.mem_append.mp my with a | a
      · exact .inl ⟨(h, r), List.mem_cons_self .., rfl, a⟩
      · exact .inr ⟨rfl, List.mem_singleton.mp a⟩
    · exact .inl ⟨x, List.mem_cons_of_mem _ m, rfl, my⟩
  | z :: p, k + 1, d, q, x, e, m, y, my => by
    rcases List.mem_cons.mp m with xz | m
    · exact .inl ⟨z, List.mem_cons_self .., by rw [xz], by rw [xz] at my; exact my⟩
    · rcases addD_mem (p := p) (k := k) (show p[k]? = some q from e) m y my with ⟨a, b, c⟩ | c
      · exact .inl ⟨a, List.mem_cons_of_mem _ b, c⟩
      · exact .inr c
theorem addD_at : ∀ {p : Past} {k : Nat} {d : Deed} {q : Str × List Deed}, p[k]? = some q → (addD p k d)[k]? = some (q.1, q.2 ++ [d])
  | [], _, _, _, e => by simp at e
  | (h, r) :: p, 0, d, q, e => by
    cases (Option.some.inj (show some _ = some q from e))
    rfl
  | z :: p, k + 1, d, q, e => addD_at (p := p) (k := k) (show p[k]? = some q from e)
theorem addD_ne : ∀ {p : Past} {k i : Nat} {d : Deed}, i ≠ k → (addD p k d)[i]? = p[i]?
  | [], _, _, _, _ => rfl
  | (h, r) :: p, 0, 0, d, e => absurd rfl e
  | (h, r) :: p, 0, i + 1, d, e => rfl
  | z :: p, k + 1, 0, d, e => rfl
  | z :: p, k + 1, i + 1, d, e => addD_ne (p := p) (k := k) (i := i) fun h => e (by rw [h])
theorem addD_rows {p : Past} (nd : (p.map (·.1)).Nodup) {k : Nat} {d : Deed} {q : Str × List Deed} (e : p[k]? = some q) (h : Str) : rowsOf (addD p k d) h = if h = q.1 then rowsOf p h ++ [d] else rowsOf p h := by
  have nd' : ((addD p k d).map (·.1)).Nodup := by rw [addD_names]; exact nd
  by_cases z : h = q.1
  · rw [if_pos z, z]
    have m := List.mem_of_getElem? (addD_at (d := d) e)
    have h1 := rowsOf_mem nd' m
    have h2 := rowsOf_mem nd (List.mem_of_getElem? e)
    rw [h1, h2]
  · rw [if_neg z]
    by_cases mh : h ∈ p.map (·.1)
    · obtain ⟨x, mx, rfl⟩ := List.mem_map.mp mh
      obtain ⟨i, hi⟩ := List.mem_iff_getElem?.mp mx
      have ne : i ≠ k := fun y => by
        rw [y, e] at hi
        cases Option.some.inj hi
        exact z rfl
      have m' : x ∈ addD p k d := List.mem_of_getElem? (by rw [addD_ne ne]; exact hi)
      rw [rowsOf_mem nd' m', rowsOf_mem nd mx]
    · have no : ∀ {p' : Past}, h ∉ p'.map (·.1) → rowsOf p' h = [] := fun {p'} hn => by
        unfold rowsOf look
        have : (p'.find? fun q => decide (q.1 = h)) = none := by
          rw [List.find?_eq_none]
          intro x mx
          simp only [decide_eq_true_eq]
          exact fun y => hn (List.mem_map.mpr ⟨x, mx, y⟩)
        rw [this]
        rfl
      rw [no mh, no (by rw [addD_names]; exact mh)]
/-- what stands after n turns: L tells the letters of turns -/
structure Grow (ns : List Str) (L : Nat → Int) (n : Nat) (pa : Past) (ly : List (Int × Str)) : Prop where
  names : pa.map (·.1) = ns
  deeds : ∀ q ∈ pa, ∀ x ∈ q.2, DeedGood ns q.1 x
  told : (toldP pa).Nodup
  from_ : ∀ l ∈ toldP pa, ∃ j, j < n ∧ l = L j
  lying : (hearsP pa ++ ly).Perm (tellsP pa)
  few : (pa.map fun q => q.2.length).sum ≤ n
  timed : ∃ t : Str → Nat → Nat, (∀ h i, i < (rowsOf pa h).length → t h i < n) ∧ (∀ h i j, i < j → j < (rowsOf pa h).length → t h i < t h j) ∧
    ∀ (h : Str) (l : Int) (j : Nat), h ∈ ns → (rowsOf pa h)[j]? = some (Deed.hear l) → ∃ h' ∈ ns, ∃ (j' : Nat), (rowsOf pa h')[j']? = some (Deed.tell l h) ∧ t h' j' < t h j
variable {ns : List Str} {L : Nat → Int} {n : Nat} {pa : Past} {ly : List (Int × Str)}
theorem Grow.skip (G : Grow ns L n pa ly) : Grow ns L (n + 1) pa ly where
  names := G.names
  deeds := G.deeds
  told := G.told
  from_ := fun l m => let ⟨j, h, e⟩ := G.from_ l m; ⟨j, by omega, e⟩
  lying := G.lying
  few := by have := G.few; omega
  timed := let ⟨t, a, b, c⟩ := G.timed; ⟨t, fun h i q => by have := a h i q; omega, b, c⟩
/-- one deed more, its time n -/
theorem Grow.times (G : Grow ns L n pa ly) (nd : ns.Nodup) {k : Nat} {d : Deed} {q : Str × List Deed} (e : pa[k]? = some q) (hq : ∀ l, d = .hear l → (l, q.1) ∈ tellsP pa) :
    ∃ t : Str → Nat → Nat, (∀ h i, i < (rowsOf (addD pa k d) h).length → t h i < n + 1) ∧ (∀ h i j, i < j → j < (rowsOf (addD pa k d) h).length → t h i < t h j) ∧
    ∀ (h : Str) (l : Int) (j : Nat), h ∈ ns → (rowsOf (addD pa k d) h)[j]? = some (Deed.hear l) → ∃ h' ∈ ns, ∃ (j' : Nat), (rowsOf (addD pa k d) h')[j']? = some (Deed.tell l h) ∧ t h' j' < t h j := by
  obtain ⟨t, a, b, c⟩ := G.timed
  have nd' : (pa.map (·.1)).Nodup := by rw [G.names]; exact nd
  have R := fun h => addD_rows nd' (d := d) e h
  have old : ∀ {h i x}, (rowsOf pa h)[i]? = some x → (rowsOf (addD pa k d) h)[i]? = some x ∧ i < (rowsOf pa h).length := fun {h i x} hx => by
    have lt : i < (rowsOf pa h).length := (List.getElem?_eq_some_iff.mp hx).1
    refine ⟨?_, lt⟩
    rw [R]
    split
    · rw [List.getElem?_append_left lt]
      exact hx
    · exact hx
  refine ⟨fun h i => if i < (rowsOf pa h).length then t h i else n, fun h i q => ?_, fun h i j lt q => ?_, fun h l j m hx => ?_⟩
  · show (if _ then _ else _) < n + 1
    split
    · rename_i z
      have := a h i z
      omega
    · omega
  · show (if _ then _ else _) < (if _ then _ else _)
    have len : (rowsOf (addD pa k d) h).length ≤ (rowsOf pa h).length + 1 := by
      rw [R]
      split <;> simp
    by_cases z : j < (rowsOf pa h).length
    · rw [if_pos z, if_pos (by omega)]
      exact b h i j lt z
    · rw [if_neg z, if_pos (by omega)]
      exact a h i (by omega)
  · by_cases z : j < (rowsOf pa h).length
    · have hx' : (rowsOf pa h)[j]? = some (.hear l) := by
        rw [R] at hx
        by_cases y : h = q.1
        · rw [if_pos y, List.getElem?_append_left z] at hx
          exact hx
        · rw [if_neg y] at hx
          exact hx
      obtain ⟨h', m', j', e', lt⟩ := c h l j m hx'
      obtain ⟨o1, o2⟩ := old e'
      refine ⟨h', m', j', o1, ?_⟩
      show (if _ then _ else _) < (if _ then _ else _)
      rw [if_pos z, if_pos o2]
      exact lt
    · have y : h = q.1 := by
        by_cases y : h = q.1
        · exact y
        · rw [R, if_neg y] at hx
          exact absurd (List.getElem?_eq_some_iff.mp hx).1 z
      rw [R, if_pos y, List.getElem?_append_right (by omega)] at hx
      have dl : d = .hear l := by
        have := List.mem_of_getElem? hx
        exact (List.mem_singleton.mp this).symm
      obtain ⟨h', m', j', e'⟩ := (mem_tells nd').mp (hq l dl)
      obtain ⟨o1, o2⟩ := old e'
      refine ⟨h', by rw [← G.names]; exact m', j', by rw [y]; exact o1, ?_⟩
      show (if _ then _ else _) < (if _ then _ else _)
      rw [if_neg z, if_pos o2]
      exact a h' j' o2
theorem Grow.keep (G : Grow ns L n pa ly) (nd : ns.Nodup) {k : Nat} {q : Str × List Deed} (e : pa[k]? = some q) : Grow ns L (n + 1) (addD pa k .keep) ly where
  names := by rw [addD_names]; exact G.names
  deeds := fun x m y my => (addD_mem e m y my).elim (fun ⟨x', m', e1, m2⟩ => e1 ▸ G.deeds x' m' y m2) fun ⟨_, e2⟩ => by rw [e2]; trivial
  told := ((addD_told e).trans (by rw [show (tellL .keep).toList = [] from rfl, List.append_nil])).nodup_iff.mpr G.told
  from_ := fun l m => by
    have m := (addD_told e).mem_iff.mp m
    rw [show (tellL .keep).toList = [] from rfl, List.append_nil] at m
    obtain ⟨j, h, e⟩ := G.from_ l m
    exact ⟨j, by omega, e⟩
  lying := by
    have h1 := addD_hears (d := .keep) e
    have h2 := addD_tells (d := .keep) e
    rw [show (hearT q.1 .keep).toList = [] from rfl, List.append_nil] at h1
    rw [show (tellT .keep).toList = [] from rfl, List.append_nil] at h2
    exact ((h1.append_right ly).trans G.lying).trans h2.symm
  few := by have := G.few; have := addD_sum pa k .keep; omega
  timed := G.times nd e fun l z => by cases z
theorem Grow.hear (G : Grow ns L n pa ly) (nd : ns.Nodup) {k i : Nat} {l : Int} {q : Str × List Deed} (e : pa[k]? = some q) (hi : i < ly.length) (hl : ly[i]'hi = (l, q.1)) : Grow ns L (n + 1) (addD pa k (.hear l)) (ly.eraseIdx i) := by
  have ml : (l, q.1) ∈ tellsP pa := G.lying.mem_iff.mp (List.mem_append_right _ (by rw [← hl]; exact List.getElem_mem hi))
  have l0 : 0 ≤ l := by
    obtain ⟨x, mx, hx⟩ := List.mem_flatMap.mp ml
    obtain ⟨d, md, ed⟩ := List.mem_filterMap.mp hx
    have g := G.deeds x mx d md
    cases d with
    | keep => cases ed
    | hear _ => cases ed
    | tell l' h' =>
      cases ed
      exact g.1
  refine ⟨by rw [addD_names]; exact G.names, fun x m y my => (addD_mem e m y my).elim (fun ⟨x', m', e1, m2⟩ => e1 ▸ G.deeds x' m' y m2) fun ⟨_, e2⟩ => by rw [e2]; exact l0, ?_, fun l' m => ?_, ?_, by have := G.few; have := addD_sum pa k (.hear l); omega, G.times nd e fun l' z => by cases z; exact ml⟩
  · have h1 := addD_told (d := .hear l) e
    rw [show (tellL (.hear l)).toList = [] from rfl, List.append_nil] at h1
    exact h1.nodup_iff.mpr G.told
  · have h1 := addD_told (d := .hear l) e
    rw [show (tellL (.hear l)).toList = [] from rfl, List.append_nil] at h1
    obtain ⟨j, h, e⟩ := G.from_ l' (h1.mem_iff.mp m)
    exact ⟨j, by omega, e⟩
  · have h1 := addD_hears (d := .hear l) e
    have h2 := addD_tells (d := .hear l) e
    rw [show (tellT (.hear l)).toList = [] from rfl, List.append_nil] at h2
    refine .trans ?_ (G.lying.trans h2.symm)
    refine (h1.append_right _).trans ?_
    rw [List.append_assoc]
    refine List.Perm.append_left _ ?_
    have := erase_perm hi
    rw [hl] at this
    exact this
theorem Grow.tell (G : Grow ns L n pa ly) (nd : ns.Nodup) {k : Nat} {o : Str} {q : Str × List Deed} (e : pa[k]? = some q) (l0 : 0 ≤ L n) (fresh : ∀ j, j < n → L j ≠ L n) (ok : nameOk o = true) (mo : o ∈ ns) (ne : o ≠ q.1) : Grow ns L (n + 1) (addD pa k (.tell (L n) o)) (ly ++ [(L n, o)]) := by
  have h1 := addD_told (d := .tell (L n) o) e
  refine ⟨by rw [addD_names]; exact G.names, fun x m y my => (addD_mem e m y my).elim (fun ⟨x', m', e1, m2⟩ => e1 ▸ G.deeds x' m' y m2) fun ⟨e1, e2⟩ => by rw [e2]; exact ⟨l0, ok, mo, by rw [e1]; exact ne⟩, ?_, fun l' m => ?_, ?_, by have := G.few; have := addD_sum pa k (.tell (L n) o); omega, G.times nd e fun l' z => by cases z⟩
  · refine h1.nodup_iff.mpr ?_
    rw [List.nodup_append]
    refine ⟨G.told, by simp [tellL], fun a ma b mb => ?_⟩
    cases (List.mem_singleton.mp mb)
    obtain ⟨j, lt, e⟩ := G.from_ a ma
    rw [e]
    exact fresh j lt
  · rcases List.mem_append.mp (h1.mem_iff.mp m) with m | m
    · obtain ⟨j, h, e⟩ := G.from_ l' m
      exact ⟨j, by omega, e⟩
    · exact ⟨n, by omega, List.mem_singleton.mp m⟩
  · have h1 := addD_hears (d := .tell (L n) o) e
    have h2 := addD_tells (d := .tell (L n) o) e
    rw [show (hearT q.1 (.tell (L n) o)).toList = [] from rfl, List.append_nil] at h1
    refine .trans ?_ h2.symm
    rw [← List.append_assoc]
    exact List.Perm.append_right _ ((h1.append_right _).trans G.lying)
theorem total_perm (rows : Str → List Deed) {xs ys : List Str} (h : xs.Perm ys) : total rows xs = total rows ys := by
  unfold total
  induction h with
  | nil => rfl
  | cons x _ ih => simp only [List.map_cons, List.sum_cons, ih]
  | swap x y l => simp only [List.map_cons, List.sum_cons]; omega
  | trans _ _ a b => exact a.trans b
theorem Grow.good (G : Grow ns L n pa ly) (nd : ns.Nodup) (some : 1 ≤ ns.length) (few : ns.length ≤ 40) (ok : ∀ x ∈ ns, nameOk x = true) : GoodP pa := by
  have len : pa.length = ns.length := by rw [← G.names, List.length_map]
  have nd' : (pa.map (·.1)).Nodup := by rw [G.names]; exact nd
  have ho : HeardOnce pa := by
    refine ⟨fun x m => G.lying.mem_iff.mp (List.mem_append_left _ m), ?_⟩
    have h1 : ((hearsP pa ++ ly).map (·.1)).Nodup := (G.lying.map _).nodup_iff.mpr (by rw [tells_fst]; exact G.told)
    rw [List.map_append] at h1
    exact (List.nodup_append.mp h1).1
  refine ⟨by omega, by omega, nd', fun q m => ok _ (by rw [← G.names]; exact List.mem_map.mpr ⟨q, m, rfl⟩), by rw [G.names]; exact G.deeds, G.told, ho, fun ys perm srt => ?_⟩
  have F := fit_of nd' G.told ho
  have F' : Fit (rowsOf pa) ys := ⟨fun l h k h' k' j j' m m' => F.1 l h k h' k' j j' (perm.mem_iff.mp m) (perm.mem_iff.mp m'), fun h l j m e => let ⟨a, b, c⟩ := F.2 h l j (perm.mem_iff.mp m) e; ⟨a, perm.mem_iff.mpr b, c⟩⟩
  have T' : Timed (rowsOf pa) ys := by
    obtain ⟨t, a, b, c⟩ := G.timed
    rw [G.names] at perm
    exact ⟨t, b, fun h l j m e => let ⟨x, y, z⟩ := c h l j (perm.mem_iff.mp m) e; ⟨x, perm.mem_iff.mpr y, z⟩⟩
  rw [found_length (perm.nodup_iff.mpr nd') F' T']
  exact total_perm _ perm
theorem Grow.zero (ns : List Str) (L : Nat → Int) : Grow ns L 0 (ns.map fun x => (x, [])) [] := by
  have nil : ∀ {β : Type} (f : Str × List Deed → List β), (∀ x, f (x, []) = []) → (ns.map fun x => ((x, []) : Str × List Deed)).flatMap f = [] := fun f hf => by
    rw [List.flatMap_map]
    exact List.flatMap_eq_nil_iff.mpr fun x _ => hf x
  have nl : toldP (ns.map fun x => (x, [])) = [] := nil _ fun _ => rfl
  have rw0 : ∀ h, rowsOf (ns.map fun x => ((x, []) : Str × List Deed)) h = [] := fun h => by
    unfold rowsOf look
    cases e : (ns.map fun x => ((x, []) : Str × List Deed)).find? fun q => decide (q.1 = h) with
    | none => rfl
    | some q =>
      obtain ⟨x, _, rfl⟩ := List.mem_map.mp (List.mem_of_find?_eq_some e)
      rfl
  refine ⟨?_, fun q m x mx => ?_, ?_, fun l m => ?_, ?_, ?_, fun _ _ => 0, fun h i q => ?_, fun h i j _ q => ?_, fun h l j _ e => ?_⟩
  · rw [List.map_map]
    exact List.map_id _
  · obtain ⟨y, _, rfl⟩ := List.mem_map.mp m
    cases mx
  · rw [nl]; exact .nil
  · rw [nl] at m; cases m
  · rw [show hearsP (ns.map fun x => (x, [])) = [] from nil _ fun _ => rfl, show tellsP (ns.map fun x => (x, [])) = [] from nil _ fun _ => rfl]
    exact .refl _
  · rw [List.map_map]
    have : ∀ (l : List Str), (l.map ((fun q : Str × List Deed => q.2.length) ∘ fun x => (x, []))).sum = 0 := by
      intro l
      induction l with
      | nil => rfl
      | cons a l ih => rw [List.map_cons, List.sum_cons, ih]; rfl
    rw [this]
    omega
  · rw [rw0] at q; cases q
  · rw [rw0] at q; cases q
  · rw [rw0] at e; cases e
end L2.Fb.Law

namespace L2.Fb.Law
open PySem PySem.Spec
open PyProof.Rows
/-! ### rows of one's own, that are changed -/
variable {K : PySem.W.Frag} {H H' : Hp}
def kvN : List Str → List Addr → List (Key × V)
  | x :: xs, b :: bs => (.inr x, .ref b) :: kvN xs bs
  | _, _ => []
/-- each deed a tuple that is tracked -/
inductive AllT (H : Hp) : List V → List Deed → Prop
  | nil : AllT H [] []
  | cons {t : Addr} {xs : List V} {d : Deed} {r : List Deed} : H t = some (.tup (deedV d)) → AllT H xs r → AllT H (.ref t :: xs) (d :: r)
structure RowX (K : PySem.W.Frag) (H : Hp) (xs : List V) (r : List Deed) : Prop where
  dl : DaL K H xs (r.map deedD)
  ex : AllT H xs r
inductive RowsA (K : PySem.W.Frag) (H : Hp) : List Addr → Past → Prop
  | nil : RowsA K H [] []
  | cons {b : Addr} {bs : List Addr} {h : Str} {r : List Deed} {p : Past} {xs : List V} : H b = some (.lst xs) → RowX K H xs r → RowsA K H bs p → RowsA K H (b :: bs) ((h, r) :: p)
structure RowsAt (K : PySem.W.Frag) (H : Hp) (r : Addr) (bs : List Addr) (pa : Past) : Prop where
  dict : H r = some (.dK (kvN (pa.map (·.1)) bs))
  nd : bs.Nodup
  rows : RowsA K H bs pa
theorem kvN_keys : ∀ {ns : List Str} {bs : List Addr}, ns.length = bs.length → (kvN ns bs).map (·.1) = ns.map Sum.inr
  | [], [], _ => rfl
  | x :: ns, b :: bs, h => congrArg (Sum.inr x :: ·) (kvN_keys (by simpa using h))
theorem kvN_at : ∀ {ns : List Str} {bs : List Addr} {k : Nat} {x : Str} {b : Addr}, ns[k]? = some x → bs[k]? = some b → (kvN ns bs)[k]? = some (.inr x, .ref b)
  | [], _, _, _, _, h, _ => by simp at h
  | _ :: _, [], _, _, _, _, h => by simp at h
  | y :: ns, c :: bs, 0, x, b, h, h' => by
    cases (Option.some.inj (show some _ = some x from h))
    cases (Option.some.inj (show some _ = some b from h'))
    rfl
  | y :: ns, c :: bs, k + 1, x, b, h, h' => kvN_at (ns := ns) (bs := bs) (k := k) h h'
theorem kvN_val {ns : List Str} {bs : List Addr} (nd : ns.Nodup) (len : ns.length = bs.length) {k : Nat} {x : Str} {b : Addr} (h : ns[k]? = some x) (h' : bs[k]? = some b) : valV (kvN ns bs) (.inr x) = some (.ref b) :=
  valV_nodup (by rw [kvN_keys len]; exact List.Pairwise.map _ (fun a b h e => h (by injection e)) nd) (kvN_at h h')
theorem mergeK_new : ∀ (ks acc : List (Key × V)), (acc ++ ks |>.map (·.1)).Nodup → mergeK acc ks = acc ++ ks
  | [], acc, _ => (List.append_nil acc).symm
  | (k, v) :: ks, acc, nd => by
    have nin : (acc.any fun kv => decide (kv.1 = k)) = false := by
      rw [List.any_eq_false]
      intro x mx
      simp only [decide_eq_true_eq]
      intro e
      rw [List.map_append, List.nodup_append] at nd
      exact nd.2.2 _ (List.mem_map.mpr ⟨x, mx, rfl⟩) k (List.mem_cons_self ..) e
    show mergeK (putK acc k v) ks = _
    have e : putK acc k v = acc ++ [(k, v)] := by
      unfold putK
      rw [if_neg (by rw [nin]; exact Bool.false_ne_true)]
    rw [e, mergeK_new ks _ (by rw [List.append_assoc]; exact nd), List.append_assoc]
    rfl
theorem mergeK_kvN {ns : List Str} {bs : List Addr} (nd : ns.Nodup) (len : ns.length = bs.length) : mergeK [] (kvN ns bs) = kvN ns bs :=
  mergeK_new _ [] (by rw [List.nil_append, kvN_keys len]; exact List.Pairwise.map _ (fun a b h e => h (by injection e)) nd)
theorem sqt_offl {p t : Addr} {zs ys : List V} (hp : H p = some (.lst zs)) (o : Off p H H') (h : SqT K H t ys) : SqT K H' t ys := by
  rcases h with (h | ⟨od, h⟩) | h
  · exact .inl (.inl (o _ _ (fun z => by rw [z, hp] at h; cases h) h))
  · exact .inl (.inr ⟨od, o _ _ (fun z => by rw [z, hp] at h; cases h) h⟩)
  · exact .inr h
theorem deed_off {p : Addr} {zs : List V} (hp : H p = some (.lst zs)) (o : Off p H H') {v : V} {d : Deed} (h : Da K H v (deedD d)) : Da K H' v (deedD d) := by
  obtain ⟨t, rfl, s⟩ := deed_at h
  exact deed_da (sqt_offl hp o s)
theorem deeds_off {p : Addr} {zs : List V} (hp : H p = some (.lst zs)) (o : Off p H H') : ∀ {xs : List V} {r : List Deed}, DaL K H xs (r.map deedD) → DaL K H' xs (r.map deedD)
  | _, [], h => by cases h; exact .nil
  | _, d :: r, h => by
    have h : DaL K H _ (deedD d :: r.map deedD) := h
    cases h with
    | cons a b => exact .cons (deed_off hp o a) (deeds_off hp o b)
theorem AllT.off {p : Addr} {zs : List V} (hp : H p = some (.lst zs)) (o : Off p H H') : ∀ {xs : List V} {r : List Deed}, AllT H xs r → AllT H' xs r
  | _, _, .nil => .nil
  | _, _, .cons q h => .cons (o _ _ (fun z => by rw [z, hp] at q; cases q) q) (h.off hp o)
theorem AllT.same (o : Same H H') : ∀ {xs : List V} {r : List Deed}, AllT H xs r → AllT H' xs r
  | _, _, .nil => .nil
  | _, _, .cons q h => .cons (o _ _ q) (h.same o)
theorem AllT.snoc {t : Addr} {d : Deed} (e : H t = some (.tup (deedV d))) : ∀ {xs : List V} {r : List Deed}, AllT H xs r → AllT H (xs ++ [.ref t]) (r ++ [d])
  | _, _, .nil => .cons e .nil
  | _, _, .cons q h => .cons q (h.snoc e)
theorem RowX.off {p : Addr} {zs : List V} (hp : H p = some (.lst zs)) (o : Off p H H') {xs : List V} {r : List Deed} (h : RowX K H xs r) : RowX K H' xs r := ⟨deeds_off hp o h.dl, h.ex.off hp o⟩
theorem RowX.same (o : Same H H') {xs : List V} {r : List Deed} (h : RowX K H xs r) : RowX K H' xs r := ⟨DaL.same o _ h.dl, h.ex.same o⟩
theorem daL_snoc : ∀ {xs : List V} {ds : List PyData} {v : V} {d : PyData}, DaL K H xs ds → Da K H v d → DaL K H (xs ++ [v]) (ds ++ [d])
  | _, _, _, _, .nil, h => .cons h .nil
  | _, _, _, _, .cons a b, h => .cons a (daL_snoc b h)
theorem RowsA.len : ∀ {bs : List Addr} {pa : Past}, RowsA K H bs pa → bs.length = pa.length
  | _, _, .nil => rfl
  | _, _, .cons _ _ h => congrArg (· + 1) h.len
theorem RowsA.off {p : Addr} {zs : List V} (hp : H p = some (.lst zs)) (o : Off p H H') : ∀ {bs : List Addr} {pa : Past}, p ∉ bs → RowsA K H bs pa → RowsA K H' bs pa
  | _, _, _, .nil => .nil
  | _, _, n, .cons a b h => .cons (o _ _ (fun z => n (by rw [z]; exact List.mem_cons_self ..)) a) (b.off hp o) (RowsA.off hp o (fun m => n (List.mem_cons_of_mem _ m)) h)
theorem RowsA.same (o : Same H H') : ∀ {bs : List Addr} {pa : Past}, RowsA K H bs pa → RowsA K H' bs pa
  | _, _, .nil => .nil
  | _, _, .cons a b h => .cons (o _ _ a) (b.same o) (h.same o)
theorem RowsA.get : ∀ {bs : List Addr} {pa : Past}, RowsA K H bs pa → ∀ {k : Nat} {q : Str × List Deed}, pa[k]? = some q → ∃ b xs, bs[k]? = some b ∧ H b = some (.lst xs) ∧ RowX K H xs q.2
  | _, _, .nil, _, _, e => by simp at e
  | _, _, .cons a b h, 0, q, e => by
    cases (Option.some.inj (show some _ = some q from e))
    exact ⟨_, _, rfl, a, b⟩
  | _, _, .cons a b h, k + 1, q, e => h.get (k := k) e
theorem RowsA.add {d : Deed} {v : V} : ∀ {bs : List Addr} {pa : Past}, RowsA K H bs pa → bs.Nodup → ∀ {k : Nat} {b : Addr} {xs : List V}, bs[k]? = some b → H b = some (.lst xs) → Off b H H' → H' b = some (.lst (xs ++ [v])) → (∃ t, v = .ref t ∧ H' t = some (.tup (deedV d))) → RowsA K H' bs (addD pa k d)
  | _, _, .nil, _, _, _, _, e, _, _, _, _ => by simp at e
  | _, _, .cons a c h, nd, 0, b, xs, e, hb, o, hb', hv => by
    cases (Option.some.inj (show some _ = some b from e))
    rw [a] at hb
    cases hb
    obtain ⟨t, rfl, ht⟩ := hv
    refine .cons hb' ⟨?_, (c.ex.off a o).snoc ht⟩ (RowsA.off a o (List.nodup_cons.mp nd).1 h)
    rw [List.map_append]
    exact daL_snoc (deeds_off a o c.dl) (deed_da (.inl (.inl ht)))
  | _, _, .cons a c h, nd, k + 1, b, xs, e, hb, o, hb', hv => by
    have e : _ = some b := e
    refine .cons (o _ _ (fun z => (List.nodup_cons.mp nd).1 (by rw [z]; exact List.mem_of_getElem? e)) a) (c.off hb o) (RowsA.add h (List.nodup_cons.mp nd).2 (k := k) e hb o hb' hv)
theorem RowsA.daK : ∀ {bs : List Addr} {pa : Past}, RowsA K H bs pa → DaK K H (kvN (pa.map (·.1)) bs) (pastKv pa)
  | _, _, .nil => .nil
  | _, _, .cons a b h => .cons (k := .inr _) (.lst (.inl (.inl a)) b.dl) h.daK
theorem RowsAt.da {r : Addr} {bs : List Addr} {pa : Past} (h : RowsAt K H r bs pa) : Da K H (.ref r) (pastD pa) := .dct (.inl h.dict) h.rows.daK
theorem RowsAt.same (o : Same H H') {r : Addr} {bs : List Addr} {pa : Past} (h : RowsAt K H r bs pa) : RowsAt K H' r bs pa := ⟨o _ _ h.dict, h.nd, h.rows.same o⟩
theorem RowsAt.off {p : Addr} {zs : List V} (hp : H p = some (.lst zs)) (o : Off p H H') {r : Addr} {bs : List Addr} {pa : Past} (n : p ∉ bs) (h : RowsAt K H r bs pa) : RowsAt K H' r bs pa :=
  ⟨o _ _ (fun z => by have := h.dict; rw [z, hp] at this; cases this) h.dict, h.nd, h.rows.off hp o n⟩
theorem RowsAt.add {d : Deed} {v : V} {r : Addr} {bs : List Addr} {pa : Past} (h : RowsAt K H r bs pa) {k : Nat} {b : Addr} {xs : List V} (e : bs[k]? = some b) (hb : H b = some (.lst xs)) (o : Off b H H') (hb' : H' b = some (.lst (xs ++ [v]))) (hv : ∃ t, v = .ref t ∧ H' t = some (.tup (deedV d))) : RowsAt K H' r bs (addD pa k d) :=
  ⟨by rw [addD_names]; exact o _ _ (fun z => by have := h.dict; rw [z, hb] at this; cases this) h.dict, h.nd, h.rows.add h.nd e hb o hb' hv⟩
end L2.Fb.Law

namespace L2.Fb
open PySem PySem.Spec
open PyProof.Rows
/-! ### three names at once -/
def tPar3 (i j k : Nat) (ta : TA) : TS := fun D σ H => tTup ta σ H fun v H1 => ∃ p x y z, v = .ref p ∧ H1 p = some (.tup [x, y, z]) ∧ D.nx (((σ.set k (some z)).set j (some y)).set i (some x)) H1
theorem vals3 {x y z : V} {us : List Value} (h : Vals [x, y, z] us) : ∃ a b c, us = [a, b, c] ∧ RelV x a ∧ RelV y b ∧ RelV z c := by
  cases h with
  | cons a h => cases h with
    | cons b h => cases h with
      | cons c h => cases h; exact ⟨_, _, _, rfl, a, b, c⟩
theorem ps_par3 {X : Cx} {pos : Pos} {i j k : Nat} {x y z : Str} {a b c : Expr} {ta : TA} {px py pz pt pt2 : Pos} {kt k2 : Nat} (hc : X.calm = true) (nd : X.N.Nodup) (hi : X.N[i]? = some x) (hj : X.N[j]? = some y) (hk : X.N[k]? = some z)
    (lx : X.env.scope.names.lookup x = some .local) (ly : X.env.scope.names.lookup y = some .local) (lz : X.env.scope.names.lookup z = some .local) (h : PA X [a, b, c] ta)
    (sw : swappedStores [.Tuple [.Name x px, .Name y py, .Name z pz] kt pt] (.Tuple [a, b, c] k2 pt2) X.env = pure (some [x, y, z]))
    (ss : swapsWithSole [.Tuple [.Name x px, .Name y py, .Name z pz] kt pt] (.Tuple [a, b, c] k2 pt2) pos.line X.env = pure false := by rfl) :
    PS X (.Assign [.Tuple [.Name x px, .Name y py, .Name z pz] kt pt] (.Tuple [a, b, c] k2 pt2) pos) (tPar3 i j k ta) := by
  refine ⟨fun pins s σ H D I hw => ?_⟩
  refine Assign_Tuple_swapped ?_ ss sw
  refine thn ((pe_tup h).run pins s σ H _ I hw) fun u s1 q => ?_
  obtain ⟨v, H1, I1, rv, p, vx, vy, vz, rfl, e, nx⟩ := q
  cases rv
  obtain ⟨us, vv, it, _⟩ := I1.tuple (.inl (.inl e))
  obtain ⟨a1, b1, c1, rfl, r1, r2, r3⟩ := vals3 vv
  refine unpackItems_tuple (items := [a1, b1, c1].toArray) (I1.ok.hd hc) it fun h' eb => ?_
  have I2 := I1.kept (h' := h') (t' := s1.toks) fun b u hb => eb b u (Nat.ne_of_lt (Heap.lt_size hb)) hb
  refine assignInOrder_cons (wpAny_bindName (store_ok I2 nd hk (.inl lz) r3 (fun s3 I3 => ?_) (.inr lz)))
  refine assignInOrder_cons (wpAny_bindName (store_ok I3 nd hj (.inl ly) r2 (fun s4 I4 => ?_) (.inr ly)))
  refine assignInOrder_cons (wpAny_bindName (store_ok I4 nd hi (.inl lx) r1 (fun s5 I5 => ?_) (.inr lx)))
  exact assignInOrder_nil ⟨_, H1, I5, nx⟩
/-! ### a list, the empty list -/
theorem hu64_of {A : Around} {k : Nat} (h : Room k A) : A.units + 64 < cLine := by
  have := h.un
  omega
theorem layAll : ∀ {ds : List PyData}, (∀ d ∈ ds, d.canLay0 = true ∧ d.depth ≤ 60) → PyData.canLayAll0 ds = true ∧ PyData.depthAll ds ≤ 60
  | [], _ => ⟨rfl, Nat.zero_le _⟩
  | d :: ds, h => by
    obtain ⟨a, b⟩ := layAll (ds := ds) fun x m => h x (List.mem_cons_of_mem _ m)
    obtain ⟨c, e⟩ := h d (List.mem_cons_self ..)
    constructor
    · unfold PyData.canLayAll0
      rw [c, a]
      rfl
    · unfold PyData.depthAll
      omega
theorem shaped_lst {ds : List PyData} (h : ∀ d ∈ ds, d.canLay0 = true ∧ d.depth ≤ 60) : SeqAt.shaped (.list ds) = true := by
  obtain ⟨a, b⟩ := layAll h
  unfold SeqAt.shaped PyData.canLay0 PyData.depth
  rw [a, decide_eq_true (by omega)]
  rfl
theorem eqv_nil (ds : List PyData) : (PyData.list ds).eqv (.list []) = decide (ds = []) := by
  cases ds with
  | nil => rfl
  | cons d ds => rfl
theorem DpAll.len {K : PySem.W.Frag} {H : Hp} : ∀ {xs : List V} {ds : List PyData}, DpAll K H xs ds → xs.length = ds.length
  | _, _, .nil => rfl
  | _, _, .cons _ h => congrArg (· + 1) (DpAll.len h)
theorem ne_nil {K : PySem.W.Frag} {H : Hp} {a b : Addr} {xs : List V} {ds : List PyData} {Q : VK} (h : SqL K H a xs) (hd : DpAll K H xs ds) (sh : ∀ d ∈ ds, d.canLay0 = true ∧ d.depth ≤ 60) (e : SqL K H b []) (q : Q (.bl (!decide (ds = []))) H) :
    rNeD K (.ref a) (.ref b) H Q := ⟨.list ds, .list [], .lst h hd, .lst e .nil, shaped_lst sh, shaped_lst (fun _ m => nomatch m), by rw [eqv_nil]; exact q⟩
theorem eq_nil {K : PySem.W.Frag} {H : Hp} {a b : Addr} {xs : List V} {ds : List PyData} {Q : VK} (h : SqL K H a xs) (hd : DpAll K H xs ds) (sh : ∀ d ∈ ds, d.canLay0 = true ∧ d.depth ≤ 60) (e : SqL K H b []) (q : Q (.bl (decide (ds = []))) H) :
    rEqD K (.ref a) (.ref b) H Q := ⟨.list ds, .list [], .lst h hd, .lst e .nil, shaped_lst sh, shaped_lst (fun _ m => nomatch m), by rw [eqv_nil]; exact q⟩
theorem dp_strs {K : PySem.W.Frag} {H : Hp} : ∀ (xs : List Str), DpAll K H (xs.map V.str) (xs.map PyData.str)
  | [] => .nil
  | x :: xs => .cons (.str x) (dp_strs xs)
theorem sh_str {x : Str} (h : PyData.strOk x = true) : (PyData.str x).canLay0 = true ∧ (PyData.str x).depth ≤ 60 := ⟨by unfold PyData.canLay0; exact h, by unfold PyData.depth; omega⟩
theorem sh_strs {xs : List Str} (h : ∀ x ∈ xs, PyData.strOk x = true) : ∀ d ∈ xs.map PyData.str, d.canLay0 = true ∧ d.depth ≤ 60 := fun d m => by
  obtain ⟨x, mx, rfl⟩ := List.mem_map.mp m
  exact sh_str (h x mx)
theorem sh_pair {l : Int} {x : Str} (h : PyData.strOk x = true) : (PyData.tuple [.int l, .str x]).canLay0 = true ∧ (PyData.tuple [.int l, .str x]).depth ≤ 60 :=
  ⟨by simpa [PyData.canLay0, PyData.canLayAll0] using h, by simp [PyData.depth, PyData.depthAll]⟩
end L2.Fb

namespace L2.Fb.Law
open PySem PySem.Spec
open PyProof.Rows
abbrev s__law_past : Stmt := topS 26
abbrev N__law_past : List Str := ["pot", "most", "long", "hands", "rows", "lying", "style", "keeps", "turn", "hand", "way", "others", "letter", "other", "one"]
abbrev P__law_past : List Str := ["pot", "most", "long"]
theorem sc__law_past : FnScope N__law_past P__law_past (defScope s__law_past) := ⟨rfl, rfl, rfl, by decide +kernel, rfl, by decide +kernel, by decide +kernel⟩
section
variable {P : Program} {w : World} {K : PySem.W.Frag} {mg : Str → Option Value} {base : Heap}
theorem RowsA.snoc {H : Hp} {b : Addr} {h : Str} : ∀ {bs : List Addr} {pa : Past}, RowsA K H bs pa → H b = some (.lst []) → RowsA K H (bs ++ [b]) (pa ++ [(h, [])])
  | _, _, .nil, e => .cons e ⟨.nil, .nil⟩ .nil
  | _, _, .cons a c r, e => .cons a c (RowsA.snoc r e)
theorem kvN_snoc : ∀ {ns : List Str} {bs : List Addr} {x : Str} {b : Addr}, ns.length = bs.length → kvN (ns ++ [x]) (bs ++ [b]) = kvN ns bs ++ [(.inr x, .ref b)]
  | [], [], _, _, _ => rfl
  | y :: ns, c :: bs, x, b, h => congrArg (((Sum.inr y, V.ref c) : Key × V) :: ·) (kvN_snoc (by simpa using h))
theorem RowsA.has {H : Hp} : ∀ {bs : List Addr} {pa : Past}, RowsA K H bs pa → ∀ b ∈ bs, ∃ xs, H b = some (.lst xs)
  | _, _, .cons a _ r, b, m => (List.mem_cons.mp m).elim (fun e => ⟨_, e ▸ a⟩) (r.has b)
/-- where the loop stands -/
structure LA (K : PySem.W.Frag) (p l r ly : Addr) (bs : List Addr) (ns : List Str) (H : Hp) (pa : Past) (lyi : List (Int × Str)) (N : Nat) : Prop where
  rows : RowsAt K H r bs pa
  lying : ∃ lts : List Addr, H ly = some (.lst (lts.map V.ref)) ∧ Paired (fun t (x : Int × Str) => SqT K H t [.int x.1, .str x.2]) lts lyi
  pot : PotAt H p N
  hands : H l = some (.lst (ns.map V.str))
structure Dis (p l r ly : Addr) (bs : List Addr) : Prop where
  pb : p ∉ bs
  lb : l ∉ bs
  yb : ly ∉ bs
  pl : p ≠ l
  py : p ≠ ly
  yl : ly ≠ l
section
variable {p l r ly : Addr} {bs : List Addr} {ns : List Str} {H H' : Hp} {pa : Past} {lyi : List (Int × Str)} {N M : Nat}
theorem LA.same (h : LA K p l r ly bs ns H pa lyi N) (s : Same H H') : LA K p l r ly bs ns H' pa lyi N where
  rows := h.rows.same s
  lying := let ⟨lts, a, b⟩ := h.lying; ⟨lts, s _ _ a, Paired.mapP b fun t x q => sqt_same s q⟩
  pot := h.pot.off fun u q => s _ _ q
  hands := s _ _ h.hands
theorem LA.dip (h : LA K p l r ly bs ns H pa lyi N) (d : Dis p l r ly bs) (o : Off p H H') (q : PotAt H' p M) : LA K p l r ly bs ns H' pa lyi M := by
  obtain ⟨a, b, c, e, _⟩ := h.pot
  obtain ⟨lts, f, g⟩ := h.lying
  exact ⟨h.rows.off e o d.pb, ⟨lts, o _ _ d.py.symm f, Paired.mapP g fun t x z => sqt_offl e o z⟩, q, o _ _ d.pl.symm h.hands⟩
theorem LA.add (h : LA K p l r ly bs ns H pa lyi N) (d : Dis p l r ly bs) {k : Nat} {b : Addr} {xs : List V} {x : Deed} {v : V} (e : bs[k]? = some b) (hb : H b = some (.lst xs)) (hv : ∃ t, v = .ref t ∧ upd H b (.lst (xs ++ [v])) t = some (.tup (deedV x))) :
    LA K p l r ly bs ns (upd H b (.lst (xs ++ [v]))) (addD pa k x) lyi N := by
  obtain ⟨lts, f, g⟩ := h.lying
  have mb : b ∈ bs := List.mem_of_getElem? e
  have o : Off b H (upd H b (.lst (xs ++ [v]))) := off_upd
  exact ⟨h.rows.add e hb o upd_same hv, ⟨lts, o _ _ (fun z => d.yb (z ▸ mb)) f, Paired.mapP g fun t x z => sqt_offl hb o z⟩, h.pot.off fun u q => o _ _ (fun z => d.pb (z ▸ mb)) q, o _ _ (fun z => d.lb (z ▸ mb)) h.hands⟩
theorem LA.lie (h : LA K p l r ly bs ns H pa lyi N) (d : Dis p l r ly bs) {us : List Addr} {lyj : List (Int × Str)} (e : Paired (fun t (x : Int × Str) => SqT K H t [.int x.1, .str x.2]) us lyj) : LA K p l r ly bs ns (upd H ly (.lst (us.map V.ref))) pa lyj N := by
  obtain ⟨lts, f, g⟩ := h.lying
  have o : Off ly H (upd H ly (.lst (us.map V.ref))) := off_upd
  exact ⟨h.rows.off f o d.yb, ⟨us, upd_same, Paired.mapP e fun t x z => sqt_offl f o z⟩, h.pot.off fun u q => o _ _ d.py q, o _ _ d.yl.symm h.hands⟩
/-- the row of the k-th hand -/
theorem LA.row (h : LA K p l r ly bs ns H pa lyi N) (nd : ns.Nodup) (en : pa.map (·.1) = ns) {k : Nat} {a : Str} (ha : ns[k]? = some a) : ∃ b q xs, pa[k]? = some (a, q) ∧ bs[k]? = some b ∧ H b = some (.lst xs) ∧ DaL K H xs (q.map deedD) ∧ DGet H r (.str a) (some (.ref b)) := by
  have : (pa.map (·.1))[k]? = some a := by rw [en]; exact ha
  rw [List.getElem?_map] at this
  cases e : pa[k]? with
  | none => rw [e] at this; cases this
  | some q =>
    rw [e] at this
    obtain ⟨q1, q2⟩ := q
    cases this
    obtain ⟨b, xs, hb, eb, dl⟩ := h.rows.rows.get e
    have lb : ns.length = bs.length := by rw [h.rows.rows.len, ← en, List.length_map]
    have hd := h.rows.dict
    rw [en] at hd
    exact ⟨b, q2, xs, rfl, hb, eb, dl.dl, .inl ⟨_, .inr q1, .inl hd, rfl, (kvN_val nd lb ha hb).symm⟩⟩
theorem LA.addT (h : LA K p l r ly bs ns H pa lyi N) (d : Dis p l r ly bs) {k : Nat} {b t : Addr} {xs : List V} {x : Deed} (e : bs[k]? = some b) (hb : H b = some (.lst xs)) (nt : H t = none) :
    LA K p l r ly bs ns (upd (upd H t (.tup (deedV x))) b (.lst (xs ++ [.ref t]))) (addD pa k x) lyi N := by
  have tb : t ≠ b := fun z => by rw [z, hb] at nt; cases nt
  exact (h.same (same_new nt)).add d e (same_new nt _ _ hb) ⟨t, rfl, by rw [upd_ne tb]; exact upd_same⟩
theorem paired_erase {α β : Type} {F : α → β → Prop} : ∀ {xs : List α} {ys : List β} (k : Nat), Paired F xs ys → Paired F (xs.eraseIdx k) (ys.eraseIdx k)
  | _, _, _, .nil => .nil
  | _, _, 0, .cons _ b => b
  | _, _, k + 1, .cons a b => .cons a (paired_erase k b)
theorem paired_at {α β : Type} {F : α → β → Prop} : ∀ {xs : List α} {ys : List β} {k : Nat} {y : β}, Paired F xs ys → ys[k]? = some y → ∃ x, xs[k]? = some x ∧ F x y
  | _, _, _, _, .nil, e => by simp at e
  | _, _, 0, y, .cons a _, e => by
    cases (Option.some.inj (show some _ = some y from e))
    exact ⟨_, rfl, a⟩
  | _, _, k + 1, y, .cons _ b, e => paired_at (k := k) b e
theorem tells_few : ∀ (p : Past), (tellsP p).length ≤ (p.map fun q => q.2.length).sum
  | [] => Nat.le_refl _
  | q :: p => by
    have h1 := tells_few p
    have h2 := List.length_filterMap_le tellT q.2
    show (q.2.filterMap tellT ++ tellsP p).length ≤ (q.2.length :: p.map fun q => q.2.length).sum
    rw [List.length_append, List.sum_cons]
    omega
theorem both {St T : Hp → Prop} {G : Prop} (h : (∀ Hg, St Hg → T Hg) → G) (t : ∀ Hg, St Hg → T Hg) : G := h t
theorem dp_pairs {H : Hp} : ∀ {lts : List Addr} {lyi : List (Int × Str)}, Paired (fun t (x : Int × Str) => SqT K H t [.int x.1, .str x.2]) lts lyi → DpAll K H (lts.map V.ref) (lyi.map fun x => PyData.tuple [.int x.1, .str x.2])
  | _, _, .nil => .nil
  | _, _, .cons a b => .cons (.tup a (.cons (.int _) (.cons (.str _) .nil))) (dp_pairs b)
theorem strOk_name {x : Str} (h : nameOk x = true) : PyData.strOk x = true := by
  unfold nameOk at h
  simp only [Bool.and_eq_true, List.all_eq_true, decide_eq_true_eq] at h
  unfold PyData.strOk
  rw [Array.all_eq_true']
  intro c hc
  have := h.2 c (Array.mem_toList_iff.mpr hc)
  simp only [decide_eq_true_eq]
  omega
end
/-- letters by style -/
def letterOf (st long : Int) (j : Nat) : Int := if st = 0 then j else if st = 1 then 3 * (long - j) else 10 ^ 9 - 1 - j
theorem letter_facts {st : Int} {long i : Nat} (s0 : 0 ≤ st) (s3 : st < 3) (hi : i < long) (hl : long ≤ 390) :
    atI [V.int (0 + (i : Int)), V.int (3 * (long - (0 + (i : Int)))), V.int (10 ^ (9 : Int).toNat - 1 - (0 + (i : Int)))] st = some (.int (letterOf st long i)) ∧ 0 ≤ letterOf st long i ∧ ∀ j, j < i → letterOf st long j ≠ letterOf st long i := by
  have p9 : (10 : Int) ^ 9 = 1000000000 := by decide
  have p9' : (10 : Int) ^ (9 : Int).toNat = 1000000000 := by decide +kernel
  have c : st = 0 ∨ st = 1 ∨ st = 2 := by omega
  unfold letterOf
  rw [p9, p9']
  rcases c with rfl | rfl | rfl
  · exact ⟨(atI_nat (j := 0) rfl).trans (congrArg (fun z => some (V.int z)) (by simp)), by simp, fun j h => by simp; omega⟩
  · exact ⟨(atI_nat (j := 1) rfl).trans (congrArg (fun z => some (V.int z)) (by simp)), by simp; omega, fun j h => by simp; omega⟩
  · exact ⟨(atI_nat (j := 2) rfl).trans (congrArg (fun z => some (V.int z)) (by simp)), by simp; omega, fun j h => by simp; omega⟩
def sp_past (K : PySem.W.Frag) : Sp := fun vs H Q _ => ∃ (p : Addr) (most long n : Nat), vs = [.ref p, .int (most : Int), .int (long : Int)] ∧ 1 ≤ most ∧ most ≤ 40 ∧ long ≤ 390 ∧ PotAt H p (n + 2000) ∧
  ∀ H' r bs pa L m ly, Off p H H' → PotAt H' p n → H r = none → (∀ b ∈ bs, H b = none) → RowsAt K H' r bs pa → m ≤ long → Grow (pa.map (·.1)) L m pa ly → (∀ j, j < m → L j < 1000000000) → (pa.map (·.1)).Nodup → 1 ≤ pa.length → pa.length ≤ most → (∀ q ∈ pa, nameOk q.1 = true) → Q (.ref r) H'
theorem ok_past (D : Dfn K mg "_law_past" s__law_past P__law_past) (T : TxtL mg) (C__law_dip : Cal P w K mg base CX0 1 "_law_dip" s__law_dip P__law_dip (sp_dip K)) (C__law_names : Cal P w K mg base CX0 2 "_law_names" s__law_names P__law_names (sp_names K)) :
    Cal P w K mg base CX0 3 "_law_past" s__law_past P__law_past (sp_past K) := D.cal fun f fd F => by
  refine F.ok sc__law_past (fun vs H Q E h => ?_) (fun cdv A outer s H vs Q E hr h => ?_)
  · obtain ⟨p, most, long, n, rfl, _⟩ := h
    rfl
  · obtain ⟨p, most, long, n, rfl, m1, m40, l390, pot, q⟩ := h
    have hu := hu_of hr
    have hu64 := hu64_of hr
    refine ⟨_, (pss_cons (ps_set (i := 3) sc__law_past.nd rfl (.inl rfl) (pe_callC C__law_names (hr.mono (by decide)) rfl pass0 (pa_cons (pv 0) (pa_cons (pe_op op_add pe_int (pe_callC C__law_dip (hr.mono (by decide)) rfl pass0 (pa_cons (pv 0) (pa_cons (pv 1) pa_nil)))) pa_nil))))
      (pss_cons (ps_set (i := 4) sc__law_past.nd rfl (.inl rfl) (pe_callTy (call_dictPK (K := K) rfl rfl) (by rfl) T.dict (by decide +kernel) (pa_cons (pe_lc (own := [("hand", 9)]) (g := (gName 9)) rfl sc__law_past.nd (pi_listK (K := K) rfl (pv 3)) (blkOk_by (own := [("hand", 9)]) (N := N__law_past) (sc := defScope s__law_past) (by decide +kernel)) (fun _ _ _ _ _ => pg_name (i := 9) sc__law_past.nd rfl (.inl rfl)) (fun _ _ _ _ _ => pts_nil) (fun _ _ _ _ _ => (pe_tup (pa_cons (pv 9) (pa_cons (pe_lst pa_nil) pa_nil))))) pa_nil)))
      (pss_cons (ps_par3 (i := 5) (j := 6) (k := 7) (by rfl) sc__law_past.nd rfl rfl rfl rfl rfl rfl (pa_cons (pe_lst pa_nil) (pa_cons (pe_callC C__law_dip (hr.mono (by decide)) rfl pass0 (pa_cons (pv 0) (pa_cons pe_int pa_nil))) (pa_cons (pe_op op_add pe_int (pe_callC C__law_dip (hr.mono (by decide)) rfl pass0 (pa_cons (pv 0) (pa_cons pe_int pa_nil)))) pa_nil))) (by rfl))
      (pss_cons (ps_for PassesOwn.never rfl (pi_range1 (by rfl) T.range (pa_cons (pe_callC C__law_dip (hr.mono (by decide)) rfl pass0 (pa_cons (pv 0) (pa_cons (pe_op op_add (pv 2) pe_int) pa_nil))) pa_nil)) (pg_name (i := 8) sc__law_past.nd rfl (.inl rfl)) (pss_cons (ps_asg (pe_tup (pa_cons (pe_ix (ix_listK (K := K) rfl) (pv 3) (pe_callC C__law_dip (hr.mono (by decide)) rfl pass0 (pa_cons (pv 0) (pa_cons (pe_callB (call_len_seqK (K := K) rfl) (by rfl) T.len PySem.boot_len (pa_cons (pv 3) pa_nil)) pa_nil))) (fun _ _ => rfl)) (pa_cons (pe_callC C__law_dip (hr.mono (by decide)) rfl pass0 (pa_cons (pv 0) (pa_cons pe_int pa_nil))) pa_nil))) (pg_tupK (n := 2) (K := K) rfl (by rfl) (pgs_cons (pg_name (i := 9) sc__law_past.nd rfl (.inr rfl)) (pgs_cons (pg_name (i := 10) sc__law_past.nd rfl (.inl rfl)) pgs_nil))))
      (pss_cons (ps_setLc (i := 11) (own := [("one", 14)]) (g := (gName 14)) (by rfl) sc__law_past.nd rfl rfl (sw_true rfl rfl rfl (by decide +kernel)) (pi_listK (K := K) rfl (pv 3)) (blkOk_by (own := [("one", 14)]) (N := N__law_past) (sc := defScope s__law_past) (by decide +kernel)) (fun _ _ _ _ _ => pg_name (i := 14) sc__law_past.nd rfl (.inl rfl)) (fun _ _ _ _ _ => pts_one (pt_cmpR op_ne (pv 14) (pv 9) (nomark _))) (fun _ _ _ _ _ => (pv 14)))
      (pss_one (ps_if (pt_cmpR op_lt (pv 10) (pv 7) (nomark _)) (pss_one (ps_expr (pe_bmK (K := K) rfl PySem.F.plainAttrs_list PySem.F.slot_list_append PySem.F.type_list_append mt_append (pe_dget hu (pv 4) (pv 9) (fun _ _ => rfl)) (pa_cons (pe_tup (pa_cons pe_str pa_nil)) pa_nil)))) (pss_one (ps_if (PW.pt (pw_and (pt_cmpR op_lt (pv 10) pe_int (nomark _)) (pw_and1 (pt_cmpR (op_neD hu64) (pv 5) (pe_lst pa_nil) (nomark _))))) (pss_cons (ps_asg (pe_bmK (K := K) rfl PySem.F.plainAttrs_list PySem.F.slot_list_pop PySem.F.type_list_pop mt_popAt (pv 5) (pa_cons (pe_callC C__law_dip (hr.mono (by decide)) rfl pass0 (pa_cons (pv 0) (pa_cons (pe_callB (call_len_seqK (K := K) rfl) (by rfl) T.len PySem.boot_len (pa_cons (pv 5) pa_nil)) pa_nil))) pa_nil)) (pg_tupK (n := 2) (K := K) rfl (by rfl) (pgs_cons (pg_name (i := 12) sc__law_past.nd rfl (.inl rfl)) (pgs_cons (pg_name (i := 13) sc__law_past.nd rfl (.inl rfl)) pgs_nil))))
      (pss_one (ps_expr (pe_bmK (K := K) rfl PySem.F.plainAttrs_list PySem.F.slot_list_append PySem.F.type_list_append mt_append (pe_dget hu (pv 4) (pv 13) (fun _ _ => rfl)) (pa_cons (pe_tup (pa_cons pe_str (pa_cons (pv 12) pa_nil))) pa_nil))))) (pss_one (ps_if (pt_cmpR (op_neD hu64) (pv 11) (pe_lst pa_nil) (nomark _)) (pss_cons (ps_par (i := 12) (j := 13) (by rfl) sc__law_past.nd rfl rfl (by decide) rfl rfl (pa_cons (pe_ix (ix_listK (K := K) rfl) (pe_lst (pa_cons (pv 8) (pa_cons (pe_op op_mul pe_int (pe_op op_sub (pv 2) (pv 8))) (pa_cons (pe_op op_sub (pe_op op_sub (pe_op op_powW pe_int pe_int) pe_int) (pv 8)) pa_nil)))) (pv 6) (fun _ _ => rfl)) (pa_cons (pe_ix (ix_listK (K := K) rfl) (pv 11) (pe_callC C__law_dip (hr.mono (by decide)) rfl pass0 (pa_cons (pv 0) (pa_cons (pe_callB (call_len_seqK (K := K) rfl) (by rfl) T.len PySem.boot_len (pa_cons (pv 11) pa_nil)) pa_nil))) (fun _ _ => rfl)) pa_nil)) (by rfl))
      (pss_cons (ps_expr (pe_bmK (K := K) rfl PySem.F.plainAttrs_list PySem.F.slot_list_append PySem.F.type_list_append mt_append (pe_dget hu (pv 4) (pv 9) (fun _ _ => rfl)) (pa_cons (pe_tup (pa_cons pe_str (pa_cons (pv 12) (pa_cons (pv 13) pa_nil)))) pa_nil)))
      (pss_one (ps_expr (pe_bmK (K := K) rfl PySem.F.plainAttrs_list PySem.F.slot_list_append PySem.F.type_list_append mt_append (pv 5) (pa_cons (pe_tup (pa_cons (pv 12) (pa_cons (pv 13) pa_nil))) pa_nil)))))) pss_nil)))))))))
      (pss_one (ps_ret (pv 4))))))), ?_⟩
    refine ⟨.ref p, rfl, .ref p, rfl, .int most, rfl, p, most, n + 1999, rfl, by omega, by omega, pot, fun H1 r0 o1 pot1 r00 r01 => ⟨1, r0, rfl, rfl, ?_⟩⟩
    obtain ⟨k, rfl⟩ := Int.eq_ofNat_of_zero_le r00
    refine ⟨p, 1 + k, n + 1900, congrArg (fun z => [V.ref p, V.int z]) (by omega), by omega, pot1.less (by omega), fun H2 l ns o2 pot2 nl el len nd ok => ?_⟩
    have o12 : Off p H H2 := o1.trans o2
    obtain ⟨px0, py0, pz0, ep2, _⟩ := pot2
    have pl3 : p ≠ l := fun z => by
      obtain ⟨_, _, _, e, _⟩ := pot1
      rw [z, nl] at e
      cases e
    clear o1 o2 pot1
    refine ⟨.ref l, rfl, l, rfl, ⟨_, .inl (.inl el)⟩, fun M nM => ?_⟩
    refine lc_it (walk_list (K := K) (xs := ns.map V.str)) (fun i H' => ∃ ts bs, H' M = some (.lst (ts.map V.ref)) ∧ Paired (fun t (kv : Key × V) => SqT K H' t [kV kv.1, kv.2]) ts (kvN (ns.take i) bs) ∧ RowsA K H' bs ((ns.take i).map fun x => (x, [])) ∧ bs.Nodup ∧ (∀ b ∈ bs, H2 b = none ∧ b ≠ M) ∧ Same H2 H') ?_ ?_ ?_ ?_
    · exact ⟨[], [], upd_same, .nil, .nil, .nil, fun _ m => (nomatch m), same_new nM⟩
    · rintro i H' hi ⟨ts, bs, _, _, _, _, _, sm⟩
      exact .inl (.inl (sm _ _ el))
    · rintro i x H' H'' hi ⟨ts, bs, eM, pr, ra, ndb, new, sm⟩ y
      obtain ⟨rfl, hx⟩ := y
      have hi' : i < ns.length := by rw [List.length_map] at hi; exact hi
      have en : ns[i]? = some (ns[i]'hi') := List.getElem?_eq_getElem hi'
      generalize ns[i]'hi' = a at en
      rw [List.getElem?_map, en] at hx
      cases hx
      refine ⟨rfl, yes_go ⟨.str a, rfl, by show 0 ≤ sizeLine; decide, fun b nb => ⟨by show 2 ≤ sizeLine; decide, fun t nt => ?_⟩⟩⟩
      have s1 := (same_new (o := .lst []) nb).trans (same_new (o := .tup [.str a, .ref b]) nt)
      have eM1 := s1 _ _ eM
      have et : upd (upd H'' b (.lst [])) t (.tup [.str a, .ref b]) t = some (.tup [.str a, .ref b]) := upd_same
      have eb : upd (upd H'' b (.lst [])) t (.tup [.str a, .ref b]) b = some (.lst []) := same_new nt _ _ upd_same
      have fM : H2 M = none := nM
      have fb : H2 b = none := sm.free nb
      generalize upd (upd H'' b (.lst [])) t (.tup [.str a, .ref b]) = Hb at s1 eM1 et eb
      have tk : ns.take (i + 1) = ns.take i ++ [a] := take_snoc en
      have lk : (ns.take i).length = bs.length := by rw [ra.len, List.length_map]
      have bM : b ≠ M := fun z => by rw [z, eM] at nb; cases nb
      have off : Off M Hb (upd Hb M (.lst (ts.map V.ref ++ [.ref t]))) := off_upd
      have lt : ts.length = (kvN (ns.take i) bs).length := pr.length
      have lkv : (kvN (ns.take i) bs).length = i := by
        have := congrArg List.length (kvN_keys lk)
        rw [List.length_map, List.length_map, List.length_take] at this
        omega
      refine ⟨_, eM1, ?_, ts ++ [t], bs ++ [b], ?_, ?_, ?_, ?_, ?_, ?_⟩
      · rw [List.length_map, lt, lkv]
        have : 50000 < sizeLine := by decide
        omega
      · rw [upd_same, List.map_append]
        rfl
      · rw [tk, kvN_snoc lk]
        exact paired_snoc (Paired.mapP pr fun t kv r => sqt_offl eM1 off (sqt_same s1 r)) (sqt_offl eM1 off (.inl (.inl et)))
      · rw [tk, List.map_append]
        refine (RowsA.off eM1 off ?_ ((ra.same s1).snoc eb))
        intro m
        rcases List.mem_append.mp m with m | m
        · exact (new _ m).2 rfl
        · exact bM (List.mem_singleton.mp m).symm
      · rw [List.nodup_append]
        refine ⟨ndb, by simp, fun c mc d md => ?_⟩
        rw [List.mem_singleton.mp md]
        intro z
        obtain ⟨xs, hc⟩ := ra.has c mc
        rw [z, nb] at hc
        cases hc
      · intro c mc
        rcases List.mem_append.mp mc with m | m
        · exact new c m
        · rw [List.mem_singleton.mp m]
          exact ⟨fb, bM⟩
      · intro c u q
        have : c ≠ M := fun z => by rw [z, fM] at q; cases q
        rw [upd_ne this]
        exact s1 _ _ (sm _ _ q)
    · rintro H' ⟨ts, bs, eM, pr, ra, ndb, new, sm⟩
      have tn : ns.take (ns.map V.str).length = ns := by rw [List.length_map]; exact List.take_length
      rw [tn] at pr ra
      have lb : ns.length = bs.length := by rw [ra.len, List.length_map]
      refine ⟨M, ts, _, rfl, .inl (.inl eM), pr, fun r nr => ?_⟩
      rw [mergeK_kvN nd lb]
      have sm3 : Same H2 (upd H' r (.dK (kvN ns bs))) := sm.trans (same_new nr)
      have fr : H2 r = none := sm.free nr
      have nmap : (ns.map fun x => ((x, []) : Str × List Deed)).map (·.1) = ns := by rw [List.map_map]; exact List.map_id _
      have ra3 : RowsAt K (upd H' r (.dK (kvN ns bs))) r bs (ns.map fun x => (x, [])) := ⟨by rw [nmap]; exact upd_same, ndb, ra.same (same_new nr)⟩
      generalize upd H' r (.dK (kvN ns bs)) = H3 at sm3 ra3
      have pot3 : PotAt H3 p (n + 1900) := PotAt.off ⟨px0, py0, pz0, ep2, by assumption⟩ fun u q => sm3 _ _ q
      have el3 := sm3 _ _ el
      have old3 : ∀ c u, c ≠ p → H c = some u → H3 c = some u := fun c u z q => sm3 _ _ (o12 _ _ z q)
      have new3 : ∀ b ∈ bs, H b = none := fun b m => by
        cases e : H b with
        | none => rfl
        | some u =>
          by_cases z : b = p
          · have := (new b m).1
            rw [z, ep2] at this
            cases this
          · have := o12 _ _ z e
            rw [(new b m).1] at this
            cases this
      have pb3 : p ∉ bs := fun m => by rw [(new p m).1] at ep2; cases ep2
      have lb3 : l ∉ bs := fun m => by rw [(new l m).1] at el; cases el
      have ep3 := sm3 _ _ ep2
      have fr0 : H r = none := by
        cases e : H r with
        | none => rfl
        | some u =>
          by_cases z : r = p
          · rw [z, ep2] at fr
            cases fr
          · have := o12 _ _ z e
            rw [fr] at this
            cases this
      refine ⟨by show 0 ≤ sizeLine; decide, fun ly nly => ?_⟩
      have dis : Dis p l r ly bs := ⟨pb3, lb3, (fun m => by obtain ⟨xs, e⟩ := ra3.rows.has ly m; rw [nly] at e; cases e), pl3, (fun z => by rw [← z, ep3] at nly; cases nly), (fun z => by rw [z, el3] at nly; cases nly)⟩
      have la3 : LA K p l r ly bs ns (upd H3 ly (.lst [])) (ns.map fun x => (x, [])) [] (n + 1900) := ⟨ra3.same (same_new nly), ⟨[], upd_same, .nil⟩, pot3.off fun u q => same_new nly _ _ q, same_new nly _ _ el3⟩
      have old4 : ∀ c u, c ≠ p → H c = some u → upd H3 ly (.lst []) c = some u := fun c u z q => same_new nly _ _ (old3 c u z q)
      have fly : H ly = none := by
        cases e : H ly with
        | none => rfl
        | some u =>
          have := old3 ly u dis.py.symm e
          rw [nly] at this
          cases this
      generalize upd H3 ly (.lst []) = H4 at la3 old4
      refine ⟨.ref p, rfl, p, 3, n + 1899, rfl, by omega, by omega, la3.pot, fun H5 st o5 pot5 st0 st1 => ⟨.ref p, rfl, p, 3, n + 1898, rfl, by omega, by omega, pot5, fun H6 kp o6 pot6 kp0 kp1 => ⟨1, kp, rfl, rfl, by show 3 ≤ sizeLine; decide, fun tp ntp => ⟨tp, _, _, _, rfl, upd_same, ?_⟩⟩⟩⟩
      have la7 := ((la3.dip dis o5 pot5).dip dis o6 pot6).same (same_new (o := .tup [.ref ly, .int st, .int (1 + kp)]) ntp)
      have old7 : ∀ c u, c ≠ p → H c = some u → upd H6 tp (.tup [.ref ly, .int st, .int (1 + kp)]) c = some u := fun c u z q => same_new ntp _ _ (o6 _ _ z (o5 _ _ z (old4 c u z q)))
      generalize upd H6 tp (.tup [.ref ly, .int st, .int (1 + kp)]) = H7 at la7 old7
      refine ⟨.ref p, rfl, .int long, rfl, long, 1, rfl, rfl, p, _, n + 1897, rfl, by omega, by omega, la7.pot, fun H8 mm o8 pot8 mm0 mm1 => ?_⟩
      obtain ⟨m, rfl⟩ := Int.eq_ofNat_of_zero_le mm0
      have la8 := la7.dip dis o8 pot8
      have old8 : ∀ c u, c ≠ p → H c = some u → H8 c = some u := fun c u z q => o8 _ _ z (old7 c u z q)
      clear o8 pot8 old7 la7 o6 o5 pot5 pot6 old4 la3
      refine ⟨_, rfl, by omega, by omega, ?_⟩
      have lm : m ≤ long := by omega
      refine for_it walk_range (fun i σ' H' => (∃ y8 y9 y10 y11 y12 y13 y14, σ' = [some (.ref p), some (.int most), some (.int long), some (.ref l), some (.ref r), some (.ref ly), some (.int st), some (.int (1 + kp)), y8, y9, y10, y11, y12, y13, y14]) ∧
        ∃ pa lyi, LA K p l r ly bs ns H' pa lyi (n + 4 * (m - i)) ∧ Grow ns (letterOf st long) i pa lyi ∧ ∀ c u, c ≠ p → H c = some u → H' c = some u) ?_ (fun _ _ _ _ _ => trivial) ?_ ?_
      · exact ⟨⟨none, none, none, none, none, none, none, rfl⟩, _, [], (la8.dip dis (fun _ _ _ z => z) (la8.pot.less (by omega))), Grow.zero ns _, old8⟩
      · rintro i x σ' Ha Hb hi ⟨⟨y8, y9, y10, y11, y12, y13, y14, rfl⟩, pa, lyi, la, G, old⟩ ⟨rfl, rfl⟩
        have i1 : n + 4 * (m - i) = n + 4 * (m - (i + 1)) + 4 := by omega
        rw [i1] at la
        obtain ⟨N, hN⟩ : ∃ N, N = n + 4 * (m - (i + 1)) := ⟨_, rfl⟩
        rw [← hN] at la
        refine ⟨.ref l, rfl, .ref p, rfl, .ref l, rfl, l, _, rfl, .inl (.inl (.inl la.hands)), p, _, N + 3, rfl, by rw [List.length_map]; omega, by rw [List.length_map]; omega, la.pot, fun Hc k oc potc k0 k1 => ?_⟩
        rw [List.length_map] at k1
        obtain ⟨k, rfl⟩ := Int.eq_ofNat_of_zero_le k0
        have lac := la.dip dis oc potc
        have hk : k < ns.length := by omega
        have en : ns[k]? = some (ns[k]'hk) := List.getElem?_eq_getElem hk
        generalize ns[k]'hk = hand at en
        refine ⟨l, _, k, .str hand, rfl, rfl, .inl (.inl lac.hands), atI_nat (by rw [List.getElem?_map, en]; rfl), .ref p, rfl, p, 8, N + 2, rfl, by omega, by omega, potc, fun Hd way od potd w0 w1 => ⟨by show 2 ≤ sizeLine; decide, fun t nt => ⟨t, _, rfl, .inl (.inl upd_same), rfl, _, _, rfl, _, _, rfl, rfl, ?_⟩⟩⟩
        have lae := (lac.dip dis od potd).same (same_new (o := .tup [.str hand, .int way]) nt)
        have olde : ∀ c u, c ≠ p → H c = some u → upd Hd t (.tup [.str hand, .int way]) c = some u := fun c u z q => same_new nt _ _ (od _ _ z (oc _ _ z (old c u z q)))
        generalize upd Hd t (.tup [.str hand, .int way]) = He at lae olde
        clear lac la oc od potc potd old
        refine ⟨.ref l, rfl, l, rfl, ⟨_, .inl (.inl lae.hands)⟩, fun M nM => ?_⟩
        refine lc_fm (walk_list (K := K) (xs := ns.map V.str)) ns (fun x => if x = hand then none else some x) (fun x y _ => y = .str x) nM (by rw [List.length_map]) (by rw [List.length_map]; omega) (fun H' sm => .inl (.inl (sm _ _ lae.hands))) (fun _ _ _ _ _ r => r) ?_ ?_
        · rintro j a y H1 H2 ha sm - ⟨rfl, hy⟩ KK NN kk nn
          rw [List.getElem?_map, ha] at hy
          cases hy
          refine ⟨rfl, .str a, rfl, .str hand, rfl, rfl, _, rfl, ?_⟩
          by_cases z : a = hand
          · rw [decide_eq_true (congrArg V.str z)]
            exact iteF (nn _ (by rw [if_pos z]) (.refl _))
          · rw [decide_eq_false fun e => z (by injection e)]
            exact iteT ⟨.str a, rfl, kk _ _ _ (by rw [if_neg z]) (.refl _) rfl⟩
        · intro Hf ys sm eM pr
          have laf := lae.same sm
          have oldf : ∀ c u, c ≠ p → H c = some u → Hf c = some u := fun c u z q => sm _ _ (olde c u z q)
          have e1 := paired_eq pr
          clear sm pr lae olde nM nt
          generalize eo : (List.filterMap (fun x => if x = hand then none else some x) ns) = oth at e1
          have mo : ∀ x ∈ oth, x ∈ ns ∧ x ≠ hand := fun x mx => by
            rw [← eo] at mx
            obtain ⟨a, ma, ea⟩ := List.mem_filterMap.mp mx
            by_cases z : a = hand
            · rw [if_pos z] at ea
              cases ea
            · rw [if_neg z] at ea
              cases ea
              exact ⟨ma, z⟩
          have lo : oth.length ≤ ns.length := by rw [← eo]; exact List.length_filterMap_le _ _
          obtain ⟨b, qr, xs, eq, eb, hb, dl, dg⟩ := laf.row nd G.names en
          have few := G.few
          have len : ∀ {k : Nat} {a : Str} {q : List Deed} {xs : List V}, pa[k]? = some (a, q) → xs.length = q.length → xs.length < sizeLine := fun {k a q xs} e el => by
            have h1 := mem_le_sum (fun q : Str × List Deed => q.2.length) pa _ (List.mem_of_getElem? e)
            have h2 : q.length ≤ (pa.map fun q => q.2.length).sum := h1
            have : 50000 < sizeLine := by decide
            omega
          have lly : lyi.length ≤ i := by
            have h1 := G.lying.length_eq
            rw [List.length_append] at h1
            have h2 := tells_few pa
            omega
          have okl : ∀ x ∈ lyi, x.2 ∈ ns := fun x mx => by
            have ml := G.lying.mem_iff.mp (List.mem_append_right (hearsP pa) mx)
            obtain ⟨z, mz, hz⟩ := List.mem_flatMap.mp ml
            obtain ⟨d, md, ed⟩ := List.mem_filterMap.mp hz
            have g := G.deeds z mz d md
            cases d with
            | keep => cases ed
            | hear _ => cases ed
            | tell l' h' =>
              cases ed
              exact g.2.2.1
          refine ⟨.int way, rfl, .int (1 + kp), rfl, way, 1 + kp, rfl, rfl, _, rfl, ?_⟩
          by_cases c1 : way < 1 + kp
          · rw [decide_eq_true c1]
            refine iteT ⟨.ref r, rfl, .str hand, rfl, r, .ref b, rfl, dg, .inl ⟨rfl, _, .inl (.inl hb)⟩, by show 1 ≤ sizeLine; decide, fun t nt => ⟨b, xs, .ref t, rfl, rfl, same_new nt _ _ hb, len eq (by rw [dl.len, List.length_map]), ⟨_, _, _, _, _, _, _, rfl⟩, addD pa k .keep, lyi, ?_, G.keep nd eq, ?_⟩⟩
            · rw [← hN]
              exact (laf.dip dis (fun _ _ _ z => z) (laf.pot.less (by omega))).addT (x := .keep) dis eb hb nt
            · intro c u z q
              rw [upd_ne fun y => by rw [y, new3 b (List.mem_of_getElem? eb)] at q; cases q]
              exact same_new nt _ _ (oldf _ _ z q)
          · rw [decide_eq_false c1]
            refine iteF ?_
            apply both (St := fun Hg => LA K p l r ly bs ns Hg pa lyi (N + 2) ∧ (∀ c u, c ≠ p → H c = some u → Hg c = some u) ∧ Hg M = some (.lst ys))
            · intro third
              refine ⟨.int way, rfl, way, 6, rfl, rfl, _, rfl, ?_⟩
              by_cases c2 : way < 6
              · rw [decide_eq_true c2]
                obtain ⟨lts, ely, ply⟩ := laf.lying
                refine iteT ⟨.ref ly, rfl, by show 0 ≤ sizeLine; decide, fun e ne => ne_nil (.inl (.inl (same_new ne _ _ ely))) (dp_pairs (Paired.mapP ply fun t x z => sqt_same (same_new ne) z)) ?_ (.inl (.inl upd_same)) ⟨_, rfl, ?_⟩⟩
                · intro d md
                  obtain ⟨x, mx, rfl⟩ := List.mem_map.mp md
                  exact sh_pair (strOk_name (ok _ (okl x mx)))
                have lag := laf.same (same_new (o := .lst []) ne)
                have oldg : ∀ c u, c ≠ p → H c = some u → upd Hf e (.lst []) c = some u := fun c u z q => same_new ne _ _ (oldf c u z q)
                have eMg := same_new (o := .lst []) ne _ _ eM
                generalize upd Hf e (.lst []) = Hg at lag oldg eMg
                by_cases c3 : lyi = []
                · rw [decide_eq_true (by rw [c3]; rfl)]
                  exact iteF (third Hg ⟨lag, oldg, eMg⟩)
                · rw [decide_eq_false (by rw [List.map_eq_nil_iff]; exact c3)]
                  refine iteT ?_
                  obtain ⟨lts, ely, ply⟩ := lag.lying
                  have ll : lts.length = lyi.length := ply.length
                  have pos : 0 < lyi.length := List.length_pos_iff.mpr c3
                  refine ⟨.ref ly, rfl, .inl ⟨rfl, _, .inl (.inl ely)⟩, .ref p, rfl, .ref ly, rfl, ly, _, rfl, .inl (.inl (.inl ely)), p, _, N + 1, rfl, by rw [List.length_map]; omega, by rw [List.length_map]; omega, lag.pot, fun Hh j oh poth j0 j1 => ?_⟩
                  rw [List.length_map] at j1
                  obtain ⟨j, rfl⟩ := Int.eq_ofNat_of_zero_le j0
                  have lah := lag.dip dis oh poth
                  have oldh : ∀ c u, c ≠ p → H c = some u → Hh c = some u := fun c u z q => oh _ _ z (oldg c u z q)
                  have hj : j < lyi.length := by omega
                  have ej : lyi[j]? = some (lyi[j]'hj) := List.getElem?_eq_getElem hj
                  obtain ⟨letter, other, hy⟩ : ∃ a b, lyi[j]'hj = (a, b) := ⟨_, _, rfl⟩
                  rw [hy] at ej
                  obtain ⟨lts, ely, ply⟩ := lah.lying
                  obtain ⟨tj, etj, sj⟩ := paired_at ply ej
                  have lai := lah.lie dis (paired_erase j ply)
                  have offi : Off ly Hh (upd Hh ly (.lst ((lts.eraseIdx j).map V.ref))) := off_upd
                  have sji := sqt_offl ely offi sj
                  have oldi : ∀ c u, c ≠ p → H c = some u → upd Hh ly (.lst ((lts.eraseIdx j).map V.ref)) c = some u := fun c u z q => offi _ _ (fun y => by rw [y, fly] at q; cases q) (oldh c u z q)
                  refine ⟨ly, _, _, j, .ref tj, rfl, rfl, ely, by omega, by omega, by rw [List.length_map]; exact seqIdx (by have := ply.length; omega), by rw [List.getElem?_map, etj]; rfl, ?_⟩
                  rw [erase_map]
                  generalize upd Hh ly (.lst ((lts.eraseIdx j).map V.ref)) = Hi at lai sji oldi
                  obtain ⟨k2, ek2⟩ := List.mem_iff_getElem?.mp (okl _ (List.mem_of_getElem? ej))
                  obtain ⟨b2, q2, xs2, eq2, eb2, hb2, dl2, dg2⟩ := lai.row nd G.names ek2
                  refine ⟨tj, _, rfl, sji, rfl, _, _, rfl, _, _, rfl, rfl, ?_⟩
                  refine ⟨.ref r, rfl, .str other, rfl, r, .ref b2, rfl, dg2, .inl ⟨rfl, _, .inl (.inl hb2)⟩, .int letter, rfl, by show 2 ≤ sizeLine; decide, fun t nt => ⟨b2, xs2, .ref t, rfl, rfl, same_new nt _ _ hb2, len eq2 (by rw [dl2.len, List.length_map]), ⟨_, _, _, _, _, _, _, rfl⟩, addD pa k2 (.hear letter), lyi.eraseIdx j, ?_, G.hear nd eq2 hj hy, ?_⟩⟩
                  · rw [← hN]
                    exact (lai.dip dis (fun _ _ _ z => z) (lai.pot.less (by omega))).addT (x := .hear letter) dis eb2 hb2 nt
                  · intro c u z q
                    rw [upd_ne fun y => by rw [y, new3 b2 (List.mem_of_getElem? eb2)] at q; cases q]
                    exact same_new nt _ _ (oldi _ _ z q)
              · rw [decide_eq_false c2]
                exact iteF (iteF (third Hf ⟨laf, oldf, eM⟩))
            · rintro Hg ⟨lag, oldg, eMg⟩
              rw [e1] at eMg
              refine ⟨.ref M, rfl, by show 0 ≤ sizeLine; decide, fun e ne => ne_nil (.inl (.inl (same_new ne _ _ eMg))) (dp_strs oth) (sh_strs fun x mx => strOk_name (ok _ (mo x mx).1)) (.inl (.inl upd_same)) ⟨_, rfl, ?_⟩⟩
              have lah := lag.same (same_new (o := .lst []) ne)
              have oldh : ∀ c u, c ≠ p → H c = some u → upd Hg e (.lst []) c = some u := fun c u z q => same_new ne _ _ (oldg c u z q)
              have eMh := same_new (o := .lst []) ne _ _ eMg
              generalize upd Hg e (.lst []) = Hh at lah oldh eMh
              by_cases c4 : oth = []
              · rw [decide_eq_true (by rw [c4]; rfl)]
                exact iteF ⟨⟨_, _, _, _, _, _, _, rfl⟩, pa, lyi, (by rw [← hN]; exact lah.dip dis (fun _ _ _ z => z) (lah.pot.less (by omega))), G.skip, oldh⟩
              · rw [decide_eq_false (by rw [List.map_eq_nil_iff]; exact c4)]
                refine iteT ?_
                have pos : 0 < oth.length := List.length_pos_iff.mpr c4
                have lL := letter_facts (st := st) (long := long) (i := i) st0 st1 (by omega) l390
                have p9 : CPowW 10 9 := small_pow (n := 4) (by omega) (by omega) (by omega) (by omega) (by omega)
                refine ⟨.int (0 + (i : Nat)), rfl, .int long, rfl, .int (0 + (i : Nat)), rfl, long, _, rfl, rfl, 3, _, rfl, rfl, .inl ⟨by omega, by omega⟩, 10, 9, rfl, rfl, p9, _, 1, rfl, rfl, .int (0 + (i : Nat)), rfl, _, _, rfl, rfl, by show 3 ≤ sizeLine; decide, fun a na => ?_⟩
                refine ⟨.int st, rfl, a, _, st, .int (letterOf st long i), rfl, rfl, .inl (.inl upd_same), lL.1, ?_⟩
                have lai := lah.same (same_new (o := .lst [.int (0 + (i : Nat)), .int (3 * (long - (0 + (i : Nat)))), .int (10 ^ (9 : Int).toNat - 1 - (0 + (i : Nat)))]) na)
                have oldi : ∀ c u, c ≠ p → H c = some u → upd Hh a (.lst [.int (0 + (i : Nat)), .int (3 * (long - (0 + (i : Nat)))), .int (10 ^ (9 : Int).toNat - 1 - (0 + (i : Nat)))]) c = some u := fun c u z q => same_new na _ _ (oldh c u z q)
                have eMi := same_new (o := .lst [.int (0 + (i : Nat)), .int (3 * (long - (0 + (i : Nat)))), .int (10 ^ (9 : Int).toNat - 1 - (0 + (i : Nat)))]) na _ _ eMh
                generalize upd Hh a (.lst [.int (0 + (i : Nat)), .int (3 * (long - (0 + (i : Nat)))), .int (10 ^ (9 : Int).toNat - 1 - (0 + (i : Nat)))]) = Hi at lai oldi eMi
                refine ⟨.ref M, rfl, .ref p, rfl, .ref M, rfl, M, _, rfl, .inl (.inl (.inl eMi)), p, _, N + 1, rfl, by rw [List.length_map]; omega, by rw [List.length_map]; omega, lai.pot, fun Hj j oj potj j0 j1 => ?_⟩
                rw [List.length_map] at j1
                obtain ⟨j, rfl⟩ := Int.eq_ofNat_of_zero_le j0
                have laj := lai.dip dis oj potj
                have oldj : ∀ c u, c ≠ p → H c = some u → Hj c = some u := fun c u z q => oj _ _ z (oldi c u z q)
                have Mp : M ≠ p := fun z => by
                  obtain ⟨_, _, _, e, _⟩ := lai.pot
                  rw [← z, eMi] at e
                  rw [List.length_pos_iff] at pos
                  cases oth with
                  | nil => exact pos rfl
                  | cons _ _ => cases e
                have eMj := oj _ _ Mp eMi
                have hj : j < oth.length := by omega
                have ej : oth[j]? = some (oth[j]'hj) := List.getElem?_eq_getElem hj
                obtain ⟨mo1, mo2⟩ := mo _ (List.getElem_mem hj)
                generalize oth[j]'hj = other at ej mo1 mo2
                refine ⟨M, _, j, .str other, rfl, rfl, .inl (.inl eMj), atI_nat (by rw [List.getElem?_map, ej]; rfl), _, _, rfl, ?_⟩
                obtain ⟨b, qr, xs, eq, eb, hb, dl, dg⟩ := laj.row nd G.names en
                refine ⟨.ref r, rfl, .str hand, rfl, r, .ref b, rfl, dg, .inl ⟨rfl, _, .inl (.inl hb)⟩, .int (letterOf st long i), rfl, .str other, rfl, by show 3 ≤ sizeLine; decide, fun t nt => ⟨b, xs, .ref t, rfl, rfl, same_new nt _ _ hb, len eq (by rw [dl.len, List.length_map]), ?_⟩⟩
                have lak : LA K p l r ly bs ns (upd (upd Hj t (.tup [.str "tell", .int (letterOf st long i), .str other])) b (.lst (xs ++ [.ref t]))) (addD pa k (.tell (letterOf st long i) other)) lyi (N + 1) := laj.addT (x := .tell (letterOf st long i) other) dis eb hb nt
                have oldk : ∀ c u, c ≠ p → H c = some u → upd (upd Hj t (.tup [.str "tell", .int (letterOf st long i), .str other])) b (.lst (xs ++ [.ref t])) c = some u := fun c u z q => by
                  rw [upd_ne fun y => by rw [y, new3 b (List.mem_of_getElem? eb)] at q; cases q]
                  exact same_new nt _ _ (oldj _ _ z q)
                generalize upd (upd Hj t (.tup [.str "tell", .int (letterOf st long i), .str other])) b (.lst (xs ++ [.ref t])) = Hk at lak oldk
                obtain ⟨lts, ely, ply⟩ := lak.lying
                have lts_le : lts.length ≤ i := by
                  have := ply.length
                  omega
                refine ⟨.ref ly, rfl, .inl ⟨rfl, _, .inl (.inl ely)⟩, .int (letterOf st long i), rfl, .str other, rfl, by show 2 ≤ sizeLine; decide, fun t2 nt2 => ⟨ly, lts.map V.ref, .ref t2, rfl, rfl, same_new nt2 _ _ ely, ?_, ⟨_, _, _, _, _, _, _, rfl⟩, addD pa k (.tell (letterOf st long i) other), lyi ++ [(letterOf st long i, other)], ?_, G.tell nd eq lL.2.1 lL.2.2 (ok _ mo1) mo1 mo2, ?_⟩⟩
                · rw [List.length_map]
                  have : 50000 < sizeLine := by decide
                  omega
                · rw [← hN]
                  have lal := lak.same (same_new (o := .tup [.int (letterOf st long i), .str other]) nt2)
                  have e2 : lts.map V.ref ++ [V.ref t2] = (lts ++ [t2]).map V.ref := by rw [List.map_append]; rfl
                  rw [e2]
                  have lam := lal.lie dis (paired_snoc (y := (letterOf st long i, other)) (Paired.mapP ply fun t x z => sqt_same (same_new nt2) z) (.inl (.inl upd_same)))
                  exact lam.dip dis (fun _ _ _ z => z) (lam.pot.less (by omega))
                · intro c u z q
                  rw [upd_ne fun y => by rw [y, fly] at q; cases q]
                  exact same_new nt2 _ _ (oldk _ _ z q)
      · rintro σ' Ha ⟨⟨y8, y9, y10, y11, y12, y13, y14, rfl⟩, pa, lyi, la, G, old⟩
        have ln : pa.length = ns.length := by rw [← G.names, List.length_map]
        refine ⟨.ref r, rfl, q Ha r bs pa _ _ lyi old (la.pot.less (by omega)) fr0 new3 la.rows ?_ (by rw [G.names]; exact G) ?_ (by rw [G.names]; exact nd) (by omega) (by omega) fun q mq => ok _ (by rw [← G.names]; exact List.mem_map.mpr ⟨q, mq, rfl⟩)⟩
        · omega
        · intro j hj
          have hj : j < m := by omega
          unfold letterOf
          split
          · omega
          · split <;> omega
end
end L2.Fb.Law

namespace L2.Fb.Law
open PySem PySem.Spec
open PyProof.Rows
section
variable {K : PySem.W.Frag}
theorem sqt_un {H H1 H' : Hp} {a t : Addr} {ks : List (Key × V)} {od : Obj} {un : Hp → Hp} {xs : List V} (L : Lkd H a ks od un H1) (ha : H' a = some (.frz od (.dK ks))) (h : SqT K H' t xs) : SqT K (un H') t xs := by
  rcases h with (h | ⟨o, h⟩) | h
  · exact .inl (.inl (by rw [L.unOff H' t fun z => by rw [z, ha] at h; cases h]; exact h))
  · exact .inl (.inr ⟨o, by rw [L.unOff H' t fun z => by rw [z, ha] at h; cases h]; exact h⟩)
  · exact .inr h
end
end L2.Fb.Law

namespace L2.Fb.Law
open PySem PySem.Spec
open PyProof.Rows
abbrev s__law_can_come : Stmt := topS 27
abbrev N__law_can_come : List Str := ["rows", "order", "gone", "there", "hand", "deed"]
abbrev P__law_can_come : List Str := ["rows", "order"]
theorem sc__law_can_come : FnScope N__law_can_come P__law_can_come (defScope s__law_can_come) := ⟨rfl, rfl, rfl, by decide +kernel, rfl, by decide +kernel, by decide +kernel⟩
section
variable {P : Program} {w : World} {K : PySem.W.Frag} {mg : Str → Option Value} {base : Heap}
theorem sum_eq_le {f g : Str → Nat} (h : ∀ x, f x ≤ g x) : ∀ {hs : List Str}, (hs.map f).sum = (hs.map g).sum → ∀ x ∈ hs, f x = g x
  | y :: hs, e, x, m => by
    rw [List.map_cons, List.map_cons, List.sum_cons, List.sum_cons] at e
    have h1 := h y
    have h2 := sum_le h hs
    rcases List.mem_cons.mp m with rfl | m
    · omega
    · exact sum_eq_le h (by omega) x m
theorem thr_take {R : Str → List Deed} {od : List Str} {z s : Gone} (h : through R od z = some s) (i : Nat) : ∃ s', through R (od.take i) z = some s' := by
  have e : od = od.take i ++ od.drop i := (List.take_append_drop i od).symm
  rw [e, through_app] at h
  cases q : through R (od.take i) z with
  | some s' => exact ⟨s', rfl⟩
  | none => rw [q] at h; cases h
theorem thr_step {R : Str → List Deed} {od : List Str} {z s s' : Gone} {i : Nat} {x : Str} (h : through R od z = some s) (e : od[i]? = some x) (hs : through R (od.take i) z = some s') : ∃ s2, go1 R s' x = some s2 ∧ through R (od.take (i + 1)) z = some s2 := by
  obtain ⟨s2, h2⟩ := thr_take h (i + 1)
  have h3 := h2
  rw [take_snoc e, through_app, hs] at h3
  have h3 : through R [x] s' = some s2 := h3
  have h4 : through R [x] s' = (go1 R s' x).bind some := by
    unfold through
    rw [List.foldlM_cons]
    rfl
  rw [h4] at h3
  cases q : go1 R s' x with
  | none => rw [q] at h3; cases h3
  | some s3 =>
    rw [q] at h3
    cases h3
    exact ⟨_, rfl, h2⟩
def sp_can_come (K : PySem.W.Frag) : Sp := fun vs H Q _ => ∃ (v : V) (o : Addr) (pa : Past) (od : List Str), vs = [v, .ref o] ∧ Da K H v (pastD pa) ∧ GoodP pa ∧ (pa.map fun q => q.2.length).sum ≤ 4000 ∧ SqL K H o (od.map V.str) ∧
  (∃ ys, ys.Perm (pa.map (·.1)) ∧ PyProof.Rows.sortedS ys = true ∧ od = (found (rowsOf pa) ys).order) ∧ ∀ H', Same H H' → Q (.bl true) H'
theorem ok_law_can_come (D : Dfn K mg "_law_can_come" s__law_can_come P__law_can_come) (T : TxtL mg) :
    Cal P w K mg base CX0 1 "_law_can_come" s__law_can_come P__law_can_come (sp_can_come K) := D.cal fun f fd F => by
  refine F.ok sc__law_can_come (fun vs H Q E h => ?_) (fun cdv A outer s H vs Q E hr h => ?_)
  · obtain ⟨v, o, pa, od, rfl, _⟩ := h
    rfl
  · obtain ⟨v, o, pa, od, rfl, da, g, few, so, fo, q⟩ := h
    have hu := hu_of hr
    have hu64 := hu64_of hr
    refine ⟨_, (pss_cons (ps_set (i := 2) sc__law_can_come.nd rfl (.inr rfl) (pe_callTy (call_dictPK (K := K) rfl rfl) (by rfl) T.dict (by decide +kernel) (pa_cons (pe_lockO (pe_lc (own := [("hand", 4)]) (g := (gName 4)) rfl sc__law_can_come.nd (pi_keys (pv 0)) (blkOk_by (own := [("hand", 4)]) (N := N__law_can_come) (sc := defScope s__law_can_come) (by decide +kernel)) (fun _ _ _ _ _ => pg_name (i := 4) sc__law_can_come.nd rfl (.inl rfl)) (fun _ _ _ _ _ => pts_nil) (fun _ _ _ _ _ => (pe_tup (pa_cons (pv 4) (pa_cons pe_int pa_nil)))))) pa_nil)))
      (pss_cons (ps_set (i := 3) sc__law_can_come.nd rfl (.inl rfl) pe_dnewK)
      (pss_cons (ps_for PassesOwn.never rfl (pi_listK (K := K) rfl (pv 1)) (pg_name (i := 4) sc__law_can_come.nd rfl (.inl rfl)) (pss_cons (ps_if (PW.pt (pw_or (pt_cmp (pc_dnotin hu (pv 4) (pv 2))) (pw_or1 (pt_cmpR op_eq (pe_dget hu (pv 2) (pv 4) (fun _ _ => rfl)) (pe_callB (call_len_seqK (K := K) rfl) (by rfl) T.len PySem.boot_len (pa_cons (pe_dget hu (pv 0) (pv 4) (fun _ _ => rfl)) pa_nil)) (nomark _))))) (pss_one (ps_ret pe_bl)) pss_nil)
      (pss_cons (ps_set (i := 5) sc__law_can_come.nd rfl (.inl rfl) (pe_ix (ix_listK (K := K) rfl) (pe_dget hu (pv 0) (pv 4) (fun _ _ => rfl)) (pe_dget hu (pv 2) (pv 4) (fun _ _ => rfl)) (fun _ _ => rfl)))
      (pss_cons (ps_dput hu (pv 2) (pv 4) (pe_op op_add (pe_dget hu (pv 2) (pv 4) (fun _ _ => rfl)) pe_int) rfl)
      (pss_cons (ps_if (pt_cmpR op_eq (pe_ix (ix_tupK (K := K) rfl) (pv 5) pe_int (fun _ _ => rfl)) pe_str (nomark _)) (pss_one (ps_dput hu (pv 3) (pe_ix (ix_tupK (K := K) rfl) (pv 5) pe_int (fun _ _ => rfl)) (pe_ix (ix_tupK (K := K) rfl) (pv 5) pe_int (fun _ _ => rfl)) rfl)) pss_nil)
      (pss_one (ps_if (PW.pt (pw_and (pt_cmpR op_eq (pe_ix (ix_tupK (K := K) rfl) (pv 5) pe_int (fun _ _ => rfl)) pe_str (nomark _)) (pw_and1 (pt_cmpR op_ne (pe_dget1 hu (pv 3) (pe_ix (ix_tupK (K := K) rfl) (pv 5) pe_int (fun _ _ => rfl)) ⟨rfl, rfl, rfl, rfl⟩) (pv 4) (nomark _))))) (pss_one (ps_ret pe_bl)) pss_nil)))))))
      (pss_one (ps_ret (pe_cmpR (op_eqD hu64) (pe_lockO (pe_lc (own := [("hand", 4)]) (g := (gName 4)) rfl sc__law_can_come.nd (pi_keys (pv 0)) (blkOk_by (own := [("hand", 4)]) (N := N__law_can_come) (sc := defScope s__law_can_come) (by decide +kernel)) (fun _ _ _ _ _ => pg_name (i := 4) sc__law_can_come.nd rfl (.inl rfl)) (fun _ _ _ _ _ => pts_one (pt_cmpR op_ne (pe_dget hu (pv 2) (pv 4) (fun _ _ => rfl)) (pe_callB (call_len_seqK (K := K) rfl) (by rfl) T.len PySem.boot_len (pa_cons (pe_dget hu (pv 0) (pv 4) (fun _ _ => rfl)) pa_nil)) (nomark _))) (fun _ _ _ _ _ => (pv 4)))) (pe_lst pa_nil) (nomark _))))))), ?_⟩
    obtain ⟨a, ks, rfl, rd, dk⟩ := past_at da
    obtain ⟨ys, perm, srt, rfl⟩ := fo
    have nd := g.nd
    have F := fit_of nd g.told g.heard
    have F' : Fit (rowsOf pa) ys := ⟨fun l h k h' k' j j' m m' => F.1 l h k h' k' j j' (perm.mem_iff.mp m) (perm.mem_iff.mp m'), fun h l j m e => let ⟨a, b, c⟩ := F.2 h l j (perm.mem_iff.mp m) e; ⟨a, perm.mem_iff.mpr b, c⟩⟩
    have S := found_sound F'
    have cl := g.come ys perm srt
    rw [sound_length (perm.nodup_iff.mpr nd) S, ← total_perm _ perm] at cl
    have dn := sum_eq_le S.le cl
    obtain ⟨tf, thr, _⟩ := S.thr
    have ins := S.ins
    generalize hod : (found (rowsOf pa) ys).order = od at so thr ins
    generalize (found (rowsOf pa) ys).done = df at dn thr
    have lod : od.length ≤ 4000 := by
      rw [← hod, g.come ys perm srt, total_past nd]
      exact few
    clear cl S F F'
    refine ⟨a, ks, rd, fun oo un H1 L => ⟨.ref a, rfl, a, oo, rfl, .inl ⟨ks, L.frz, fun M nM => ?_⟩⟩⟩
    have lks := past_len dk
    have l40 := g.few
    refine lc_it walk_keys (fun i H' => ∃ ts : List Addr, H' M = some (.lst (ts.map V.ref)) ∧ Paired (fun t (kv : Key × V) => SqT K H' t [kV kv.1, kv.2]) ts ((ks.take i).map fun kv => (kv.1, V.int 0)) ∧ Same H1 H') ⟨[], upd_same, .nil, same_new nM⟩ (fun i H' _ pv => pv.choose_spec.2.2 _ _ L.frz) ?_ ?_
    · rintro i x H' H'' hi ⟨ts, eM, pr, sm⟩ ⟨rfl, k, v, hk, rfl⟩
      refine ⟨rfl, yes_on ⟨_, rfl, by show 2 ≤ sizeLine; decide, fun t nt => ?_⟩⟩
      have s1 := same_new (o := .tup [kV k, .int 0]) nt
      have eM1 := s1 _ _ eM
      have et : upd H'' t (.tup [kV k, .int 0]) t = some (.tup [kV k, .int 0]) := upd_same
      have fM : H1 M = none := nM
      generalize upd H'' t (.tup [kV k, .int 0]) = Hb at s1 eM1 et
      have lt := pr.length
      rw [List.length_map, List.length_take] at lt
      refine ⟨_, eM1, ?_, ts ++ [t], ?_, ?_, ?_⟩
      · rw [List.length_map]
        have : 50000 < sizeLine := by decide
        omega
      · rw [upd_same, List.map_append]
        rfl
      · have off : Off M Hb (upd Hb M (.lst (ts.map V.ref ++ [.ref t]))) := off_upd
        rw [take_snoc hk, List.map_append]
        exact paired_snoc (Paired.mapP pr fun t kv r => sqt_offl eM1 off (sqt_same s1 r)) (sqt_offl eM1 off (.inl (.inl et)))
      · intro c u q
        rw [upd_ne fun z => by rw [z, fM] at q; cases q]
        exact s1 _ _ (sm _ _ q)
    rintro H' ⟨ts, eM, pr, sm⟩
    refine ⟨sm _ _ L.frz, ?_⟩
    rw [List.take_length] at pr
    have s0 : Same H (un H') := L.same sm
    have eM' := (L.new nM eM).2
    have pr' := Paired.mapP pr fun t kv z => sqt_un L (sm _ _ L.frz) z
    generalize un H' = H2 at s0 eM' pr'
    refine ⟨M, ts, _, rfl, .inl (.inl eM'), pr', fun h2 n2 => ?_⟩
    have kys : (ks.map fun kv => ((kv.1, V.int 0) : Key × V)).map (·.1) = pa.map fun q => Sum.inr q.1 := by
      rw [List.map_map, ← past_keys dk]
      rfl
    have ndk : ((ks.map fun kv => ((kv.1, V.int 0) : Key × V)).map (·.1)).Nodup := by
      rw [kys, show (pa.map fun q => (Sum.inr q.1 : Key)) = (pa.map (·.1)).map Sum.inr by rw [List.map_map]; rfl]
      exact List.Pairwise.map _ (fun a b h e => h (by injection e)) nd
    rw [mergeK_new _ [] (by rw [List.nil_append]; exact ndk), List.nil_append]
    generalize eds : (ks.map fun kv => ((kv.1, V.int 0) : Key × V)) = ds0 at ndk kys
    have lds : ds0.length ≤ 64 := by rw [← eds, List.length_map]; omega
    have dn0 : ∀ h ∈ pa.map (·.1), valV ds0 (.inr h) = some (.int 0) := fun h m => by
      obtain ⟨q, mq, rfl⟩ := List.mem_map.mp m
      obtain ⟨i, hi⟩ := List.mem_iff_getElem?.mp mq
      have e1 : (ds0.map (·.1))[i]? = some (.inr q.1) := by rw [kys, List.getElem?_map, hi]; rfl
      rw [List.getElem?_map] at e1
      cases e2 : ds0[i]? with
      | none => rw [e2] at e1; cases e1
      | some kv =>
        obtain ⟨k, x⟩ := kv
        rw [e2] at e1
        have e1 : some k = some (Sum.inr q.1) := e1
        cases e1
        rw [valV_nodup ndk e2]
        rw [← eds, List.getElem?_map] at e2
        cases e4 : ks[i]? with
        | none => rw [e4] at e2; cases e2
        | some kw =>
          obtain ⟨k2, x2⟩ := kw
          rw [e4] at e2
          have e2 : some (k2, V.int 0) = some (Sum.inr q.1, x) := e2
          cases e2
          rfl
    intro h3 n3
    have ne23 : h2 ≠ h3 := fun z => by rw [← z, upd_same] at n3; cases n3
    have f2 : H h2 = none := s0.free n2
    have s3 : Same H (upd (upd H2 h2 (.dK ds0)) h3 (.dK [])) := (s0.trans (same_new n2)).trans (same_new n3)
    have e2 : upd (upd H2 h2 (.dK ds0)) h3 (.dK []) h2 = some (.dK ds0) := same_new n3 _ _ upd_same
    have e3 : upd (upd H2 h2 (.dK ds0)) h3 (.dK []) h3 = some (.dK []) := upd_same
    have f3 : H h3 = none := (s0.trans (same_new n2)).free n3
    generalize upd (upd H2 h2 (.dK ds0)) h3 (.dK []) = H3 at s3 e2 e3
    have atR : ∀ {H' : Hp}, Same H H' → ∀ h ∈ pa.map (·.1), ∃ b xs, DGet H' a (.str h) (some (.ref b)) ∧ SqL K H' b xs ∧ DaL K H' xs ((rowsOf pa h).map deedD) := fun {H'} s h m => by
      obtain ⟨q, mq, rfl⟩ := List.mem_map.mp m
      rw [rowsOf_mem nd mq]
      obtain ⟨v', hv', da'⟩ := past_look (DaK.same s _ dk) q.2 (look_of nd mq)
      obtain ⟨b, xs, rfl, sl, dl⟩ := row_at da'
      exact ⟨b, xs, .inl ⟨ks, .inr q.1, rd_same s rd, rfl, hv'.symm⟩, sl, dl⟩
    refine ⟨.ref o, rfl, o, rfl, ⟨_, s3.seq so⟩, ?_⟩
    refine for_it (walk_list (K := K) (xs := od.map V.str)) (fun i σ' H' => (∃ y4 y5, σ' = [some (.ref a), some (.ref o), some (.ref h2), some (.ref h3), y4, y5]) ∧ Same H H' ∧ ∃ (gt : Gone) (ds ts : List (Key × V)), through (rowsOf pa) (od.take i) (fun _ => 0, fun _ => none) = some gt ∧
      H' h2 = some (.dK ds) ∧ H' h3 = some (.dK ts) ∧ ds.length ≤ 64 ∧ (∀ h ∈ pa.map (·.1), valV ds (.inr h) = some (.int (gt.1 h : Nat))) ∧ ts.length ≤ i ∧ ∀ l, valV ts (.inl l) = (gt.2 l).map V.str) ?_ (fun i σ' H' _ pv => pv.2.1.seq so) ?_ ?_
    · exact ⟨⟨none, none, rfl⟩, s3, _, ds0, [], rfl, e2, e3, lds, dn0, Nat.le_refl _, fun l => rfl⟩
    · rintro i x σ' H4 H5 hi ⟨⟨y4, y5, rfl⟩, s4, gt, ds, ts, th, e2, e3, lds, dsn, lts, tsn⟩ ⟨rfl, hx⟩
      rw [List.length_map] at hi
      have eh : od[i]? = some (od[i]'hi) := List.getElem?_eq_getElem hi
      generalize od[i]'hi = h at eh
      rw [List.getElem?_map, eh] at hx
      cases hx
      have mh : h ∈ pa.map (·.1) := perm.mem_iff.mp (ins h (List.mem_of_getElem? eh))
      obtain ⟨gt2, go, th2⟩ := thr_step thr eh th
      obtain ⟨b, xs, dg, sl, dl⟩ := atR s4 h mh
      have lx : xs.length = (rowsOf pa h).length := by rw [dl.len, List.length_map]
      have dgo : DGet H5 h2 (.str h) (some (.int (gt.1 h : Nat))) := .inl ⟨ds, .inr h, .inl e2, rfl, (dsn h mh).symm⟩
      have line : 50000 < sizeLine := by decide
      cases ed : (rowsOf pa h)[gt.1 h]? with
      | none =>
        unfold go1 at go
        rw [ed] at go
        cases go
      | some d =>
        have lt : gt.1 h < xs.length := by rw [lx]; exact (List.getElem?_eq_some_iff.mp ed).1
        have ex : xs[gt.1 h]? = some (xs[gt.1 h]'lt) := List.getElem?_eq_getElem lt
        obtain ⟨d', t, hd, ext, stt⟩ := rows_at dl ex
        rw [ed] at hd
        cases hd
        rw [ext] at ex
        refine ⟨.str h, rfl, .ref h2, rfl, h2, some (.int (gt.1 h : Nat)), rfl, dgo, _, rfl, iteF ⟨.ref h2, rfl, .str h, rfl, h2, .int (gt.1 h : Nat), rfl, dgo, .ref a, rfl, .str h, rfl, a, .ref b, rfl, dg, b, xs, rfl, .inl sl, rfl, _, rfl, ?_⟩⟩
        rw [decide_eq_false fun e => by injection e with e; omega]
        refine iteF ⟨.ref a, rfl, .str h, rfl, a, .ref b, rfl, dg, .ref h2, rfl, .str h, rfl, h2, .int (gt.1 h : Nat), rfl, dgo, b, xs, _, .ref t, rfl, rfl, sl, atI_nat ex, ?_⟩
        refine ⟨.ref h2, rfl, .str h, rfl, h2, .int (gt.1 h : Nat), rfl, dgo, _, 1, rfl, rfl, .ref h2, rfl, .str h, rfl, h2, _, rfl, DPut.k (k := Sum.inr h) e2 (by omega), ?_⟩
        have s5 : Same H (upd H5 h2 (.dK (putK ds (.inr h) (.int ((gt.1 h : Nat) + 1))))) := same_mut s4 f2
        have e25 : upd H5 h2 (.dK (putK ds (.inr h) (.int ((gt.1 h : Nat) + 1)))) h2 = some (.dK (putK ds (.inr h) (.int ((gt.1 h : Nat) + 1)))) := upd_same
        have e35 : upd H5 h2 (.dK (putK ds (.inr h) (.int ((gt.1 h : Nat) + 1)))) h3 = some (.dK ts) := by rw [upd_ne ne23.symm]; exact e3
        have st5 : SqT K (upd H5 h2 (.dK (putK ds (.inr h) (.int ((gt.1 h : Nat) + 1))))) t (deedV d) := sqt_off e2 off_upd stt
        have lds5 : (putK ds (.inr h) (.int ((gt.1 h : Nat) + 1))).length ≤ 64 := by rw [putK_same (dsn h mh)]; exact lds
        have dsn5 : ∀ h' ∈ pa.map (·.1), valV (putK ds (.inr h) (.int ((gt.1 h : Nat) + 1))) (.inr h') = some (.int (bump gt.1 h h' : Nat)) := fun h' m' => by
          rw [valV_put]
          unfold bump
          by_cases z : h' = h
          · rw [if_pos (by rw [z]), if_pos z]
            rfl
          · rw [if_neg fun y => z (Sum.inr.inj y), if_neg z]
            exact dsn h' m'
        generalize putK ds (.inr h) (.int ((gt.1 h : Nat) + 1)) = ds5 at s5 e25 e35 st5 lds5 dsn5
        generalize upd H5 h2 (.dK ds5) = H6 at s5 e25 e35 st5
        cases d with
        | keep =>
          have go' : gt2 = (bump gt.1 h, gt.2) := by
            unfold go1 at go
            rw [ed] at go
            exact (Option.some.inj go).symm
          refine ⟨.ref t, rfl, t, _, 0, _, rfl, rfl, st5, atI_nat (j := 0) rfl, rfl, _, rfl, iteF ⟨.ref t, rfl, t, _, 0, _, rfl, rfl, st5, atI_nat (j := 0) rfl, rfl, _, rfl, iteF (iteF ⟨⟨_, _, rfl⟩, s5, gt2, ds5, ts, th2, e25, e35, lds5, ?_, by omega, ?_⟩)⟩⟩
          · rw [go']
            exact dsn5
          · rw [go']
            exact tsn
        | tell l k =>
          have go' : gt2 = (bump gt.1 h, fun m => if m = l then some k else gt.2 m) := by
            unfold go1 at go
            rw [ed] at go
            exact (Option.some.inj go).symm
          refine ⟨.ref t, rfl, t, _, 0, _, rfl, rfl, st5, atI_nat (j := 0) rfl, rfl, _, rfl, iteT ⟨.ref t, rfl, t, _, 2, _, rfl, rfl, st5, atI_nat (j := 2) rfl, .ref h3, rfl, .ref t, rfl, t, _, 1, .int l, rfl, rfl, st5, atI_nat (j := 1) rfl, h3, _, rfl, DPut.k (k := Sum.inl l) e35 (by omega), ?_⟩⟩
          have s6 : Same H (upd H6 h3 (.dK (putK ts (.inl l) (.str k)))) := same_mut s5 f3
          have st6 : SqT K (upd H6 h3 (.dK (putK ts (.inl l) (.str k)))) t (deedV (.tell l k)) := sqt_off e35 off_upd st5
          refine ⟨.ref t, rfl, t, _, 0, _, rfl, rfl, st6, atI_nat (j := 0) rfl, rfl, _, rfl, iteF (iteF ⟨⟨_, _, rfl⟩, s6, gt2, ds5, _, th2, by rw [upd_ne ne23]; exact e25, upd_same, lds5, ?_, ?_, ?_⟩)⟩
          · rw [go']
            exact dsn5
          · have := length_putK ts (.inl l : Key) (.str k)
            omega
          · rw [go']
            intro m
            rw [valV_put]
            by_cases z : m = l
            · rw [if_pos (by rw [z])]
              show _ = (if m = l then some k else gt.2 m).map V.str
              rw [if_pos z]
              rfl
            · rw [if_neg fun y => z (Sum.inl.inj y), tsn]
              show _ = (if m = l then some k else gt.2 m).map V.str
              rw [if_neg z]
        | hear l =>
          have hg : gt.2 l = some h ∧ gt2 = (bump gt.1 h, gt.2) := by
            unfold go1 at go
            rw [ed] at go
            have go : (if gt.2 l = some h then some (bump gt.1 h, gt.2) else none) = some gt2 := go
            by_cases z : gt.2 l = some h
            · rw [if_pos z] at go
              exact ⟨z, (Option.some.inj go).symm⟩
            · rw [if_neg z] at go
              cases go
          obtain ⟨hl, go'⟩ := hg
          have dgl : DGet H6 h3 (.int l) (some (.str h)) := .inl ⟨ts, .inl l, .inl e35, rfl, by rw [tsn, hl]; rfl⟩
          refine ⟨.ref t, rfl, t, _, 0, _, rfl, rfl, st5, atI_nat (j := 0) rfl, rfl, _, rfl, iteF ⟨.ref t, rfl, t, _, 0, _, rfl, rfl, st5, atI_nat (j := 0) rfl, rfl, _, rfl, iteT ⟨.ref h3, rfl, h3, rfl, .inl ⟨_, .inl e35⟩, .ref t, rfl, t, _, 1, .int l, rfl, rfl, st5, atI_nat (j := 1) rfl, some (.str h), dgl, .str h, rfl, rfl, _, rfl, ?_⟩⟩⟩
          show (if (!decide (V.str h = V.str h)) = true then _ else _)
          rw [show decide (V.str h = V.str h) = true from decide_eq_true rfl]
          refine iteF ⟨⟨_, _, rfl⟩, s5, gt2, ds5, ts, th2, e25, e35, lds5, ?_, by omega, ?_⟩
          · rw [go']
            exact dsn5
          · rw [go']
            exact tsn
    · rintro σ' H4 ⟨⟨y4, y5, rfl⟩, s4, gt, ds, ts, th, e2, e3, lds, dsn, lts, tsn⟩
      rw [List.length_map, List.take_length, thr] at th
      cases th
      refine ⟨a, ks, rd_same s4 rd, fun oo un H5 L => ⟨.ref a, rfl, a, oo, rfl, .inl ⟨ks, L.frz, fun M nM => ?_⟩⟩⟩
      have dk5 := DaK.le L.le _ (DaK.same s4 _ dk)
      refine lc_fm walk_keys pa (fun _ => (none : Option Str)) (fun x y _ => y = .str x) nM (past_len dk) (by rw [past_len dk]; omega) (fun H' sm => sm _ _ L.frz) (fun _ _ _ _ _ r => r) ?_ ?_
      · rintro i q' x H6 H7 hi sm - ⟨rfl, k, v, hk, rfl⟩ KK NN kk nn
        obtain ⟨q2, hp, rfl, da⟩ := past_ix dk5 i k v hk
        rw [hi] at hp
        cases Option.some.inj hp
        have mq := List.mem_of_getElem? hi
        obtain ⟨v', hv', da'⟩ := past_look dk5 q'.2 (look_of nd mq)
        obtain ⟨b, xs, rfl, sl, dl⟩ := row_at da'
        have lr : xs.length = q'.2.length := by rw [dl.len, List.length_map]
        have mn : q'.1 ∈ pa.map (·.1) := List.mem_map.mpr ⟨q', mq, rfl⟩
        have dq := dn q'.1 (perm.mem_iff.mpr mn)
        rw [rowsOf_mem nd mq] at dq
        refine ⟨rfl, .ref h2, rfl, .str q'.1, rfl, h2, .int (df q'.1 : Nat), rfl, .inl ⟨ds, .inr q'.1, rd_same sm (L.le _ _ (.inl e2)), rfl, (dsn _ mn).symm⟩, .ref a, rfl, .str q'.1, rfl, a, .ref b, rfl, .inl ⟨ks, .inr q'.1, rd_same sm (L.le _ _ (rd_same s4 rd)), rfl, hv'.symm⟩, b, _, rfl, .inl (sm.seq sl), rfl, _, rfl, ?_⟩
        rw [decide_eq_true (congrArg V.int (by rw [dq, lr]))]
        exact iteF (nn _ rfl (.refl _))
      · intro H6 zs sm eM pr
        refine ⟨sm _ _ L.frz, ?_⟩
        have e9 := paired_eq pr
        have z0 : zs = [] := by
          rw [e9]
          have : ∀ l : Past, (l.filterMap fun _ => (none : Option Str)) = [] := fun l => by
            induction l with
            | nil => rfl
            | cons _ _ ih => exact ih
          rw [this]
          rfl
        subst z0
        have eM' := (L.new nM eM).2
        have s6 := s4.trans (L.same sm)
        refine ⟨by show 0 ≤ sizeLine; decide, fun e ne => ?_⟩
        exact eq_nil (ds := []) (.inl (.inl (same_new ne _ _ eM'))) .nil (fun _ m => (nomatch m)) (.inl (.inl upd_same)) (q _ (s6.trans (same_new ne)))
end
end L2.Fb.Law

namespace L2.Fb
open PySem PySem.Spec
open PyProof.Rows
/-! ### xs[::-1] -/
theorem pick_all {α : Type} : ∀ (l : List α), (l.map some).filterMap id = l
  | [] => rfl
  | a :: l => congrArg (a :: ·) (pick_all l)
theorem slicePick_rev (items : Array Value) : slicePick items none none (some (-1)) = items.toList.reverse.toArray := by
  have b : sliceBounds none none (some (-1)) items.size = ((items.size : Int) - 1, -1, -1) := rfl
  unfold slicePick
  rw [b]
  congr 1
  have r : sliceRange ((items.size : Int) - 1) (-1) (-1) = (List.range items.size).map fun k => items.size - 1 - k := by
    unfold sliceRange
    have c : (if (-1 : Int) > 0 then if (items.size : Int) - 1 < -1 then (-1 - ((items.size : Int) - 1) + -1 - 1) / -1 else 0 else if (items.size : Int) - 1 > -1 then ((items.size : Int) - 1 - -1 - -1 - 1) / - -1 else 0).toNat = items.size := by
      rw [if_neg (by decide)]
      by_cases z : (items.size : Int) - 1 > -1
      · rw [if_pos z, show (- -1 : Int) = 1 from rfl, Int.ediv_one]
        omega
      · rw [if_neg z]
        omega
    show List.map _ (List.range (Int.toNat _)) = _
    rw [c]
    refine List.map_congr_left fun k m => ?_
    omega
  show List.filterMap (fun x => items[x]?) (sliceRange ((items.size : Int) - 1) (-1) (-1)) = _
  rw [r]
  have e : (List.range items.size).map (fun k => items[items.size - 1 - k]?) = items.toList.reverse.map some := by
    apply List.ext_getElem?
    intro i
    rw [List.getElem?_map, List.getElem?_map]
    by_cases z : i < items.size
    · rw [List.getElem?_range z, List.getElem?_reverse (by rw [Array.length_toList]; exact z), Array.length_toList, Array.getElem?_toList]
      show some (items[items.size - 1 - i]?) = _
      have lt : items.size - 1 - i < items.size := by omega
      rw [Array.getElem?_eq_getElem lt]
      rfl
    · have h1 : (List.range items.size)[i]? = none := List.getElem?_eq_none (by rw [List.length_range]; omega)
      have h2 : items.toList.reverse[i]? = none := List.getElem?_eq_none (by rw [List.length_reverse, Array.length_toList]; omega)
      rw [h1, h2]
      rfl
  have f : List.filterMap (fun x => items[x]?) ((List.range items.size).map fun k => items.size - 1 - k) = ((List.range items.size).map (fun k => items[items.size - 1 - k]?)).filterMap id := by
    rw [List.filterMap_map, List.filterMap_map]
    rfl
  rw [f, e, pick_all]
section
variable {X : Cx} {K : PySem.W.Frag}
def tRvS (K : PySem.W.Frag) (te : TE) (ts : TO) : TE := fun σ H Q => te σ H fun x H1 => ts σ H1 fun o H2 => o = some (-1) ∧ ∃ a xs, x = .ref a ∧ SqL K H2 a xs ∧ ∀ p, H2 p = none → Q (.ref p) (upd H2 p (.lst xs.reverse))
theorem pe_revK {e st : Expr} {te : TE} {ts : TO} {pos p2 : Pos} (hK : X.K = K) (he : PE X e te) (hs : PO X (some st) ts) : PE X (.Subscript e (.Slice none none (some st) p2) pos) (tRvS K te ts) := by
  subst hK
  refine ⟨fun pins s σ H Q I h => Subscript_ (thn (he.run pins s σ H _ I h) fun u s1 q => ?_)⟩
  obtain ⟨x, H1, I1, rx, q⟩ := q
  refine wpAny_Slice ?_
  rw [evalPart_none]
  refine wpAny_pure (wpAny_pure ?_)
  refine thn (hs.run pins s1 σ H1 _ I1 q) fun us s2 q => ?_
  obtain ⟨o, H2, I2, pt, rfl, a, xs, rfl, sl, q⟩ := q
  cases rx
  obtain ⟨its, vv, pl, le⟩ := I2.list sl
  have I3 := I2.kept (h' := s2.heap.push { cls := .type "slice", data := .fields #[.none, .none, us] }) (t' := s2.toks) fun b u e => Heap.get?_push_of_some _ e
  obtain ⟨its, vv, pl, le⟩ := I3.list sl
  refine tail_any (T := "list") (pl.isList.typeIs) (slot_list_getitem.lookup) ?_ rfl
  refine wpAny_getItem_list_slice (lo := none) (hi := none) (st := some (-1)) pl.isList (Heap.IsSliceOf.new _ _ _ _) .none .none pt (by decide) ?_ ?_
  · refine ⟨.ref (s2.heap.push _).objs.size, _, I3.laid (o := .lst xs.reverse) (t' := s2.toks) (fun b u e => Heap.get?_push_of_some _ e) (Nat.le_refl _) ?_, rfl, q _ (I3.hok.fresh (Nat.le_refl _))⟩
    rw [slicePick_rev]
    exact ⟨by rw [List.length_reverse]; exact le, its.reverse, _, Vals.reverse vv, Heap.get?_push_size _ rfl⟩
  · show its.toArray.size ≤ sizeLine
    rw [List.size_toArray, ← vv.length]
    exact le
end
end L2.Fb

namespace L2.Fb.Law
open PySem PySem.Spec
open PyProof.Rows
/-! ### a past told in text: how long -/
theorem sum_bound {α : Type} (f : α → Nat) (c : Nat) : ∀ (l : List α), (∀ x ∈ l, f x ≤ c) → (l.map f).sum ≤ c * l.length
  | [], _ => by simp
  | x :: l, h => by
    have h1 := h x (List.mem_cons_self ..)
    have h2 := sum_bound f c l fun y m => h y (List.mem_cons_of_mem _ m)
    rw [List.map_cons, List.sum_cons, List.length_cons, Nat.mul_succ]
    omega
theorem repr_name {x : Str} (h : nameOk x = true) : (reprText x).length ≤ 82 := by
  unfold nameOk at h
  simp only [Bool.and_eq_true, List.all_eq_true, decide_eq_true_eq] at h
  have h1 := StrLaws.reprText_len x fun c hc => by
    have := h.2 c hc
    have : (122 : Nat) < 16 ^ 8 := by decide
    omega
  omega
theorem repr_word (d : Deed) : (reprText (word d)).length ≤ 42 := by
  have h1 : (reprText "keep").length ≤ 42 := by decide +kernel
  have h2 : (reprText "tell").length ≤ 42 := by decide +kernel
  have h3 : (reprText "hear").length ≤ 42 := by decide +kernel
  cases d with
  | keep => exact h1
  | tell _ _ => exact h2
  | hear _ => exact h3
def LetterSmall : Deed → Prop
  | .keep => True
  | .tell l h => 0 ≤ l ∧ l < 1000000000 ∧ nameOk h = true
  | .hear l => 0 ≤ l ∧ l < 1000000000
theorem p10 : (10 : Int) ^ 9 = 1000000000 := by decide
theorem int_len {l : Int} (h0 : 0 ≤ l) (h1 : l < 1000000000) : (Str.ofString (toString l)).length ≤ 9 := toString_length_le h0 (by decide) (by rw [p10]; exact h1)
theorem int_show {l : Int} (h0 : 0 ≤ l) (h1 : l < 1000000000) : (PyData.int l).showable = true := by
  unfold PyData.showable
  rw [decide_eq_true_eq]
  by_cases z : l.natAbs = 0
  · rw [z]
    decide
  · have h30 : l.natAbs < 2 ^ 30 := by
      have : (2 : Nat) ^ 30 = 1073741824 := by decide
      omega
    have := (Nat.log2_lt z).mpr h30
    omega
theorem show_deed {d : Deed} (h : LetterSmall d) : (deedD d).showable = true ∧ (deedD d).shown.length ≤ 300 ∧ (deedD d).depth ≤ 1 := by
  have w := repr_word d
  have key : ∀ (ds : List PyData), (∀ x ∈ ds, x.showable = true ∧ x.shown.length ≤ 82 ∧ x.depth = 0) → ds.length ≤ 3 → (PyData.tuple ds).showable = true ∧ (PyData.tuple ds).shown.length ≤ 300 ∧ (PyData.tuple ds).depth ≤ 1 := by
    intro ds hx hl
    have h1 : PyData.showableAll ds = true ∧ PyData.depthAll ds = 0 ∧ ((PyData.shownAll ds).map (·.length)).sum ≤ 82 * ds.length ∧ (PyData.shownAll ds).length = ds.length := by
      clear hl
      induction ds with
      | nil => exact ⟨rfl, rfl, Nat.zero_le _, rfl⟩
      | cons x ds ih =>
        obtain ⟨a, b, c, e⟩ := ih fun y m => hx y (List.mem_cons_of_mem _ m)
        obtain ⟨a1, b1, c1⟩ := hx x (List.mem_cons_self ..)
        refine ⟨?_, ?_, ?_, ?_⟩
        · unfold PyData.showableAll
          rw [a1, a]
          rfl
        · unfold PyData.depthAll
          rw [b, c1]
          rfl
        · unfold PyData.shownAll
          rw [List.map_cons, List.sum_cons, List.length_cons]
          omega
        · unfold PyData.shownAll
          rw [List.length_cons, List.length_cons, e]
    obtain ⟨a, b, c, e⟩ := h1
    refine ⟨?_, ?_, ?_⟩
    · unfold PyData.showable
      exact a
    · unfold PyData.shown
      have := tupleText_len_le (PyData.shownAll ds)
      omega
    · unfold PyData.depth
      omega
  have hs : ∀ x : Str, (reprText x).length ≤ 82 → (PyData.str x).showable = true ∧ (PyData.str x).shown.length ≤ 82 ∧ (PyData.str x).depth = 0 := fun x h => ⟨by unfold PyData.showable; rfl, by unfold PyData.shown; exact h, by unfold PyData.depth; rfl⟩
  have hi : ∀ l : Int, 0 ≤ l → l < 1000000000 → (PyData.int l).showable = true ∧ (PyData.int l).shown.length ≤ 82 ∧ (PyData.int l).depth = 0 := fun l h0 h1 => ⟨int_show h0 h1, by unfold PyData.shown; have := int_len h0 h1; omega, by unfold PyData.depth; rfl⟩
  cases d with
  | keep =>
    refine key _ (fun x m => ?_) (by simp)
    cases (List.mem_singleton.mp m)
    exact hs _ (Nat.le_trans w (by decide))
  | hear l =>
    refine key _ (fun x m => ?_) (by simp)
    rcases List.mem_cons.mp m with rfl | m
    · exact hs _ (Nat.le_trans w (by decide))
    · cases (List.mem_singleton.mp m)
      exact hi l h.1 h.2
  | tell l k =>
    refine key _ (fun x m => ?_) (by simp)
    rcases List.mem_cons.mp m with rfl | m
    · exact hs _ (Nat.le_trans w (by decide))
    · rcases List.mem_cons.mp m with rfl | m
      · exact hi l h.1 h.2.1
      · cases (List.mem_singleton.mp m)
        exact hs _ (repr_name h.2.2)
theorem show_row : ∀ {r : List Deed}, (∀ d ∈ r, LetterSmall d) → PyData.showableAll (r.map deedD) = true ∧ PyData.depthAll (r.map deedD) ≤ 1 ∧ ((PyData.shownAll (r.map deedD)).map (·.length)).sum ≤ 300 * r.length ∧ (PyData.shownAll (r.map deedD)).length = r.length
  | [], _ => ⟨rfl, Nat.zero_le _, Nat.zero_le _, rfl⟩
  | d :: r, h => by
    obtain ⟨a, b, c, e⟩ := show_row (r := r) fun y m => h y (List.mem_cons_of_mem _ m)
    obtain ⟨a1, b1, c1⟩ := show_deed (h d (List.mem_cons_self ..))
    rw [List.map_cons]
    refine ⟨?_, ?_, ?_, ?_⟩
    · unfold PyData.showableAll
      rw [a1, a]
      rfl
    · unfold PyData.depthAll
      omega
    · unfold PyData.shownAll
      rw [List.map_cons, List.sum_cons, List.length_cons]
      omega
    · unfold PyData.shownAll
      rw [List.length_cons, List.length_cons, e]
theorem show_rows : ∀ {p : Past}, (∀ q ∈ p, nameOk q.1 = true ∧ ∀ d ∈ q.2, LetterSmall d) → PyData.showableKv (pastKv p) = true ∧ PyData.depthKv (pastKv p) ≤ 2 ∧
    ((PyData.shownKv (pastKv p)).map (·.length)).sum ≤ 100 * p.length + 302 * (p.map fun q => q.2.length).sum ∧ (PyData.shownKv (pastKv p)).length = p.length
  | [], _ => ⟨rfl, Nat.zero_le _, Nat.zero_le _, rfl⟩
  | (h, r) :: p, hh => by
    obtain ⟨a, b, c, e⟩ := show_rows (p := p) fun y m => hh y (List.mem_cons_of_mem _ m)
    obtain ⟨n1, d1⟩ := hh _ (List.mem_cons_self ..)
    have d1 : ∀ d ∈ r, LetterSmall d := d1
    obtain ⟨a1, b1, c1, e1⟩ := show_row d1
    have nl : (reprText h).length ≤ 82 := repr_name n1
    show PyData.showableKv ((.str h, rowD r) :: pastKv p) = true ∧ PyData.depthKv ((.str h, rowD r) :: pastKv p) ≤ 2 ∧ ((PyData.shownKv ((.str h, rowD r) :: pastKv p)).map (·.length)).sum ≤ _ ∧ (PyData.shownKv ((.str h, rowD r) :: pastKv p)).length = _
    refine ⟨?_, ?_, ?_, ?_⟩
    · unfold PyData.showableKv
      rw [a]
      show ((PyData.str h).showable && (PyData.list (r.map deedD)).showable && true) = true
      unfold PyData.showable
      rw [a1]
      rfl
    · unfold PyData.depthKv
      show max (max (PyData.str h).depth (PyData.list (r.map deedD)).depth) _ ≤ 2
      unfold PyData.depth
      omega
    · unfold PyData.shownKv
      rw [List.map_cons, List.sum_cons, List.map_cons, List.sum_cons, List.length_cons]
      have l1 : ((PyData.str h).shown ++ ": " ++ (rowD r).shown).length = (reprText h).length + 2 + (listText (PyData.shownAll (r.map deedD))).length := by
        have e1 : (PyData.str h).shown = reprText h := by
          unfold PyData.shown
          rfl
        have e2 : (rowD r).shown = listText (PyData.shownAll (r.map deedD)) := by
          show (PyData.list (r.map deedD)).shown = _
          unfold PyData.shown
          rfl
        rw [e1, e2, Str.length_append, Str.length_append]
        rfl
      have l2 := listText_len_le (PyData.shownAll (r.map deedD))
      have z : ((h, r) : Str × List Deed).2.length = r.length := rfl
      rw [l1, z]
      omega
    · unfold PyData.shownKv
      rw [List.length_cons, List.length_cons, e]
theorem show_past {p : Past} (h : ∀ q ∈ p, nameOk q.1 = true ∧ ∀ d ∈ q.2, LetterSmall d) (few : p.length ≤ 40) (all : (p.map fun q => q.2.length).sum ≤ 4000) : (pastD p).showable = true ∧ (pastD p).shown.length ≤ sizeLine ∧ (pastD p).depth ≤ 60 := by
  obtain ⟨a, b, c, e⟩ := show_rows h
  unfold pastD
  refine ⟨?_, ?_, ?_⟩
  · unfold PyData.showable
    exact a
  · unfold PyData.shown
    have := dictText_len_le (PyData.shownKv (pastKv p))
    have : 16000000 < sizeLine := by decide
    omega
  · unfold PyData.depth
    omega
theorem small_letters {p : Past} (g : GoodP p) (lt : ∀ l ∈ toldP p, l < 1000000000) : ∀ q ∈ p, nameOk q.1 = true ∧ ∀ d ∈ q.2, LetterSmall d := fun q m => by
  refine ⟨g.names q m, fun d md => ?_⟩
  have gd := g.deeds q m d md
  cases d with
  | keep => trivial
  | tell l h => exact ⟨gd.1, lt l (List.mem_flatMap.mpr ⟨q, m, List.mem_filterMap.mpr ⟨_, md, rfl⟩⟩), gd.2.1⟩
  | hear l =>
    have h1 : (l, q.1) ∈ hearsP p := List.mem_flatMap.mpr ⟨q, m, List.mem_filterMap.mpr ⟨_, md, rfl⟩⟩
    have h2 := g.heard.1 _ h1
    have h3 : l ∈ toldP p := by
      rw [← tells_fst]
      exact List.mem_map.mpr ⟨_, h2, rfl⟩
    exact ⟨gd, lt l h3⟩
theorem rowsOf_none {p : Past} {h : Str} (hn : h ∉ p.map (·.1)) : rowsOf p h = [] := by
  unfold rowsOf look
  have : (p.find? fun q => decide (q.1 = h)) = none := by
    rw [List.find?_eq_none]
    intro x mx
    simp only [decide_eq_true_eq]
    exact fun y => hn (List.mem_map.mpr ⟨x, mx, y⟩)
  rw [this]
  rfl
theorem rowsOf_perm {p q : Past} (h : q.Perm p) (nd : (p.map (·.1)).Nodup) : rowsOf q = rowsOf p := by
  funext x
  have nd' : (q.map (·.1)).Nodup := (h.map _).nodup_iff.mpr nd
  by_cases m : x ∈ p.map (·.1)
  · obtain ⟨z, mz, rfl⟩ := List.mem_map.mp m
    rw [rowsOf_mem nd mz, rowsOf_mem nd' (h.mem_iff.mpr mz)]
  · rw [rowsOf_none m, rowsOf_none fun y => m ((h.map _).mem_iff.mp y)]
theorem GoodP.perm {p q : Past} (h : q.Perm p) (g : GoodP p) : GoodP q := by
  have hn : (q.map (·.1)).Perm (p.map (·.1)) := h.map _
  have ht : (toldP q).Perm (toldP p) := h.flatMap_right _
  have hh : (hearsP q).Perm (hearsP p) := h.flatMap_right _
  have he : (tellsP q).Perm (tellsP p) := h.flatMap_right _
  refine ⟨by rw [h.length_eq]; exact g.some, by rw [h.length_eq]; exact g.few, hn.nodup_iff.mpr g.nd, fun x m => g.names x (h.mem_iff.mp m), fun x m d md => ?_, ht.nodup_iff.mpr g.told, ⟨fun x m => he.mem_iff.mpr (g.heard.1 x (hh.mem_iff.mp m)), (hh.map _).nodup_iff.mpr g.heard.2⟩, fun ys perm srt => ?_⟩
  · have gd := g.deeds x (h.mem_iff.mp m) d md
    cases d with
    | keep => trivial
    | tell l k => exact ⟨gd.1, gd.2.1, hn.mem_iff.mpr gd.2.2.1, gd.2.2.2⟩
    | hear l => exact gd
  · rw [rowsOf_perm h g.nd, total_perm _ hn]
    exact g.come ys (perm.trans hn) srt
/-- the rows in another order -/
def inOrder (p : Past) (zs : List Str) : Past := zs.map fun h => (h, rowsOf p h)
theorem inOrder_self {p : Past} (nd : (p.map (·.1)).Nodup) : inOrder p (p.map (·.1)) = p := by
  unfold inOrder
  rw [List.map_map]
  have : p.map ((fun h => (h, rowsOf p h)) ∘ fun q => q.1) = p.map id := List.map_congr_left fun q m => by
    show (q.1, rowsOf p q.1) = q
    rw [rowsOf_mem nd m]
  rw [this, List.map_id]
theorem inOrder_perm {p : Past} (nd : (p.map (·.1)).Nodup) {zs : List Str} (h : zs.Perm (p.map (·.1))) : (inOrder p zs).Perm p := by
  have := h.map fun h => (h, rowsOf p h)
  have e := inOrder_self nd
  unfold inOrder at e
  rw [e] at this
  exact this
theorem inOrder_names (p : Past) (zs : List Str) : (inOrder p zs).map (·.1) = zs := by
  unfold inOrder
  rw [List.map_map]
  exact List.map_id _
theorem sum_perm {α : Type} {f : α → Nat} {p q : List α} (h : p.Perm q) : (p.map f).sum = (q.map f).sum := by
  induction h with
  | nil => rfl
  | cons x _ ih => simp only [List.map_cons, List.sum_cons, ih]
  | swap x y l => simp only [List.map_cons, List.sum_cons]; omega
  | trans _ _ a b => exact a.trans b
end L2.Fb.Law

namespace L2.Fb.Law
open PySem PySem.Spec
open PyProof.Rows
theorem RowsA.snocR {K : PySem.W.Frag} {H : Hp} {b : Addr} {h : Str} {r : List Deed} {xs : List V} : ∀ {bs : List Addr} {pa : Past}, RowsA K H bs pa → H b = some (.lst xs) → RowX K H xs r → RowsA K H (bs ++ [b]) (pa ++ [(h, r)])
  | _, _, .nil, e, d => .cons e d .nil
  | _, _, .cons a c z, e, d => .cons a c (RowsA.snocR z e d)
theorem eqvAll_strs : ∀ (l : List Str), PyData.eqvAll (l.map PyData.str) (l.map PyData.str) = true
  | [] => rfl
  | x :: l => by
    have ih := eqvAll_strs l
    rw [List.map_cons]
    unfold PyData.eqvAll
    rw [ih]
    have : (PyData.str x).eqv (PyData.str x) = true := by
      unfold PyData.eqv
      simp
    rw [this]
    rfl
/-- a list of texts against its like -/
theorem ne_same {K : PySem.W.Frag} {H : Hp} {a b : Addr} {l : List Str} {Q : VK} (ha : SqL K H a (l.map V.str)) (hb : SqL K H b (l.map V.str)) (ok : ∀ x ∈ l, PyData.strOk x = true) (q : Q (.bl false) H) : rNeD K (.ref a) (.ref b) H Q := by
  refine ⟨_, _, .lst ha (dp_strs l), .lst hb (dp_strs l), shaped_lst (sh_strs ok), shaped_lst (sh_strs ok), ?_⟩
  have : (PyData.list (l.map PyData.str)).eqv (.list (l.map PyData.str)) = true := by
    unfold PyData.eqv
    exact eqvAll_strs l
  rw [this]
  exact q
end L2.Fb.Law

namespace L2.Fb.Law
open PySem PySem.Spec
open PyProof.Rows
abbrev s_law : Stmt := topS 28
abbrev N_law : List Str := ["script", "k", "pot", "most", "long", "rows", "kept", "told", "held", "filled", "hand"]
abbrev P_law : List Str := ["script"]
theorem sc_law : FnScope N_law P_law (defScope s_law) := ⟨rfl, rfl, rfl, by decide +kernel, rfl, by decide +kernel, by decide +kernel⟩
section
variable {P : Program} {w : World} {K : PySem.W.Frag} {mg : Str → Option Value} {base : Heap}
theorem daL_strs {H : Hp} : ∀ (l : List Str), DaL K H (l.map V.str) (l.map PyData.str)
  | [] => .nil
  | x :: l => .cons (.str x) (daL_strs l)
theorem da_strs {H : Hp} {o : Addr} {l : List Str} (h : SqL K H o (l.map V.str)) : Da K H (.ref o) (.list (l.map PyData.str)) := .lst h (daL_strs l)
theorem RowsAt.look {H : Hp} {r : Addr} {bs : List Addr} {pa : Past} (h : RowsAt K H r bs pa) (nd : (pa.map (·.1)).Nodup) {a : Str} (m : a ∈ pa.map (·.1)) :
    ∃ (k : Nat) (b : Addr) (xs : List V), pa[k]? = some (a, rowsOf pa a) ∧ bs[k]? = some b ∧ H b = some (.lst xs) ∧ RowX K H xs (rowsOf pa a) ∧ DGet H r (.str a) (some (.ref b)) := by
  obtain ⟨q, mq, rfl⟩ := List.mem_map.mp m
  obtain ⟨k, hk⟩ := List.mem_iff_getElem?.mp mq
  obtain ⟨b, xs, hb, eb, dl⟩ := h.rows.get hk
  have lb : (pa.map (·.1)).length = bs.length := by rw [h.rows.len, List.length_map]
  rw [rowsOf_mem nd mq]
  exact ⟨k, b, xs, hk, hb, eb, dl, .inl ⟨_, .inr q.1, .inl h.dict, rfl, (kvN_val nd lb (by rw [List.getElem?_map, hk]; rfl) hb).symm⟩⟩
def sp_law (K : PySem.W.Frag) : Sp := fun vs H Q _ => ∃ (a : Addr) (ns : List Int), vs = [.ref a] ∧ SqL K H a (ns.map V.int) ∧ ns.length ≤ 63 ∧ ∀ H', Q (.bl true) H'
theorem ok_law {f : Addr} {fd : FuncData} (F : Fun K "law" "law" s_law f fd) (T : TxtL mg) (C__law_pot : Cal P w K mg base CX0 1 "_law_pot" s__law_pot P__law_pot (sp_pot K)) (C__law_dip : Cal P w K mg base CX0 1 "_law_dip" s__law_dip P__law_dip (sp_dip K))
    (C__law_past : Cal P w K mg base CX0 3 "_law_past" s__law_past P__law_past (sp_past K)) (C_order_of : Cal P w K mg base CX0 8 "order_of" s_order_of P_order_of (sp_order_of K)) (C__law_can_come : Cal P w K mg base CX0 1 "_law_can_come" s__law_can_come P__law_can_come (sp_can_come K)) :
    FnG P w K mg base CX0 9 f fd P_law (sp_law K) := by
  refine okG F sc_law (fun vs H Q E h => ?_) (fun cdv A outer s H vs Q E hgd hr h => ?_)
  · obtain ⟨a, ns, rfl, _⟩ := h
    rfl
  · obtain ⟨a, ns, rfl, so, few, q⟩ := h
    have hu := hu_of hr
    have hu64 := hu64_of hr
    refine ⟨_, PSs.nox ((pss_cons (ps_for PassesOwn.never rfl (pi_range1 (by rfl) T.range (pa_cons (pe_callB (call_max2 rfl) (by rfl) T.max (by decide +kernel) (pa_cons pe_int (pa_cons (pe_callB (call_min2 rfl) (by rfl) T.min (by decide +kernel) (pa_cons pe_int (pa_cons (pe_op op_add (pe_callB (call_len_seqK (K := K) rfl) (by rfl) T.len PySem.boot_len (pa_cons (pv 0) pa_nil)) pe_int) pa_nil))) pa_nil))) pa_nil)) (pg_name (i := 1) sc_law.nd rfl (.inl rfl)) (pss_cons (ps_set (i := 2) sc_law.nd rfl (.inl rfl) (pe_callC C__law_pot (hr.mono (by decide)) rfl pass0 (pa_cons (pv 0) (pa_cons (pv 1) pa_nil))))
      (pss_cons (ps_asg (pe_ix (ix_listK (K := K) rfl) (pe_lst (pa_cons (pe_tup (pa_cons pe_int (pa_cons pe_int pa_nil))) (pa_cons (pe_tup (pa_cons pe_int (pa_cons pe_int pa_nil))) (pa_cons (pe_tup (pa_cons pe_int (pa_cons pe_int pa_nil))) (pa_cons (pe_tup (pa_cons pe_int (pa_cons (pe_ix (ix_listK (K := K) rfl) (pe_lst (pa_cons pe_int (pa_cons pe_int pa_nil))) (pe_callTy call_int1 (by rfl) T.int (by decide +kernel) (pa_cons (pe_cmpR op_eq (pv 1) pe_int (nomark _)) pa_nil)) (fun _ _ => rfl)) pa_nil))) pa_nil))))) (pe_callC C__law_dip (hr.mono (by decide)) rfl pass0 (pa_cons (pv 2) (pa_cons pe_int pa_nil))) (fun _ _ => rfl)) (pg_tupK (n := 2) (K := K) rfl (by rfl) (pgs_cons (pg_name (i := 3) sc_law.nd rfl (.inl rfl)) (pgs_cons (pg_name (i := 4) sc_law.nd rfl (.inl rfl)) pgs_nil))))
      (pss_cons (ps_set (i := 5) sc_law.nd rfl (.inr rfl) (pe_callC C__law_past (hr.mono (by decide)) rfl pass0 (pa_cons (pv 2) (pa_cons (pv 3) (pa_cons (pv 4) pa_nil)))))
      (pss_cons (ps_set (i := 6) sc_law.nd rfl (.inl rfl) (pe_callB (call_show hgd hu64) (by rfl) T.repr (by decide +kernel) (pa_cons (pv 5) pa_nil)))
      (pss_cons (ps_set (i := 7) sc_law.nd rfl (.inl rfl) (pe_callC C_order_of (hr.mono (by decide)) rfl pass0 (pa_cons (pv 5) pa_nil)))
      (pss_cons (ps_if (PW.pt (pw_or (pt_not (pt_val (pe_callB (call_isiKK (K := K) rfl) (by rfl) T.isinstance (by decide +kernel) (pa_cons (pv 7) (pa_cons (pe_bltn (v := .ty "list") (by rfl) T.list (by decide +kernel) rfl) pa_nil))))) (pw_or (pt_not (pt_val (pe_callC C__law_can_come (hr.mono (by decide)) rfl pass0 (pa_cons (pv 5) (pa_cons (pv 7) pa_nil))))) (pw_or1 (pt_cmpR op_ne (pe_callB (call_show hgd hu64) (by rfl) T.repr (by decide +kernel) (pa_cons (pv 5) pa_nil)) (pv 6) (nomark _)))))) (pss_one (ps_ret pe_bl)) pss_nil)
      (pss_cons (ps_set (i := 8) sc_law.nd rfl (.inl rfl) (pe_callTy (call_list_ofK (K := K) rfl) (by rfl) T.list (by decide +kernel) (pa_cons (pv 7) pa_nil)))
      (pss_cons (ps_expr (pe_bm0 PySem.F.plainAttrs_list PySem.F.slot_list_reverse PySem.F.type_list_reverse mt_reverse (pv 7)))
      (pss_cons (ps_expr (pe_bmK (K := K) rfl PySem.F.plainAttrs_list PySem.F.slot_list_append PySem.F.type_list_append mt_append (pv 7) (pa_cons pe_str pa_nil)))
      (pss_cons (ps_set (i := 9) sc_law.nd rfl (.inl rfl) (pe_callTy (call_dictPK (K := K) rfl rfl) (by rfl) T.dict (by decide +kernel) (pa_cons (pe_lc (own := [("hand", 10)]) (g := (gName 10)) rfl sc_law.nd (pi_listK (K := K) rfl (pe_revK (K := K) rfl (pe_callB (call_sortedD rfl) (by rfl) T.sorted (by decide +kernel) (pa_cons (pv 5) pa_nil)) (po_some (pe_un un_neg pe_int)))) (blkOk_by (own := [("hand", 10)]) (N := N_law) (sc := defScope s_law) (by decide +kernel)) (fun _ _ _ _ _ => pg_name (i := 10) sc_law.nd rfl (.inl rfl)) (fun _ _ _ _ _ => pts_nil) (fun _ _ _ _ _ => (pe_tup (pa_cons (pv 10) (pa_cons (pe_callTy (call_list_ofK (K := K) rfl) (by rfl) T.list (by decide +kernel) (pa_cons (pe_dget hu (pv 5) (pv 10) (fun _ _ => rfl)) pa_nil)) pa_nil))))) pa_nil)))
      (pss_cons (ps_if (PW.pt (pw_or (pt_cmpR (op_neD hu64) (pe_callC C_order_of (hr.mono (by decide)) rfl pass0 (pa_cons (pv 5) pa_nil)) (pv 8) (nomark _)) (pw_or1 (pt_cmpR (op_neD hu64) (pe_callC C_order_of (hr.mono (by decide)) rfl pass0 (pa_cons (pv 9) pa_nil)) (pv 8) (nomark _))))) (pss_one (ps_ret pe_bl)) pss_nil)
      (pss_cons (ps_set (i := 10) sc_law.nd rfl (.inl rfl) (pe_ix (ix_listK (K := K) rfl) (pe_callB (call_sortedD rfl) (by rfl) T.sorted (by decide +kernel) (pa_cons (pv 5) pa_nil)) (pe_callC C__law_dip (hr.mono (by decide)) rfl pass0 (pa_cons (pv 2) (pa_cons (pe_callB call_lenDN (by rfl) T.len PySem.boot_len (pa_cons (pv 5) pa_nil)) pa_nil))) (fun _ _ => rfl)))
      (pss_cons (ps_expr (pe_bmK (K := K) rfl PySem.F.plainAttrs_list PySem.F.slot_list_append PySem.F.type_list_append mt_append (pe_dget hu (pv 5) (pv 10) (fun _ _ => rfl)) (pa_cons (pe_tup (pa_cons pe_str pa_nil)) pa_nil)))
      (pss_one (ps_if (pt_not (pt_val (pe_callC C__law_can_come (hr.mono (by decide)) rfl pass0 (pa_cons (pv 5) (pa_cons (pe_callC C_order_of (hr.mono (by decide)) rfl pass0 (pa_cons (pv 5) pa_nil)) pa_nil))))) (pss_one (ps_ret pe_bl)) pss_nil))))))))))))))))
      (pss_one (ps_ret pe_bl)))), ?_⟩
    refine ⟨.ref a, rfl, a, _, rfl, .inl so, _, 1, rfl, rfl, 8, _, rfl, 1, _, rfl, _, rfl, ?_, ?_, ?_⟩
    · split <;> omega
    · split <;> split <;> omega
    generalize hcount : (if (if ((List.map V.int ns).length : Int) + 1 < 8 then ((List.map V.int ns).length : Int) + 1 else 8) > 1 then (if ((List.map V.int ns).length : Int) + 1 < 8 then ((List.map V.int ns).length : Int) + 1 else 8) else 1).toNat = count
    have c8 : count ≤ 8 := by
      rw [← hcount]
      split <;> split <;> omega
    refine for_it walk_range (fun i σ' H' => (∃ y1 y2 y3 y4 y5 y6 y7 y8 y9 y10, σ' = [some (.ref a), y1, y2, y3, y4, y5, y6, y7, y8, y9, y10]) ∧ Same H H') ⟨⟨none, none, none, none, none, none, none, none, none, none, rfl⟩, .refl _⟩ (fun _ _ _ _ _ => trivial) ?_ ?_
    · rintro i x σ' H1 H1' hi ⟨⟨y1, y2, y3, y4, y5, y6, y7, y8, y9, y10, rfl⟩, s1⟩ ⟨rfl, rfl⟩
      refine ⟨.ref a, rfl, .int (0 + (i : Nat)), rfl, a, ns, i, congrArg (fun z => [V.ref a, V.int z]) (by omega), s1.seq so, by omega, fun H2 p s2 np pot => ?_⟩
      obtain ⟨lg, hlg, lg390⟩ : ∃ lg : Nat, atI [V.int 200, V.int 390] (if decide (V.int (0 + (i : Nat)) = V.int 0) = true then 1 else 0) = some (.int (lg : Nat)) ∧ lg ≤ 390 := by
        by_cases z : decide (V.int (0 + (i : Nat)) = V.int 0) = true
        · rw [if_pos z]
          exact ⟨390, atI_nat (j := 1) rfl, Nat.le_refl _⟩
        · rw [if_neg z]
          exact ⟨200, atI_nat (j := 0) rfl, by decide⟩
      refine ⟨by show 2 ≤ sizeLine; decide, fun t0 m0 => ?_⟩
      have sA := same_new (o := .tup [.int 3, .int 12]) m0
      have e0 : upd H2 t0 (.tup [.int 3, .int 12]) t0 = some (.tup [.int 3, .int 12]) := upd_same
      generalize upd H2 t0 (.tup [.int 3, .int 12]) = HA at sA e0
      refine ⟨by show 2 ≤ sizeLine; decide, fun t1 m1 => ?_⟩
      have sB := same_new (o := .tup [.int 8, .int 60]) m1
      have e1 : upd HA t1 (.tup [.int 8, .int 60]) t1 = some (.tup [.int 8, .int 60]) := upd_same
      generalize upd HA t1 (.tup [.int 8, .int 60]) = HB at sB e1
      refine ⟨by show 2 ≤ sizeLine; decide, fun t2 m2 => ?_⟩
      have sC := same_new (o := .tup [.int 8, .int 60]) m2
      have e2 : upd HB t2 (.tup [.int 8, .int 60]) t2 = some (.tup [.int 8, .int 60]) := upd_same
      generalize upd HB t2 (.tup [.int 8, .int 60]) = HC at sC e2
      refine ⟨by show 2 ≤ sizeLine; decide, fun tb mb => ?_⟩
      have sD := same_new (o := .lst [.int 200, .int 390]) mb
      have eb : upd HC tb (.lst [.int 200, .int 390]) tb = some (.lst [.int 200, .int 390]) := upd_same
      generalize upd HC tb (.lst [.int 200, .int 390]) = HD at sD eb
      refine ⟨.int (0 + (i : Nat)), rfl, rfl, .inr ⟨_, rfl, tb, _, _, _, rfl, rfl, .inl (.inl eb), hlg, by show 2 ≤ sizeLine; decide, fun t3 m3 => ?_⟩⟩
      have sE := same_new (o := .tup [.int 40, .int (lg : Nat)]) m3
      have e3 : upd HD t3 (.tup [.int 40, .int (lg : Nat)]) t3 = some (.tup [.int 40, .int (lg : Nat)]) := upd_same
      generalize upd HD t3 (.tup [.int 40, .int (lg : Nat)]) = HE at sE e3
      refine ⟨by show 4 ≤ sizeLine; decide, fun tl ml => ?_⟩
      have sF := same_new (o := .lst [.ref t0, .ref t1, .ref t2, .ref t3]) ml
      have el : upd HE tl (.lst [.ref t0, .ref t1, .ref t2, .ref t3]) tl = some (.lst [.ref t0, .ref t1, .ref t2, .ref t3]) := upd_same
      generalize upd HE tl (.lst [.ref t0, .ref t1, .ref t2, .ref t3]) = HF at sF el
      have s2F : Same H2 HF := ((((sA.trans sB).trans sC).trans sD).trans sE).trans sF
      have g0 := sF _ _ (sE _ _ (sD _ _ (sC _ _ (sB _ _ e0))))
      have g1 := sF _ _ (sE _ _ (sD _ _ (sC _ _ e1)))
      have g2 := sF _ _ (sE _ _ (sD _ _ e2))
      have g3 := sF _ _ e3
      clear sA sB sC sD sE sF e0 e1 e2 e3 eb m0 m1 m2 m3 mb ml
      have potF : PotAt HF p 1000000 := pot.off fun u z => s2F _ _ z
      have np0 : H p = none := s1.free np
      have sHF : Same H HF := (s1.trans s2).trans s2F
      clear pot s2F np s2 s1
      refine ⟨.ref p, rfl, p, 4, 999999, rfl, by omega, by omega, potF, fun HG k0 oG potG k00 k01 => ?_⟩
      have sHG : Same H HG := fun b u z => oG b u (fun y => by rw [y, np0] at z; cases z) (sHF b u z)
      have pick : ∃ (t : Addr) (mo lo : Nat), atI [V.ref t0, V.ref t1, V.ref t2, V.ref t3] k0 = some (.ref t) ∧ SqT K HG t [.int (mo : Nat), .int (lo : Nat)] ∧ 1 ≤ mo ∧ mo ≤ 40 ∧ lo ≤ 390 := by
        obtain ⟨px, py, pz, ep, _⟩ := potF
        have off : ∀ {t : Addr} {xs : List V}, HF t = some (.tup xs) → SqT K HG t xs := fun e => sqt_offl ep oG (.inl (.inl e))
        have c : k0 = 0 ∨ k0 = 1 ∨ k0 = 2 ∨ k0 = 3 := by omega
        rcases c with rfl | rfl | rfl | rfl
        · exact ⟨t0, 3, 12, atI_nat (j := 0) rfl, off g0, by decide, by decide, by decide⟩
        · exact ⟨t1, 8, 60, atI_nat (j := 1) rfl, off g1, by decide, by decide, by decide⟩
        · exact ⟨t2, 8, 60, atI_nat (j := 2) rfl, off g2, by decide, by decide, by decide⟩
        · exact ⟨t3, 40, lg, atI_nat (j := 3) rfl, off g3, by decide, by decide, lg390⟩
      have elG : SqL K HG tl [.ref t0, .ref t1, .ref t2, .ref t3] := by
        obtain ⟨px, py, pz, ep, _⟩ := potF
        exact .inl (.inl (oG _ _ (fun y => by rw [y, ep] at el; cases el) el))
      obtain ⟨t, mo, lo, at0, st, mo1, mo40, lo390⟩ := pick
      refine ⟨tl, _, k0, .ref t, rfl, rfl, elG, at0, t, _, rfl, st, rfl, _, _, rfl, _, _, rfl, rfl, ?_⟩
      clear elG at0 st oG g0 g1 g2 g3 el potF sHF k00 k01
      refine ⟨.ref p, rfl, .int (mo : Nat), rfl, .int (lo : Nat), rfl, p, mo, lo, 900000, rfl, mo1, mo40, lo390, potG.less (by omega), fun HH r bs pa L m ly oH potH nr nbs ra lm G Ls nd one fewP names => ?_⟩
      have lens : (pa.map (·.1)).length = pa.length := List.length_map ..
      have few4 : (pa.map fun q => q.2.length).sum ≤ 4000 := by
        have := G.few
        omega
      have g : GoodP pa := G.good nd (by omega) (by omega) fun x mx => by
        obtain ⟨q, mq, rfl⟩ := List.mem_map.mp mx
        exact names q mq
      have small : ∀ l ∈ toldP pa, l < 1000000000 := fun l ml => by
        obtain ⟨j, hj, e⟩ := G.from_ l ml
        rw [e]
        exact Ls j hj
      have hs := show_past (small_letters g small) g.few few4
      have sHH : Same H HH := fun b u z => oH b u (fun y => by rw [y, np0] at z; cases z) (sHG b u z)
      have pb : p ∉ bs := fun m => by
        obtain ⟨_, _, _, e, _⟩ := potG
        rw [nbs p m] at e
        cases e
      have nr0 : H r = none := sHG.free nr
      have nbs0 : ∀ b ∈ bs, H b = none := fun b m => sHG.free (nbs b m)
      clear oH potG nr nbs sHG
      refine ⟨.ref r, rfl, .ref r, pastD pa, rfl, ra.da, hs.1, hs.2.1, hs.2.2, ?_⟩
      refine ⟨.ref r, rfl, .ref r, pa, rfl, ra.da, g, few4, fun ys perm srt HI o sI no eo => ?_⟩
      have raI := ra.same sI
      have potI : PotAt HI p 900000 := potH.off fun u z => sI _ _ z
      have sHI := sHH.trans sI
      have ob : o ∉ bs := fun m => by
        obtain ⟨xs, e⟩ := ra.rows.has o m
        rw [no] at e
        cases e
      have op : o ≠ p := fun z => by
        obtain ⟨_, _, _, e, _⟩ := potH
        rw [← z, no] at e
        cases e
      have no0 : H o = none := sHH.free no
      clear sI no ra potH sHH
      have lod : (found (rowsOf pa) ys).order.length ≤ 4000 := by
        rw [g.come ys perm srt, total_past g.nd]
        exact few4
      have okod : ∀ x ∈ (found (rowsOf pa) ys).order, nameOk x = true := fun x mx => by
        have F := fit_of g.nd g.told g.heard
        have F' : Fit (rowsOf pa) ys := ⟨fun l h k h' k' j j' m m' => F.1 l h k h' k' j j' (perm.mem_iff.mp m) (perm.mem_iff.mp m'), fun h l j m e => let ⟨a, b, c⟩ := F.2 h l j (perm.mem_iff.mp m) e; ⟨a, perm.mem_iff.mpr b, c⟩⟩
        obtain ⟨q, mq, rfl⟩ := List.mem_map.mp (perm.mem_iff.mp ((found_sound F').ins x mx))
        exact names q mq
      obtain ⟨od, hod⟩ : ∃ od, od = (found (rowsOf pa) ys).order := ⟨_, rfl⟩
      rw [← hod] at eo lod okod
      refine ⟨.ref o, rfl, .ref o, .ty "list", _, _, _, rfl, .ty _, (da_strs (.inl (.inl eo))).ty, kit_ty (kit_list _), _, rfl, iteF ?_⟩
      refine ⟨.ref r, rfl, .ref o, rfl, .ref r, o, pa, od, rfl, raI.da, g, few4, .inl (.inl eo), ⟨ys, perm, srt, hod⟩, fun HJ sJ => ⟨_, rfl, iteF ?_⟩⟩
      have raJ := raI.same sJ
      have potJ : PotAt HJ p 900000 := potI.off fun u z => sJ _ _ z
      have eoJ := sJ _ _ eo
      have sHJ := sHI.trans sJ
      clear eo sHI raI potI sJ
      refine ⟨.ref r, rfl, .ref r, pastD pa, rfl, raJ.da, hs.1, hs.2.1, hs.2.2, .str (pastD pa).shown, rfl, rfl, _, rfl, ?_⟩
      show (if (!decide (V.str (pastD pa).shown = V.str (pastD pa).shown)) = true then _ else _)
      rw [show decide (V.str (pastD pa).shown = V.str (pastD pa).shown) = true from decide_eq_true rfl]
      refine iteF ?_
      -- told, held, turned about
      refine ⟨.ref o, rfl, o, _, rfl, .inl (.inl (.inl eoJ)), fun h nh => ?_⟩
      have sK := same_new (o := .lst (od.map V.str)) nh
      have eh : upd HJ h (.lst (od.map V.str)) h = some (.lst (od.map V.str)) := upd_same
      have ho : h ≠ o := fun z => by rw [z, eoJ] at nh; cases nh
      have eoK := sK _ _ eoJ
      have raK := raJ.same sK
      have potK : PotAt (upd HJ h (.lst (od.map V.str))) p 900000 := potJ.off fun u z => sK _ _ z
      have sHK := sHJ.trans sK
      generalize upd HJ h (.lst (od.map V.str)) = HK at eh eoK raK potK sHK
      clear sK nh raJ potJ eoJ sHJ
      refine ⟨.ref o, rfl, .inl ⟨rfl, _, .inl (.inl eoK)⟩, o, _, rfl, rfl, eoK, .ref o, rfl, .inl ⟨rfl, _, .inl (.inl upd_same)⟩, o, _, .str "odd", rfl, rfl, upd_same, ?_, ?_⟩
      · rw [List.length_reverse, List.length_map]
        have : 50000 < sizeLine := by decide
        omega
      have oL : Off o HK (upd (upd HK o (.lst (od.map V.str).reverse)) o (.lst ((od.map V.str).reverse ++ [.str "odd"]))) := Off.trans off_upd off_upd
      generalize upd (upd HK o (.lst (od.map V.str).reverse)) o (.lst ((od.map V.str).reverse ++ [.str "odd"])) = HL at oL
      have raL := raK.off eoK oL ob
      have potL : PotAt HL p 900000 := potK.off fun u z => oL _ _ op.symm z
      have ehL := oL _ _ ho eh
      have sHL : Same H HL := fun b u z => oL b u (fun y => by rw [y, no0] at z; cases z) (sHK b u z)
      clear oL raK potK eh sHK eoK
      have lb : (pa.map (·.1)).length = bs.length := by rw [raL.rows.len, lens]
      -- filled in another order
      refine ⟨.ref r, rfl, r, _, pa.map (·.1), rfl, .inl raL.dict, kvN_keys lb, by rw [lens]; omega, fun zs ps permz srtz nps => ⟨1, rfl, -1, rfl, rfl, ps, _, rfl, .inl (.inl upd_same), fun pr npr => ?_⟩⟩
      rw [← List.map_reverse]
      have permw : zs.reverse.Perm (pa.map (·.1)) := (List.reverse_perm zs).trans permz
      generalize zs.reverse = ws at permw
      have sM := (same_new (o := .lst (zs.map V.str)) nps).trans (same_new (o := .lst (ws.map V.str)) npr)
      have epr : upd (upd HL ps (.lst (zs.map V.str))) pr (.lst (ws.map V.str)) pr = some (.lst (ws.map V.str)) := upd_same
      generalize upd (upd HL ps (.lst (zs.map V.str))) pr (.lst (ws.map V.str)) = HM at sM epr
      have raM := raL.same sM
      have potM : PotAt HM p 900000 := potL.off fun u z => sM _ _ z
      have ehM := sM _ _ ehL
      have sHM := sHL.trans sM
      clear sM nps npr raL potL ehL sHL
      have lw : ws.length = pa.length := by rw [permw.length_eq, lens]
      refine ⟨pr, rfl, ⟨_, .inl (.inl epr)⟩, fun M nM => ?_⟩
      refine lc_it (walk_list (K := K) (xs := ws.map V.str)) (fun i H' => ∃ ts bs2, H' M = some (.lst (ts.map V.ref)) ∧ Paired (fun t (kv : Key × V) => SqT K H' t [kV kv.1, kv.2]) ts (kvN (ws.take i) bs2) ∧ RowsA K H' bs2 (inOrder pa (ws.take i)) ∧ (∀ b ∈ bs2, b ≠ M) ∧ Same HM H') ?_ ?_ ?_ ?_
      · exact ⟨[], [], upd_same, .nil, .nil, fun _ m => (nomatch m), same_new nM⟩
      · rintro i H' hi ⟨ts, bs2, _, _, _, _, sm⟩
        exact .inl (.inl (sm _ _ epr))
      · rintro i x H' H'' hi ⟨ts, bs2, eM, prs, rs, nbM, sm⟩ y
        obtain ⟨rfl, hx⟩ := y
        have hi' : i < ws.length := by rw [List.length_map] at hi; exact hi
        have en : ws[i]? = some (ws[i]'hi') := List.getElem?_eq_getElem hi'
        generalize ws[i]'hi' = wn at en
        rw [List.getElem?_map, en] at hx
        cases hx
        obtain ⟨k, b, xs, _, _, hb, dl, dg⟩ := (raM.same sm).look g.nd (permw.mem_iff.mp (List.mem_of_getElem? en))
        refine ⟨rfl, yes_go ⟨.str wn, rfl, .ref r, rfl, .str wn, rfl, r, .ref b, rfl, dg, b, xs, rfl, .inl (.inl (.inl hb)), fun b2 nb2 => ⟨by show 2 ≤ sizeLine; decide, fun t nt => ?_⟩⟩⟩
        have s9 := (same_new (o := .lst xs) nb2).trans (same_new (o := .tup [.str wn, .ref b2]) nt)
        have eM1 := s9 _ _ eM
        have et : upd (upd H'' b2 (.lst xs)) t (.tup [.str wn, .ref b2]) t = some (.tup [.str wn, .ref b2]) := upd_same
        have eb2 : upd (upd H'' b2 (.lst xs)) t (.tup [.str wn, .ref b2]) b2 = some (.lst xs) := same_new nt _ _ upd_same
        have fM : HM M = none := nM
        generalize upd (upd H'' b2 (.lst xs)) t (.tup [.str wn, .ref b2]) = Hb at s9 eM1 et eb2
        have tk : ws.take (i + 1) = ws.take i ++ [wn] := take_snoc en
        have lk : (ws.take i).length = bs2.length := by rw [rs.len, inOrder, List.length_map]
        have bM : b2 ≠ M := fun z => by rw [z, eM] at nb2; cases nb2
        have off : Off M Hb (upd Hb M (.lst (ts.map V.ref ++ [.ref t]))) := off_upd
        have lt : ts.length = (kvN (ws.take i) bs2).length := prs.length
        have lkv : (kvN (ws.take i) bs2).length = i := by
          have := congrArg List.length (kvN_keys lk)
          rw [List.length_map, List.length_map, List.length_take] at this
          omega
        refine ⟨_, eM1, ?_, ts ++ [t], bs2 ++ [b2], ?_, ?_, ?_, ?_, ?_⟩
        · rw [List.length_map, lt, lkv]
          have : 50000 < sizeLine := by decide
          omega
        · rw [upd_same, List.map_append]
          rfl
        · rw [tk, kvN_snoc lk]
          exact paired_snoc (Paired.mapP prs fun t kv r => sqt_offl eM1 off (sqt_same s9 r)) (sqt_offl eM1 off (.inl (.inl et)))
        · rw [tk, inOrder, List.map_append]
          refine RowsA.off eM1 off ?_ ((rs.same s9).snocR eb2 (dl.same s9))
          intro m
          rcases List.mem_append.mp m with m | m
          · exact nbM _ m rfl
          · exact bM (List.mem_singleton.mp m).symm
        · intro c mc
          rcases List.mem_append.mp mc with m | m
          · exact nbM c m
          · rw [List.mem_singleton.mp m]
            exact bM
        · intro c u z
          rw [upd_ne fun y => by rw [y, fM] at z; cases z]
          exact s9 _ _ (sm _ _ z)
      · rintro H' ⟨ts, bs2, eM, prs, rs, nbM, sm⟩
        have tn : ws.take (ws.map V.str).length = ws := by rw [List.length_map]; exact List.take_length
        rw [tn] at prs rs
        have lb2 : ws.length = bs2.length := by rw [rs.len, inOrder, List.length_map]
        refine ⟨M, ts, _, rfl, .inl (.inl eM), prs, fun fl nfl => ?_⟩
        rw [mergeK_kvN (permw.nodup_iff.mpr g.nd) lb2]
        have sN : Same HM (upd H' fl (.dK (kvN ws bs2))) := sm.trans (same_new nfl)
        have daF : Da K (upd H' fl (.dK (kvN ws bs2))) (.ref fl) (pastD (inOrder pa ws)) := by
          have h1 := (rs.same (same_new (o := .dK (kvN ws bs2)) nfl)).daK
          rw [inOrder_names] at h1
          exact .dct (.inl upd_same) h1
        generalize upd H' fl (.dK (kvN ws bs2)) = HN at sN daF
        have raN := raM.same sN
        have potN : PotAt HN p 900000 := potM.off fun u z => sN _ _ z
        have ehN := sN _ _ ehM
        have sHN := sHM.trans sN
        clear sN prs rs sm eM raM potM ehM sHM nfl nM
        have pp := inOrder_perm g.nd permw
        have g2 := g.perm pp
        have uq : ∀ {us : List Str}, us.Perm (pa.map (·.1)) → PyProof.Rows.sortedS us = true → (found (rowsOf pa) us).order = od := fun {us} h1 h2 => by
          rw [sorted_uniq (h1.trans perm.symm) h2 srt, hod]
        have sk : ∀ x ∈ od, PyData.strOk x = true := fun x mx => strOk_name (okod x mx)
        refine ⟨.ref r, rfl, .ref r, pa, rfl, raN.da, g, few4, fun ys1 perm1 srt1 HP o1 sP no1 eo1 => ⟨.ref h, rfl, ?_⟩⟩
        rw [uq perm1 srt1] at eo1
        refine ne_same (.inl (.inl eo1)) (.inl (.inl (sP _ _ ehN))) sk ⟨false, rfl, iteF ?_⟩
        refine ⟨.ref fl, rfl, .ref fl, inOrder pa ws, rfl, Da.same sP _ daF, g2, by rw [sum_perm pp]; exact few4, fun ys2 perm2 srt2 HR o2 sR no2 eo2 => ⟨.ref h, rfl, ?_⟩⟩
        rw [rowsOf_perm pp g.nd, uq (perm2.trans (pp.map _)) srt2] at eo2
        refine ne_same (.inl (.inl eo2)) (.inl (.inl (sR _ _ (sP _ _ ehN)))) sk ⟨false, rfl, iteF ?_⟩
        have sPR := sP.trans sR
        have raR := raN.same sPR
        have potR : PotAt HR p 900000 := potN.off fun u z => sPR _ _ z
        have sHR := sHN.trans sPR
        clear sP sR sPR eo1 eo2 no1 no2 raN potN ehN sHN daF
        -- a deed more
        refine ⟨.ref r, rfl, r, _, pa.map (·.1), rfl, .inl raR.dict, kvN_keys lb, by rw [lens]; omega, fun us pu permu srtu npu => ?_⟩
        have sS := same_new (o := .lst (us.map V.str)) npu
        have epu : upd HR pu (.lst (us.map V.str)) pu = some (.lst (us.map V.str)) := upd_same
        generalize upd HR pu (.lst (us.map V.str)) = HS at sS epu
        have raS := raR.same sS
        have potS : PotAt HS p 900000 := potR.off fun u z => sS _ _ z
        have sHS := sHR.trans sS
        clear sS npu raR potR sHR
        have lkv : (kvN (pa.map (·.1)) bs).length = pa.length := by
          have := congrArg List.length (kvN_keys lb)
          rw [List.length_map, List.length_map, lens] at this
          exact this
        refine ⟨.ref p, rfl, .ref r, rfl, r, _, rfl, .inl raS.dict, fun _ => ⟨p, _, 800000, rfl, by rw [lkv]; omega, by rw [lkv]; omega, potS.less (by omega), fun HT k oT potT k0 k1 => ?_⟩⟩
        rw [lkv] at k1
        obtain ⟨k, rfl⟩ := Int.eq_ofNat_of_zero_le k0
        have lu : us.length = pa.length := by rw [permu.length_eq, lens]
        have hk : k < us.length := by omega
        have eu : us[k]? = some (us[k]'hk) := List.getElem?_eq_getElem hk
        generalize us[k]'hk = hand at eu
        have raT : RowsAt K HT r bs pa := by
          obtain ⟨_, _, _, ep, _⟩ := potS
          exact raS.off ep oT pb
        have epT : HT pu = some (.lst (us.map V.str)) := oT _ _ (fun z => by
          obtain ⟨_, _, _, ep, _⟩ := potS
          rw [z, ep] at epu
          cases us with
          | nil => cases hk
          | cons _ _ => cases epu) epu
        have sHT : Same H HT := fun b u z => oT b u (fun y => by rw [y, np0] at z; cases z) (sHS b u z)
        clear raS potS sHS epu oT
        refine ⟨pu, _, k, .str hand, rfl, rfl, .inl (.inl epT), atI_nat (by rw [List.getElem?_map, eu]; rfl), ?_⟩
        obtain ⟨k2, b, xs, hp, hbs, hb, dl, dg⟩ := raT.look g.nd (permu.mem_iff.mp (List.mem_of_getElem? eu))
        have lx : xs.length < sizeLine := by
          have h1 := mem_le_sum (fun q : Str × List Deed => q.2.length) pa _ (List.mem_of_getElem? hp)
          have h2 : (rowsOf pa hand).length ≤ (pa.map fun q => q.2.length).sum := h1
          have h3 : xs.length = (rowsOf pa hand).length := by rw [dl.dl.len, List.length_map]
          have : 50000 < sizeLine := by decide
          omega
        refine ⟨.ref r, rfl, .str hand, rfl, r, .ref b, rfl, dg, .inl ⟨rfl, _, .inl (.inl hb)⟩, by show 1 ≤ sizeLine; decide, fun t nt => ⟨b, xs, .ref t, rfl, rfl, same_new nt _ _ hb, lx, ?_⟩⟩
        have tb : t ≠ b := fun z => by rw [z, hb] at nt; cases nt
        have raU : RowsAt K (upd (upd HT t (.tup [.str "keep"])) b (.lst (xs ++ [.ref t]))) r bs (addD pa k2 .keep) :=
          (raT.same (same_new nt)).add hbs (same_new nt _ _ hb) off_upd upd_same ⟨t, rfl, by rw [upd_ne tb]; exact upd_same⟩
        have sHU : Same H (upd (upd HT t (.tup [.str "keep"])) b (.lst (xs ++ [.ref t]))) := fun c u z => by
          rw [upd_ne fun y => by rw [y, nbs0 b (List.mem_of_getElem? hbs)] at z; cases z]
          exact same_new nt _ _ (sHT _ _ z)
        generalize upd (upd HT t (.tup [.str "keep"])) b (.lst (xs ++ [.ref t])) = HU at raU sHU
        have G3 := G.keep nd hp
        have l3 : (addD pa k2 .keep).length = pa.length := by
          have := congrArg List.length (addD_names pa k2 .keep)
          rw [List.length_map, List.length_map] at this
          exact this
        have g3 : GoodP (addD pa k2 .keep) := G3.good nd (by omega) (by omega) fun x mx => by
          obtain ⟨q, mq, rfl⟩ := List.mem_map.mp mx
          exact names q mq
        have few3 : ((addD pa k2 .keep).map fun q => q.2.length).sum ≤ 4000 := by
          have := G3.few
          omega
        refine ⟨.ref r, rfl, .ref r, rfl, .ref r, addD pa k2 .keep, rfl, raU.da, g3, few3, fun ys3 perm3 srt3 HV o3 sV no3 eo3 => ?_⟩
        exact ⟨.ref r, o3, addD pa k2 .keep, _, rfl, Da.same sV _ raU.da, g3, few3, .inl (.inl eo3), ⟨ys3, perm3, srt3, rfl⟩, fun HW sW => ⟨_, rfl, iteF ⟨⟨_, _, _, _, _, _, _, _, _, _, rfl⟩, (sHU.trans sV).trans sW⟩⟩⟩
    · rintro σ' H1 ⟨⟨y1, y2, y3, y4, y5, y6, y7, y8, y9, y10, rfl⟩, s1⟩
      exact q _
end
end L2.Fb.Law

namespace L2.Fb.Law
open PySem PySem.Spec
open PyProof.Rows
/-! ### what the top has written -/
theorem mk_is_whole {K : PySem.W.Frag} {h : Heap} {mg : Str → Option Value} {f : Addr} {od an : Option Addr} {sl : Array (Option Value)} {oc kV dc pm cd ct : Value} (X : K.In h) (G : h.Ns mainGlobals mg)
    (a : PySem.W.nsIn K mainGlobals "is_whole" = some (some (.ref f))) (l : K.lookup f = some ⟨oc, od, .func (PySem.W.fnOf "is_whole" "is_whole" (defArgs s_is_whole) (defBody s_is_whole) (defScope s_is_whole) .none kV dc pm an cd ct), sl⟩) (c : PySem.W.codeIn K cd "is_whole" = true) (k : PySem.W.keepIn K (.ref f) = true) :
    Dfn K mg "is_whole" s_is_whole P_is_whole := ⟨f, _, fun_mk l c k, (fun_mk (st := s_is_whole) l c k).binds (ps := ["thing"]) fun _ _ _ _ _ _ us hl => (match us, hl with | [_], _ => rfl), PySem.W.mg_of X G a⟩
theorem mk_is_name {K : PySem.W.Frag} {h : Heap} {mg : Str → Option Value} {f : Addr} {od an : Option Addr} {sl : Array (Option Value)} {oc kV dc pm cd ct : Value} (X : K.In h) (G : h.Ns mainGlobals mg)
    (a : PySem.W.nsIn K mainGlobals "is_name" = some (some (.ref f))) (l : K.lookup f = some ⟨oc, od, .func (PySem.W.fnOf "is_name" "is_name" (defArgs s_is_name) (defBody s_is_name) (defScope s_is_name) .none kV dc pm an cd ct), sl⟩) (c : PySem.W.codeIn K cd "is_name" = true) (k : PySem.W.keepIn K (.ref f) = true) :
    Dfn K mg "is_name" s_is_name P_is_name := ⟨f, _, fun_mk l c k, (fun_mk (st := s_is_name) l c k).binds (ps := ["thing"]) fun _ _ _ _ _ _ us hl => (match us, hl with | [_], _ => rfl), PySem.W.mg_of X G a⟩
theorem mk_is_hand {K : PySem.W.Frag} {h : Heap} {mg : Str → Option Value} {f : Addr} {od an : Option Addr} {sl : Array (Option Value)} {oc kV dc pm cd ct : Value} (X : K.In h) (G : h.Ns mainGlobals mg)
    (a : PySem.W.nsIn K mainGlobals "is_hand" = some (some (.ref f))) (l : K.lookup f = some ⟨oc, od, .func (PySem.W.fnOf "is_hand" "is_hand" (defArgs s_is_hand) (defBody s_is_hand) (defScope s_is_hand) .none kV dc pm an cd ct), sl⟩) (c : PySem.W.codeIn K cd "is_hand" = true) (k : PySem.W.keepIn K (.ref f) = true) :
    Dfn K mg "is_hand" s_is_hand P_is_hand := ⟨f, _, fun_mk l c k, (fun_mk (st := s_is_hand) l c k).binds (ps := ["past", "thing"]) fun _ _ _ _ _ _ us hl => (match us, hl with | [_, _], _ => rfl), PySem.W.mg_of X G a⟩
theorem mk_hearers_of {K : PySem.W.Frag} {h : Heap} {mg : Str → Option Value} {f : Addr} {od an : Option Addr} {sl : Array (Option Value)} {oc kV dc pm cd ct : Value} (X : K.In h) (G : h.Ns mainGlobals mg)
    (a : PySem.W.nsIn K mainGlobals "hearers_of" = some (some (.ref f))) (l : K.lookup f = some ⟨oc, od, .func (PySem.W.fnOf "hearers_of" "hearers_of" (defArgs s_hearers_of) (defBody s_hearers_of) (defScope s_hearers_of) .none kV dc pm an cd ct), sl⟩) (c : PySem.W.codeIn K cd "hearers_of" = true) (k : PySem.W.keepIn K (.ref f) = true) :
    Dfn K mg "hearers_of" s_hearers_of P_hearers_of := ⟨f, _, fun_mk l c k, (fun_mk (st := s_hearers_of) l c k).binds (ps := ["past"]) fun _ _ _ _ _ _ us hl => (match us, hl with | [_], _ => rfl), PySem.W.mg_of X G a⟩
theorem mk_is_past {K : PySem.W.Frag} {h : Heap} {mg : Str → Option Value} {f : Addr} {od an : Option Addr} {sl : Array (Option Value)} {oc kV dc pm cd ct : Value} (X : K.In h) (G : h.Ns mainGlobals mg)
    (a : PySem.W.nsIn K mainGlobals "is_past" = some (some (.ref f))) (l : K.lookup f = some ⟨oc, od, .func (PySem.W.fnOf "is_past" "is_past" (defArgs s_is_past) (defBody s_is_past) (defScope s_is_past) .none kV dc pm an cd ct), sl⟩) (c : PySem.W.codeIn K cd "is_past" = true) (k : PySem.W.keepIn K (.ref f) = true) :
    Dfn K mg "is_past" s_is_past P_is_past := ⟨f, _, fun_mk l c k, (fun_mk (st := s_is_past) l c k).binds (ps := ["thing"]) fun _ _ _ _ _ _ us hl => (match us, hl with | [_], _ => rfl), PySem.W.mg_of X G a⟩
theorem mk_check_past {K : PySem.W.Frag} {h : Heap} {mg : Str → Option Value} {f : Addr} {od an : Option Addr} {sl : Array (Option Value)} {oc kV dc pm cd ct : Value} (X : K.In h) (G : h.Ns mainGlobals mg)
    (a : PySem.W.nsIn K mainGlobals "check_past" = some (some (.ref f))) (l : K.lookup f = some ⟨oc, od, .func (PySem.W.fnOf "check_past" "check_past" (defArgs s_check_past) (defBody s_check_past) (defScope s_check_past) .none kV dc pm an cd ct), sl⟩) (c : PySem.W.codeIn K cd "check_past" = true) (k : PySem.W.keepIn K (.ref f) = true) :
    Dfn K mg "check_past" s_check_past P_check_past := ⟨f, _, fun_mk l c k, (fun_mk (st := s_check_past) l c k).binds (ps := ["thing"]) fun _ _ _ _ _ _ us hl => (match us, hl with | [_], _ => rfl), PySem.W.mg_of X G a⟩
theorem mk_order_of {K : PySem.W.Frag} {h : Heap} {mg : Str → Option Value} {f : Addr} {od an : Option Addr} {sl : Array (Option Value)} {oc kV dc pm cd ct : Value} (X : K.In h) (G : h.Ns mainGlobals mg)
    (a : PySem.W.nsIn K mainGlobals "order_of" = some (some (.ref f))) (l : K.lookup f = some ⟨oc, od, .func (PySem.W.fnOf "order_of" "order_of" (defArgs s_order_of) (defBody s_order_of) (defScope s_order_of) .none kV dc pm an cd ct), sl⟩) (c : PySem.W.codeIn K cd "order_of" = true) (k : PySem.W.keepIn K (.ref f) = true) :
    Dfn K mg "order_of" s_order_of P_order_of := ⟨f, _, fun_mk l c k, (fun_mk (st := s_order_of) l c k).binds (ps := ["past"]) fun _ _ _ _ _ _ us hl => (match us, hl with | [_], _ => rfl), PySem.W.mg_of X G a⟩
theorem mk__is_row {K : PySem.W.Frag} {h : Heap} {mg : Str → Option Value} {f : Addr} {od an : Option Addr} {sl : Array (Option Value)} {oc kV dc pm cd ct : Value} (X : K.In h) (G : h.Ns mainGlobals mg)
    (a : PySem.W.nsIn K mainGlobals "_is_row" = some (some (.ref f))) (l : K.lookup f = some ⟨oc, od, .func (PySem.W.fnOf "_is_row" "_is_row" (defArgs s__is_row) (defBody s__is_row) (defScope s__is_row) .none kV dc pm an cd ct), sl⟩) (c : PySem.W.codeIn K cd "_is_row" = true) (k : PySem.W.keepIn K (.ref f) = true) :
    Dfn K mg "_is_row" s__is_row P__is_row := ⟨f, _, fun_mk l c k, (fun_mk (st := s__is_row) l c k).binds (ps := ["past", "hand"]) fun _ _ _ _ _ _ us hl => (match us, hl with | [_, _], _ => rfl), PySem.W.mg_of X G a⟩
theorem mk__is_deed {K : PySem.W.Frag} {h : Heap} {mg : Str → Option Value} {f : Addr} {od an : Option Addr} {sl : Array (Option Value)} {oc kV dc pm cd ct : Value} (X : K.In h) (G : h.Ns mainGlobals mg)
    (a : PySem.W.nsIn K mainGlobals "_is_deed" = some (some (.ref f))) (l : K.lookup f = some ⟨oc, od, .func (PySem.W.fnOf "_is_deed" "_is_deed" (defArgs s__is_deed) (defBody s__is_deed) (defScope s__is_deed) .none kV dc pm an cd ct), sl⟩) (c : PySem.W.codeIn K cd "_is_deed" = true) (k : PySem.W.keepIn K (.ref f) = true) :
    Dfn K mg "_is_deed" s__is_deed P__is_deed := ⟨f, _, fun_mk l c k, (fun_mk (st := s__is_deed) l c k).binds (ps := ["past", "hand", "thing"]) fun _ _ _ _ _ _ us hl => (match us, hl with | [_, _, _], _ => rfl), PySem.W.mg_of X G a⟩
theorem mk__is_letter {K : PySem.W.Frag} {h : Heap} {mg : Str → Option Value} {f : Addr} {od an : Option Addr} {sl : Array (Option Value)} {oc kV dc pm cd ct : Value} (X : K.In h) (G : h.Ns mainGlobals mg)
    (a : PySem.W.nsIn K mainGlobals "_is_letter" = some (some (.ref f))) (l : K.lookup f = some ⟨oc, od, .func (PySem.W.fnOf "_is_letter" "_is_letter" (defArgs s__is_letter) (defBody s__is_letter) (defScope s__is_letter) .none kV dc pm an cd ct), sl⟩) (c : PySem.W.codeIn K cd "_is_letter" = true) (k : PySem.W.keepIn K (.ref f) = true) :
    Dfn K mg "_is_letter" s__is_letter P__is_letter := ⟨f, _, fun_mk l c k, (fun_mk (st := s__is_letter) l c k).binds (ps := ["thing"]) fun _ _ _ _ _ _ us hl => (match us, hl with | [_], _ => rfl), PySem.W.mg_of X G a⟩
theorem mk__is_other {K : PySem.W.Frag} {h : Heap} {mg : Str → Option Value} {f : Addr} {od an : Option Addr} {sl : Array (Option Value)} {oc kV dc pm cd ct : Value} (X : K.In h) (G : h.Ns mainGlobals mg)
    (a : PySem.W.nsIn K mainGlobals "_is_other" = some (some (.ref f))) (l : K.lookup f = some ⟨oc, od, .func (PySem.W.fnOf "_is_other" "_is_other" (defArgs s__is_other) (defBody s__is_other) (defScope s__is_other) .none kV dc pm an cd ct), sl⟩) (c : PySem.W.codeIn K cd "_is_other" = true) (k : PySem.W.keepIn K (.ref f) = true) :
    Dfn K mg "_is_other" s__is_other P__is_other := ⟨f, _, fun_mk l c k, (fun_mk (st := s__is_other) l c k).binds (ps := ["past", "hand", "thing"]) fun _ _ _ _ _ _ us hl => (match us, hl with | [_, _, _], _ => rfl), PySem.W.mg_of X G a⟩
theorem mk__told_once {K : PySem.W.Frag} {h : Heap} {mg : Str → Option Value} {f : Addr} {od an : Option Addr} {sl : Array (Option Value)} {oc kV dc pm cd ct : Value} (X : K.In h) (G : h.Ns mainGlobals mg)
    (a : PySem.W.nsIn K mainGlobals "_told_once" = some (some (.ref f))) (l : K.lookup f = some ⟨oc, od, .func (PySem.W.fnOf "_told_once" "_told_once" (defArgs s__told_once) (defBody s__told_once) (defScope s__told_once) .none kV dc pm an cd ct), sl⟩) (c : PySem.W.codeIn K cd "_told_once" = true) (k : PySem.W.keepIn K (.ref f) = true) :
    Dfn K mg "_told_once" s__told_once P__told_once := ⟨f, _, fun_mk l c k, (fun_mk (st := s__told_once) l c k).binds (ps := ["past"]) fun _ _ _ _ _ _ us hl => (match us, hl with | [_], _ => rfl), PySem.W.mg_of X G a⟩
theorem mk__heard_once {K : PySem.W.Frag} {h : Heap} {mg : Str → Option Value} {f : Addr} {od an : Option Addr} {sl : Array (Option Value)} {oc kV dc pm cd ct : Value} (X : K.In h) (G : h.Ns mainGlobals mg)
    (a : PySem.W.nsIn K mainGlobals "_heard_once" = some (some (.ref f))) (l : K.lookup f = some ⟨oc, od, .func (PySem.W.fnOf "_heard_once" "_heard_once" (defArgs s__heard_once) (defBody s__heard_once) (defScope s__heard_once) .none kV dc pm an cd ct), sl⟩) (c : PySem.W.codeIn K cd "_heard_once" = true) (k : PySem.W.keepIn K (.ref f) = true) :
    Dfn K mg "_heard_once" s__heard_once P__heard_once := ⟨f, _, fun_mk l c k, (fun_mk (st := s__heard_once) l c k).binds (ps := ["past"]) fun _ _ _ _ _ _ us hl => (match us, hl with | [_], _ => rfl), PySem.W.mg_of X G a⟩
theorem mk__can_have_come {K : PySem.W.Frag} {h : Heap} {mg : Str → Option Value} {f : Addr} {od an : Option Addr} {sl : Array (Option Value)} {oc kV dc pm cd ct : Value} (X : K.In h) (G : h.Ns mainGlobals mg)
    (a : PySem.W.nsIn K mainGlobals "_can_have_come" = some (some (.ref f))) (l : K.lookup f = some ⟨oc, od, .func (PySem.W.fnOf "_can_have_come" "_can_have_come" (defArgs s__can_have_come) (defBody s__can_have_come) (defScope s__can_have_come) .none kV dc pm an cd ct), sl⟩) (c : PySem.W.codeIn K cd "_can_have_come" = true) (k : PySem.W.keepIn K (.ref f) = true) :
    Dfn K mg "_can_have_come" s__can_have_come P__can_have_come := ⟨f, _, fun_mk l c k, (fun_mk (st := s__can_have_come) l c k).binds (ps := ["past"]) fun _ _ _ _ _ _ us hl => (match us, hl with | [_], _ => rfl), PySem.W.mg_of X G a⟩
theorem mk__order_found {K : PySem.W.Frag} {h : Heap} {mg : Str → Option Value} {f : Addr} {od an : Option Addr} {sl : Array (Option Value)} {oc kV dc pm cd ct : Value} (X : K.In h) (G : h.Ns mainGlobals mg)
    (a : PySem.W.nsIn K mainGlobals "_order_found" = some (some (.ref f))) (l : K.lookup f = some ⟨oc, od, .func (PySem.W.fnOf "_order_found" "_order_found" (defArgs s__order_found) (defBody s__order_found) (defScope s__order_found) .none kV dc pm an cd ct), sl⟩) (c : PySem.W.codeIn K cd "_order_found" = true) (k : PySem.W.keepIn K (.ref f) = true) :
    Dfn K mg "_order_found" s__order_found P__order_found := ⟨f, _, fun_mk l c k, (fun_mk (st := s__order_found) l c k).binds (ps := ["past"]) fun _ _ _ _ _ _ us hl => (match us, hl with | [_], _ => rfl), PySem.W.mg_of X G a⟩
theorem mk__run_on {K : PySem.W.Frag} {h : Heap} {mg : Str → Option Value} {f : Addr} {od an : Option Addr} {sl : Array (Option Value)} {oc kV dc pm cd ct : Value} (X : K.In h) (G : h.Ns mainGlobals mg)
    (a : PySem.W.nsIn K mainGlobals "_run_on" = some (some (.ref f))) (l : K.lookup f = some ⟨oc, od, .func (PySem.W.fnOf "_run_on" "_run_on" (defArgs s__run_on) (defBody s__run_on) (defScope s__run_on) .none kV dc pm an cd ct), sl⟩) (c : PySem.W.codeIn K cd "_run_on" = true) (k : PySem.W.keepIn K (.ref f) = true) :
    Dfn K mg "_run_on" s__run_on P__run_on := ⟨f, _, fun_mk l c k, (fun_mk (st := s__run_on) l c k).binds (ps := ["row", "start", "told"]) fun _ _ _ _ _ _ us hl => (match us, hl with | [_, _, _], _ => rfl), PySem.W.mg_of X G a⟩
theorem mk__law_pot {K : PySem.W.Frag} {h : Heap} {mg : Str → Option Value} {f : Addr} {od an : Option Addr} {sl : Array (Option Value)} {oc kV dc pm cd ct : Value} (X : K.In h) (G : h.Ns mainGlobals mg)
    (a : PySem.W.nsIn K mainGlobals "_law_pot" = some (some (.ref f))) (l : K.lookup f = some ⟨oc, od, .func (PySem.W.fnOf "_law_pot" "_law_pot" (defArgs s__law_pot) (defBody s__law_pot) (defScope s__law_pot) .none kV dc pm an cd ct), sl⟩) (c : PySem.W.codeIn K cd "_law_pot" = true) (k : PySem.W.keepIn K (.ref f) = true) :
    Dfn K mg "_law_pot" s__law_pot P__law_pot := ⟨f, _, fun_mk l c k, (fun_mk (st := s__law_pot) l c k).binds (ps := ["script", "k"]) fun _ _ _ _ _ _ us hl => (match us, hl with | [_, _], _ => rfl), PySem.W.mg_of X G a⟩
theorem mk__law_dip {K : PySem.W.Frag} {h : Heap} {mg : Str → Option Value} {f : Addr} {od an : Option Addr} {sl : Array (Option Value)} {oc kV dc pm cd ct : Value} (X : K.In h) (G : h.Ns mainGlobals mg)
    (a : PySem.W.nsIn K mainGlobals "_law_dip" = some (some (.ref f))) (l : K.lookup f = some ⟨oc, od, .func (PySem.W.fnOf "_law_dip" "_law_dip" (defArgs s__law_dip) (defBody s__law_dip) (defScope s__law_dip) .none kV dc pm an cd ct), sl⟩) (c : PySem.W.codeIn K cd "_law_dip" = true) (k : PySem.W.keepIn K (.ref f) = true) :
    Dfn K mg "_law_dip" s__law_dip P__law_dip := ⟨f, _, fun_mk l c k, (fun_mk (st := s__law_dip) l c k).binds (ps := ["pot", "many"]) fun _ _ _ _ _ _ us hl => (match us, hl with | [_, _], _ => rfl), PySem.W.mg_of X G a⟩
theorem mk__law_names {K : PySem.W.Frag} {h : Heap} {mg : Str → Option Value} {f : Addr} {od an : Option Addr} {sl : Array (Option Value)} {oc kV dc pm cd ct : Value} (X : K.In h) (G : h.Ns mainGlobals mg)
    (a : PySem.W.nsIn K mainGlobals "_law_names" = some (some (.ref f))) (l : K.lookup f = some ⟨oc, od, .func (PySem.W.fnOf "_law_names" "_law_names" (defArgs s__law_names) (defBody s__law_names) (defScope s__law_names) .none kV dc pm an cd ct), sl⟩) (c : PySem.W.codeIn K cd "_law_names" = true) (k : PySem.W.keepIn K (.ref f) = true) :
    Dfn K mg "_law_names" s__law_names P__law_names := ⟨f, _, fun_mk l c k, (fun_mk (st := s__law_names) l c k).binds (ps := ["pot", "many"]) fun _ _ _ _ _ _ us hl => (match us, hl with | [_, _], _ => rfl), PySem.W.mg_of X G a⟩
theorem mk__law_past {K : PySem.W.Frag} {h : Heap} {mg : Str → Option Value} {f : Addr} {od an : Option Addr} {sl : Array (Option Value)} {oc kV dc pm cd ct : Value} (X : K.In h) (G : h.Ns mainGlobals mg)
    (a : PySem.W.nsIn K mainGlobals "_law_past" = some (some (.ref f))) (l : K.lookup f = some ⟨oc, od, .func (PySem.W.fnOf "_law_past" "_law_past" (defArgs s__law_past) (defBody s__law_past) (defScope s__law_past) .none kV dc pm an cd ct), sl⟩) (c : PySem.W.codeIn K cd "_law_past" = true) (k : PySem.W.keepIn K (.ref f) = true) :
    Dfn K mg "_law_past" s__law_past P__law_past := ⟨f, _, fun_mk l c k, (fun_mk (st := s__law_past) l c k).binds (ps := ["pot", "most", "long"]) fun _ _ _ _ _ _ us hl => (match us, hl with | [_, _, _], _ => rfl), PySem.W.mg_of X G a⟩
theorem mk__law_can_come {K : PySem.W.Frag} {h : Heap} {mg : Str → Option Value} {f : Addr} {od an : Option Addr} {sl : Array (Option Value)} {oc kV dc pm cd ct : Value} (X : K.In h) (G : h.Ns mainGlobals mg)
    (a : PySem.W.nsIn K mainGlobals "_law_can_come" = some (some (.ref f))) (l : K.lookup f = some ⟨oc, od, .func (PySem.W.fnOf "_law_can_come" "_law_can_come" (defArgs s__law_can_come) (defBody s__law_can_come) (defScope s__law_can_come) .none kV dc pm an cd ct), sl⟩) (c : PySem.W.codeIn K cd "_law_can_come" = true) (k : PySem.W.keepIn K (.ref f) = true) :
    Dfn K mg "_law_can_come" s__law_can_come P__law_can_come := ⟨f, _, fun_mk l c k, (fun_mk (st := s__law_can_come) l c k).binds (ps := ["rows", "order"]) fun _ _ _ _ _ _ us hl => (match us, hl with | [_, _], _ => rfl), PySem.W.mg_of X G a⟩
theorem all_mk {l : PySem.W.OpenLaw} {w : World} {K : PySem.W.Frag} {h : Heap} {mg : Str → Option Value} {fa f : Addr} {od an : Option Addr} {sl : Array (Option Value)} {oc kV dc pm cd ct : Value} (X : K.In h) (G : h.Ns mainGlobals mg) (hfa : mg "law" = some (.ref fa)) (T : TxtL mg)
    (D_is_whole : Dfn K mg "is_whole" s_is_whole P_is_whole) (D_is_name : Dfn K mg "is_name" s_is_name P_is_name) (D_is_hand : Dfn K mg "is_hand" s_is_hand P_is_hand) (D_hearers_of : Dfn K mg "hearers_of" s_hearers_of P_hearers_of) (D_is_past : Dfn K mg "is_past" s_is_past P_is_past) (D_check_past : Dfn K mg "check_past" s_check_past P_check_past) (D_order_of : Dfn K mg "order_of" s_order_of P_order_of) (D__is_row : Dfn K mg "_is_row" s__is_row P__is_row) (D__is_deed : Dfn K mg "_is_deed" s__is_deed P__is_deed) (D__is_letter : Dfn K mg "_is_letter" s__is_letter P__is_letter) (D__is_other : Dfn K mg "_is_other" s__is_other P__is_other) (D__told_once : Dfn K mg "_told_once" s__told_once P__told_once) (D__heard_once : Dfn K mg "_heard_once" s__heard_once P__heard_once) (D__can_have_come : Dfn K mg "_can_have_come" s__can_have_come P__can_have_come) (D__order_found : Dfn K mg "_order_found" s__order_found P__order_found) (D__run_on : Dfn K mg "_run_on" s__run_on P__run_on) (D__law_pot : Dfn K mg "_law_pot" s__law_pot P__law_pot) (D__law_dip : Dfn K mg "_law_dip" s__law_dip P__law_dip) (D__law_names : Dfn K mg "_law_names" s__law_names P__law_names) (D__law_past : Dfn K mg "_law_past" s__law_past P__law_past) (D__law_can_come : Dfn K mg "_law_can_come" s__law_can_come P__law_can_come) 
    (a : PySem.W.nsIn K mainGlobals "law" = some (some (.ref f))) (lk : K.lookup f = some ⟨oc, od, .func (PySem.W.fnOf "law" "law" (defArgs s_law) (defBody s_law) (defScope s_law) .none kV dc pm an cd ct), sl⟩) (c : PySem.W.codeIn K cd "law" = true) (k : PySem.W.keepIn K (.ref f) = true) :
    ∃ fd : FuncData, (∀ (s : Shared) (v : Value), BindsTo s fd ⟨[v], []⟩ [("script", v)]) ∧ ∀ base : Heap, K.In base → base.Ns mainGlobals mg → FnG l.prog w K mg base CX0 9 fa fd ["script"] (sp_law K) := by
  have e := hfa.symm.trans (PySem.W.mg_of X G a)
  cases e
  refine ⟨PySem.W.fnOf "law" "law" (defArgs s_law) (defBody s_law) (defScope s_law) .none kV dc pm an cd ct, fun s v => .of_eq rfl, fun base _ _ => ?_⟩
  have t := T.toTxt
  have whole := ok_is_whole (P := l.prog) (w := w) (base := base) D_is_whole t
  have name := ok_is_name (P := l.prog) (w := w) (base := base) D_is_name t
  have letter := ok_is_letter D__is_letter whole
  have hand := ok_is_hand D_is_hand name
  have other := ok_is_other D__is_other hand
  have deed := ok_is_deed D__is_deed t letter other
  have row := ok_is_row D__is_row t deed
  have told := ok_told_once (P := l.prog) (w := w) (base := base) D__told_once t
  have hearers := ok_hearers_of (P := l.prog) (w := w) (base := base) D_hearers_of t
  have heard := ok_heard_once D__heard_once hearers
  have run := ok_run_on (P := l.prog) (w := w) (base := base) D__run_on t
  have ofd := ok_order_found D__order_found t run
  have come := ok_can_have_come D__can_have_come t ofd
  have past := ok_is_past D_is_past t name row told heard come
  have check := ok_check_past D_check_past past
  have order := ok_order_of D_order_of check ofd
  have pot := ok_pot (P := l.prog) (w := w) (base := base) D__law_pot T
  have dip := ok_dip (P := l.prog) (w := w) (base := base) D__law_dip T
  have names := ok_names D__law_names T dip
  have pasts := ok_past D__law_past T dip names
  have comes := ok_law_can_come (P := l.prog) (w := w) (base := base) D__law_can_come T
  exact ok_law (fun_mk (st := s_law) lk c k) T pot dip pasts order comes
theorem txt_mk {K : PySem.W.Frag} {h : Heap} {mg : Str → Option Value} (X : K.In h) (G : h.Ns mainGlobals mg)
    (z_isinstance : PySem.W.nsIn K mainGlobals "isinstance" = some none) (z_len : PySem.W.nsIn K mainGlobals "len" = some none) (z_all : PySem.W.nsIn K mainGlobals "all" = some none) (z_sum : PySem.W.nsIn K mainGlobals "sum" = some none) (z_set : PySem.W.nsIn K mainGlobals "set" = some none) (z_sorted : PySem.W.nsIn K mainGlobals "sorted" = some none) (z_range : PySem.W.nsIn K mainGlobals "range" = some none) (z_int : PySem.W.nsIn K mainGlobals "int" = some none) (z_bool : PySem.W.nsIn K mainGlobals "bool" = some none) (z_str : PySem.W.nsIn K mainGlobals "str" = some none) (z_list : PySem.W.nsIn K mainGlobals "list" = some none) (z_tuple : PySem.W.nsIn K mainGlobals "tuple" = some none) (z_dict : PySem.W.nsIn K mainGlobals "dict" = some none) (z_max : PySem.W.nsIn K mainGlobals "max" = some none) (z_min : PySem.W.nsIn K mainGlobals "min" = some none) (z_repr : PySem.W.nsIn K mainGlobals "repr" = some none)
    {t_LONGEST_NAME : Tok} (z_LONGEST_NAME : PySem.W.nsIn K mainGlobals "LONGEST_NAME" = some (some (.int 8 t_LONGEST_NAME))) {t_MOST_HANDS : Tok} (z_MOST_HANDS : PySem.W.nsIn K mainGlobals "MOST_HANDS" = some (some (.int 40 t_MOST_HANDS))) : TxtL mg := ⟨⟨PySem.W.mg_none_of X G z_isinstance, PySem.W.mg_none_of X G z_len, PySem.W.mg_none_of X G z_all, PySem.W.mg_none_of X G z_sum, PySem.W.mg_none_of X G z_set, PySem.W.mg_none_of X G z_sorted, PySem.W.mg_none_of X G z_range, PySem.W.mg_none_of X G z_int, PySem.W.mg_none_of X G z_bool, PySem.W.mg_none_of X G z_str, PySem.W.mg_none_of X G z_list, PySem.W.mg_none_of X G z_tuple, PySem.W.mg_none_of X G z_dict, ⟨_, PySem.W.mg_of X G z_LONGEST_NAME⟩, ⟨_, PySem.W.mg_of X G z_MOST_HANDS⟩⟩, PySem.W.mg_none_of X G z_max, PySem.W.mg_none_of X G z_min, PySem.W.mg_none_of X G z_repr⟩
end L2.Fb.Law

open PySem PySem.W PyProof.Rows in
set_option maxRecDepth 100000 in
set_option maxHeartbeats 0 in
theorem PySem.Challenge.cw_fallingback_k02_orders_of_pasts_holds : PySem.Challenge.rw_fallingback_k02_orders_of_pasts.Holds := by
  w_on; o_law; k_head; (case hw => w_witness2)
  k_fill
  refine L2.Fb.walkG (l := PySem.Challenge.rw_fallingback_k02_orders_of_pasts) (n := 63) (k := 9) (x := "script") (CX := fun _ => L2.CX0) (sp := fun K => L2.Fb.Law.sp_law K) rfl (by decide) rfl ⟨rfl, by decide, by decide⟩ (fun w h Y => PySem.W.kIn_of Y) ?F (fun _ _ a ns hl _ hS => ⟨a, ns, rfl, hS, hl, fun _ => rfl⟩) (fun _ _ _ _ _ h => h)
  case F =>
    intro w mg fa h KX G hmg
    refine' L2.Fb.Law.all_mk KX G hmg (L2.Fb.Law.txt_mk KX G ?z_isinstance ?z_len ?z_all ?z_sum ?z_set ?z_sorted ?z_range ?z_int ?z_bool ?z_str ?z_list ?z_tuple ?z_dict ?z_max ?z_min ?z_repr ?z_LONGEST_NAME ?z_MOST_HANDS) (L2.Fb.Law.mk_is_whole KX G ?a_is_whole ?l_is_whole ?c_is_whole ?k_is_whole) (L2.Fb.Law.mk_is_name KX G ?a_is_name ?l_is_name ?c_is_name ?k_is_name) (L2.Fb.Law.mk_is_hand KX G ?a_is_hand ?l_is_hand ?c_is_hand ?k_is_hand) (L2.Fb.Law.mk_hearers_of KX G ?a_hearers_of ?l_hearers_of ?c_hearers_of ?k_hearers_of) (L2.Fb.Law.mk_is_past KX G ?a_is_past ?l_is_past ?c_is_past ?k_is_past) (L2.Fb.Law.mk_check_past KX G ?a_check_past ?l_check_past ?c_check_past ?k_check_past) (L2.Fb.Law.mk_order_of KX G ?a_order_of ?l_order_of ?c_order_of ?k_order_of) (L2.Fb.Law.mk__is_row KX G ?a_is_row ?l_is_row ?c_is_row ?k_is_row) (L2.Fb.Law.mk__is_deed KX G ?a_is_deed ?l_is_deed ?c_is_deed ?k_is_deed) (L2.Fb.Law.mk__is_letter KX G ?a_is_letter ?l_is_letter ?c_is_letter ?k_is_letter) (L2.Fb.Law.mk__is_other KX G ?a_is_other ?l_is_other ?c_is_other ?k_is_other) (L2.Fb.Law.mk__told_once KX G ?a_told_once ?l_told_once ?c_told_once ?k_told_once) (L2.Fb.Law.mk__heard_once KX G ?a_heard_once ?l_heard_once ?c_heard_once ?k_heard_once) (L2.Fb.Law.mk__can_have_come KX G ?a_can_have_come ?l_can_have_come ?c_can_have_come ?k_can_have_come) (L2.Fb.Law.mk__order_found KX G ?a_order_found ?l_order_found ?c_order_found ?k_order_found) (L2.Fb.Law.mk__run_on KX G ?a_run_on ?l_run_on ?c_run_on ?k_run_on) (L2.Fb.Law.mk__law_pot KX G ?a_law_pot ?l_law_pot ?c_law_pot ?k_law_pot) (L2.Fb.Law.mk__law_dip KX G ?a_law_dip ?l_law_dip ?c_law_dip ?k_law_dip) (L2.Fb.Law.mk__law_names KX G ?a_law_names ?l_law_names ?c_law_names ?k_law_names) (L2.Fb.Law.mk__law_past KX G ?a_law_past ?l_law_past ?c_law_past ?k_law_past) (L2.Fb.Law.mk__law_can_come KX G ?a_law_can_come ?l_law_can_come ?c_law_can_come ?k_law_can_come) ?a_law ?l_law ?c_law ?k_law
    (case a_is_whole => k_is)
    (case l_is_whole => k_is)
    (case c_is_whole => k_is)
    (case k_is_whole => k_is)
    (case a_is_name => k_is)
    (case l_is_name => k_is)
    (case c_is_name => k_is)
    (case k_is_name => k_is)
    (case a_is_hand => k_is)
    (case l_is_hand => k_is)
    (case c_is_hand => k_is)
    (case k_is_hand => k_is)
    (case a_hearers_of => k_is)
    (case l_hearers_of => k_is)
    (case c_hearers_of => k_is)
    (case k_hearers_of => k_is)
    (case a_is_past => k_is)
    (case l_is_past => k_is)
    (case c_is_past => k_is)
    (case k_is_past => k_is)
    (case a_check_past => k_is)
    (case l_check_past => k_is)
    (case c_check_past => k_is)
    (case k_check_past => k_is)
    (case a_order_of => k_is)
    (case l_order_of => k_is)
    (case c_order_of => k_is)
    (case k_order_of => k_is)
    (case a_is_row => k_is)
    (case l_is_row => k_is)
    (case c_is_row => k_is)
    (case k_is_row => k_is)
    (case a_is_deed => k_is)
    (case l_is_deed => k_is)
    (case c_is_deed => k_is)
    (case k_is_deed => k_is)
    (case a_is_letter => k_is)
    (case l_is_letter => k_is)
    (case c_is_letter => k_is)
    (case k_is_letter => k_is)
    (case a_is_other => k_is)
    (case l_is_other => k_is)
    (case c_is_other => k_is)
    (case k_is_other => k_is)
    (case a_told_once => k_is)
    (case l_told_once => k_is)
    (case c_told_once => k_is)
    (case k_told_once => k_is)
    (case a_heard_once => k_is)
    (case l_heard_once => k_is)
    (case c_heard_once => k_is)
    (case k_heard_once => k_is)
    (case a_can_have_come => k_is)
    (case l_can_have_come => k_is)
    (case c_can_have_come => k_is)
    (case k_can_have_come => k_is)
    (case a_order_found => k_is)
    (case l_order_found => k_is)
    (case c_order_found => k_is)
    (case k_order_found => k_is)
    (case a_run_on => k_is)
    (case l_run_on => k_is)
    (case c_run_on => k_is)
    (case k_run_on => k_is)
    (case a_law_pot => k_is)
    (case l_law_pot => k_is)
    (case c_law_pot => k_is)
    (case k_law_pot => k_is)
    (case a_law_dip => k_is)
    (case l_law_dip => k_is)
    (case c_law_dip => k_is)
    (case k_law_dip => k_is)
    (case a_law_names => k_is)
    (case l_law_names => k_is)
    (case c_law_names => k_is)
    (case k_law_names => k_is)
    (case a_law_past => k_is)
    (case l_law_past => k_is)
    (case c_law_past => k_is)
    (case k_law_past => k_is)
    (case a_law_can_come => k_is)
    (case l_law_can_come => k_is)
    (case c_law_can_come => k_is)
    (case k_law_can_come => k_is)
    (case a_law => k_is)
    (case l_law => k_is)
    (case c_law => k_is)
    (case k_law => k_is)
    (case z_isinstance => k_is)
    (case z_len => k_is)
    (case z_all => k_is)
    (case z_sum => k_is)
    (case z_set => k_is)
    (case z_sorted => k_is)
    (case z_range => k_is)
    (case z_int => k_is)
    (case z_bool => k_is)
    (case z_str => k_is)
    (case z_list => k_is)
    (case z_tuple => k_is)
    (case z_dict => k_is)
    (case z_max => k_is)
    (case z_min => k_is)
    (case z_repr => k_is)
    (case z_LONGEST_NAME => k_is)
    (case z_MOST_HANDS => k_is)

