import PyProof.Rows.All
import Wide.All
import OpenK.AllK
import Wide.FinOn
import PyProof.ReprRoads
import HandS.Walk
import HandS.ForMost
import HandS.IsInst
import HandS.DictComp
import HandS.Wide
import HandS.Zip
import HandS.SetKeys
import HandS.ExcOwn
import HandS.WordsExc
import HandS.TryOnly
import PyProof.Rows.SortShellAny
import PySem.Challenge.RW_fallingback_k03_parts_and_letters
set_option Elab.async false
set_option linter.all false
set_option maxRecDepth 100000
set_option maxHeartbeats 1000000
/-! Data in the abstract heap, dicts among them; repr of data; a def whose callers run within no repr. -/
namespace L2.Fb
open PySem PySem.Spec
open PyProof.Rows

/-! ### data -/
def kD : Key → PyData
  | .inl i => .int i
  | .inr x => .str x
mutual
/-- at v stands the data d -/
inductive Da (K : PySem.W.Frag) (H : Hp) : V → PyData → Prop
  | non : Da K H .non .none
  | bl (b : Bool) : Da K H (.bl b) (.bool b)
  | int (i : Int) : Da K H (.int i) (.int i)
  | str (x : Str) : Da K H (.str x) (.str x)
  | lst {a : Addr} {xs : List V} {ds : List PyData} : SqL K H a xs → DaL K H xs ds → Da K H (.ref a) (.list ds)
  | tup {a : Addr} {xs : List V} {ds : List PyData} : SqT K H a xs → DaL K H xs ds → Da K H (.ref a) (.tuple ds)
  | dct {a : Addr} {ks : List (Key × V)} {ds : List (PyData × PyData)} : Rd H a (.dK ks) → DaK K H ks ds → Da K H (.ref a) (.dict ds)
inductive DaL (K : PySem.W.Frag) (H : Hp) : List V → List PyData → Prop
  | nil : DaL K H [] []
  | cons {v : V} {vs : List V} {d : PyData} {ds : List PyData} : Da K H v d → DaL K H vs ds → DaL K H (v :: vs) (d :: ds)
inductive DaK (K : PySem.W.Frag) (H : Hp) : List (Key × V) → List (PyData × PyData) → Prop
  | nil : DaK K H [] []
  | cons {k : Key} {v : V} {r : List (Key × V)} {d : PyData} {ds : List (PyData × PyData)} : Da K H v d → DaK K H r ds → DaK K H ((k, v) :: r) ((kD k, d) :: ds)
end

theorem sqt_same {K : PySem.W.Frag} {H H' : Hp} {a : Addr} {xs : List V} (e : Same H H') (h : SqT K H a xs) : SqT K H' a xs := by
  rcases h with (h | ⟨o, h⟩) | h
  · exact .inl (.inl (e _ _ h))
  · exact .inl (.inr ⟨o, e _ _ h⟩)
  · exact .inr h
theorem rd_same {H H' : Hp} {a : Addr} {u : HO} (e : Same H H') (h : Rd H a u) : Rd H' a u := by
  rcases h with h | ⟨o, h⟩
  · exact .inl (e _ _ h)
  · exact .inr ⟨o, e _ _ h⟩
section
variable {K : PySem.W.Frag} {H H' : Hp}
mutual
theorem Da.same (e : Same H H') : ∀ (d : PyData) {v : V}, Da K H v d → Da K H' v d
  | .none, _, h => by cases h; exact .non
  | .bool _, _, h => by cases h; exact .bl _
  | .int _, _, h => by cases h; exact .int _
  | .str _, _, h => by cases h; exact .str _
  | .list _, _, h => by cases h with | lst a b => exact .lst (e.seq a) (DaL.same e _ b)
  | .tuple _, _, h => by cases h with | tup a b => exact .tup (sqt_same e a) (DaL.same e _ b)
  | .dict _, _, h => by cases h with | dct a b => exact .dct (rd_same e a) (DaK.same e _ b)
theorem DaL.same (e : Same H H') : ∀ (ds : List PyData) {vs : List V}, DaL K H vs ds → DaL K H' vs ds
  | [], _, h => by cases h; exact .nil
  | _ :: _, _, h => by cases h with | cons a b => exact .cons (Da.same e _ a) (DaL.same e _ b)
theorem DaK.same (e : Same H H') : ∀ (ds : List (PyData × PyData)) {vs : List (Key × V)}, DaK K H vs ds → DaK K H' vs ds
  | [], _, h => by cases h; exact .nil
  | _ :: _, _, h => by cases h with | cons a b => exact .cons (Da.same e _ a) (DaK.same e _ b)
end
theorem DaL.len : ∀ {vs : List V} {ds : List PyData}, DaL K H vs ds → vs.length = ds.length
  | _, _, .nil => rfl
  | _, _, .cons _ b => by rw [List.length_cons, List.length_cons, DaL.len b]
theorem DaK.len : ∀ {vs : List (Key × V)} {ds : List (PyData × PyData)}, DaK K H vs ds → vs.length = ds.length
  | _, _, .nil => rfl
  | _, _, .cons _ b => by rw [List.length_cons, List.length_cons, DaK.len b]
end

/-! ### repr of data -/
section
variable {X : Cx} {pins : List (Addr × Obj)} {σ : St} {H : Hp} {s : Shared}

/-- what is read of an object, and how it is shown -/
def Shw (X : Cx) (s : Shared) (u : Value) (d : PyData) : Prop :=
  (∃ as, Reads s.heap u d as) ∧ ∃ bs, ReadAtMost s.heap d.depth bs ∧ ReprK X.prog X.w bs s.heap d.depth u d.shown
def ShwL (X : Cx) (s : Shared) (us : List Value) (ds : List PyData) : Prop :=
  (∃ as, ReadsAll s.heap us ds as) ∧ ∃ bs, ReadAtMost s.heap (PyData.depthAll ds) bs ∧ ReprAllK X.prog X.w bs s.heap (PyData.depthAll ds) us (PyData.shownAll ds)

theorem ShwL.nil : ShwL X s [] [] := ⟨⟨_, .nil⟩, [], (fun _ h => nomatch h), by simp only [PyData.shownAll]; exact .nil⟩
theorem ShwL.cons {u : Value} {us : List Value} {d : PyData} {ds : List PyData} (h : Shw X s u d) (hs : ShwL X s us ds) : ShwL X s (u :: us) (d :: ds) := by
  obtain ⟨⟨as, r⟩, b1, q1, k1⟩ := h
  obtain ⟨⟨as', r'⟩, b2, q2, k2⟩ := hs
  refine ⟨⟨_, .cons r r'⟩, b1 ++ b2, ?_, ?_⟩
  · simp only [PyData.depthAll]
    exact (q1.mono (Nat.le_max_left _ _)).append (q2.mono (Nat.le_max_right _ _))
  · simp only [PyData.depthAll, PyData.shownAll]
    exact .cons ((k1.more fun b hb => List.mem_append_left _ hb).level_le (Nat.le_max_left _ _)) (k2.more_le (fun b hb => List.mem_append_right _ hb) (Nat.le_max_right _ _))


theorem shw_key {k : Key} {u : Value} (h : keyIs k u = true) (hs : (kD k).showable = true) (hz : (kD k).shown.length ≤ sizeLine) : Shw X s u (kD k) := by
  rcases keyIs_shape h with ⟨i, t, rfl, rfl⟩ | ⟨x, t, rfl, rfl⟩
  · exact ⟨⟨_, .int i t⟩, ReprK.of_reads (.int i t) hs (fun z => by simp [kD, PyData.hasDict] at z) hz⟩
  · exact ⟨⟨_, .str x t⟩, ReprK.of_reads (.str x t) hs (fun z => by simp [kD, PyData.hasDict] at z) hz⟩

mutual
theorem Da.shw (I : Inv X pins σ H s) : ∀ (d : PyData) {v : V} {u : Value}, Da X.K H v d → RelV v u → d.showable = true → d.shown.length ≤ sizeLine → Shw X s u d
  | .none, _, _, h, r, hs, hz => by
    cases h
    obtain rfl := r
    exact ⟨⟨_, .none⟩, ReprK.of_reads .none hs (fun z => by simp [PyData.hasDict] at z) hz⟩
  | .bool b, _, _, h, r, hs, hz => by
    cases h
    obtain rfl := r
    exact ⟨⟨_, .bool b⟩, ReprK.of_reads (.bool b) hs (fun z => by simp [PyData.hasDict] at z) hz⟩
  | .int i, _, _, h, r, hs, hz => by
    cases h
    obtain ⟨t, rfl⟩ := r
    exact ⟨⟨_, .int i t⟩, ReprK.of_reads (.int i t) hs (fun z => by simp [PyData.hasDict] at z) hz⟩
  | .str x, _, _, h, r, hs, hz => by
    cases h
    obtain ⟨t, rfl⟩ := r
    exact ⟨⟨_, .str x t⟩, ReprK.of_reads (.str x t) hs (fun z => by simp [PyData.hasDict] at z) hz⟩
  | .list ds, _, _, h, r, hs, hz => by
    cases h with
    | lst a b =>
      obtain rfl := r
      obtain ⟨its, rv, ⟨o, n, ho, hc, _, hd⟩, _⟩ := I.list a
      have hz' : (listText (PyData.shownAll ds)).length ≤ sizeLine := by simpa only [PyData.shown] using hz
      obtain ⟨⟨as, hr⟩, bs, hb, hk⟩ := DaL.shw I ds b rv (by simpa [PyData.showable] using hs) (fun t ht => Nat.le_trans (listText_mem_le ht) hz')
      have R : Reads s.heap (.ref _) (.list ds) _ := .list ho hc hd (by simpa using hr)
      have hna := not_mem_of_deeper R (by simp only [PyData.depth]; omega) hb
      refine ⟨⟨_, R⟩, _, ReadAtMost.cons R (by simp only [PyData.depth]; omega) hb, ?_⟩
      simp only [PyData.depth, PyData.shown]
      cases its with
      | nil =>
        have e0 : PyData.shownAll ds = [] := List.length_eq_zero_iff.mp (by simpa using hk.length_eq)
        rw [e0, listText_nil]
        exact ReprK.listEmpty ho hc hd
      | cons x l => exact ReprK.list ho hc hd hna (by simpa using hk.length_eq) (fun i y e => hk.item i y (by simpa using e))
  | .tuple ds, _, _, h, r, hs, hz => by
    cases h with
    | tup a b =>
      obtain rfl := r
      obtain ⟨its, rv, ⟨o, ho, hc, n, hd⟩, _⟩ := I.tuple a
      have hz' : (tupleText (PyData.shownAll ds)).length ≤ sizeLine := by simpa only [PyData.shown] using hz
      obtain ⟨⟨as, hr⟩, bs, hb, hk⟩ := DaL.shw I ds b rv (by simpa [PyData.showable] using hs) (fun t ht => Nat.le_trans (tupleText_mem_le ht) hz')
      have R : Reads s.heap (.ref _) (.tuple ds) _ := .tuple ho hc hd (by simpa using hr)
      have hna := not_mem_of_deeper R (by simp only [PyData.depth]; omega) hb
      refine ⟨⟨_, R⟩, _, ReadAtMost.cons R (by simp only [PyData.depth]; omega) hb, ?_⟩
      simp only [PyData.depth, PyData.shown]
      exact ReprK.tuple ho hc hd hna (by simpa using hk)
  | .dict ds, _, _, h, r, hs, hz => by
    cases h with
    | dct a b =>
      obtain rfl := r
      obtain ⟨_, hsys, vs, kv, o, es, ep, ho, ⟨hc, _, _⟩, hd, _, hp, _⟩ := dk_rd I.hok a
      have hz' : (dictText (PyData.shownKv ds)).length ≤ sizeLine := by simpa only [PyData.shown] using hz
      obtain ⟨⟨⟨as, hr⟩, b1, hb1, k1⟩, ⟨as', hr'⟩, b2, hb2, k2⟩ := DaK.shw I ds b kv hp (by simpa [PyData.showable] using hs) (fun t ht => Nat.le_trans (dictText_mem_le ht) hz')
      have R : Reads s.heap (.ref _) (.dict ds) _ := .dict ho hc hd hr hr'
      have hb : ReadAtMost s.heap (PyData.depthKv ds) (b1 ++ b2) := (hb1.mono (PyData.depthAll_keys_le ds)).append (hb2.mono (PyData.depthAll_vals_le ds))
      have hna := not_mem_of_deeper R (by simp only [PyData.depth]; omega) hb
      refine ⟨⟨_, R⟩, _, ReadAtMost.cons R (by simp only [PyData.depth]; omega) hb, ?_⟩
      simp only [PyData.depth, PyData.shown, PyData.shownKv_eq]
      exact ReprK.dict ho hc hd hsys hna (ReprEntriesK.of_two es.toList _ _
        (k1.more_le (fun b hb => List.mem_append_left _ hb) (PyData.depthAll_keys_le ds)) (k2.more_le (fun b hb => List.mem_append_right _ hb) (PyData.depthAll_vals_le ds)))
theorem DaL.shw (I : Inv X pins σ H s) : ∀ (ds : List PyData) {vs : List V} {us : List Value}, DaL X.K H vs ds → Vals vs us → PyData.showableAll ds = true → (∀ t ∈ PyData.shownAll ds, t.length ≤ sizeLine) → ShwL X s us ds
  | [], _, _, h, r, _, _ => by
    cases h
    cases r
    exact .nil
  | d :: ds, _, _, h, r, hs, hz => by
    cases h with
    | cons a b =>
      cases r with
      | cons r1 r2 =>
        have hs' : d.showable = true ∧ PyData.showableAll ds = true := by simpa [PyData.showableAll] using hs
        exact .cons (Da.shw I d a r1 hs'.1 (hz _ (by simp only [PyData.shownAll]; exact List.mem_cons_self ..))) (DaL.shw I ds b r2 hs'.2 fun t ht => hz t (by simp only [PyData.shownAll]; exact List.mem_cons_of_mem _ ht))
theorem DaK.shw (I : Inv X pins σ H s) : ∀ (ds : List (PyData × PyData)) {ks : List (Key × V)} {vs : List (Key × Value)} {es : List DictEntry}, DaK X.K H ks ds → KV ks vs → Pairs (mixKind X.prog X.w) es vs → PyData.showableKv ds = true →
    (∀ t ∈ PyData.shownKv ds, t.length ≤ sizeLine) → ShwL X s (es.map (·.key)) (ds.map (·.1)) ∧ ShwL X s (es.map (·.val)) (ds.map (·.2))
  | [], _, _, _, h, r, p, _, _ => by
    cases h
    cases r
    cases p
    exact ⟨.nil, .nil⟩
  | (_, d) :: ds, _, _, _, h, r, p, hs, hz => by
    cases h with
    | cons a b =>
      cases r with
      | cons r1 r2 =>
        obtain ⟨rk, rv⟩ := r1
        cases p with
        | cons p1 p2 p3 =>
          rename_i k v r vk ks e es
          have hs' : ((kD k).showable = true ∧ d.showable = true) ∧ PyData.showableKv ds = true := by simpa [PyData.showableKv] using hs
          have h0 := hz _ (by simp only [PyData.shownKv]; exact List.mem_cons_self ..)
          rw [strLen_append, strLen_append] at h0
          obtain ⟨q1, q2⟩ := DaK.shw I ds b r2 p3 hs'.2 fun t ht => hz t (by simp only [PyData.shownKv]; exact List.mem_cons_of_mem _ ht)
          have rk : k = vk.1 := rk
          have p1 : keyIs vk.1 e.key = true := p1
          rw [← rk] at p1
          refine ⟨.cons (shw_key p1 hs'.1.1 (by omega)) q1, .cons (Da.shw I d a (show RelV v e.val by rw [p2]; exact rv) hs'.1.2 (by omega)) q2⟩
end

/-- repr(x) of data, where no repr runs around -/
def rShow (K : PySem.W.Frag) : List V → Hp → VK → Prop := fun xs H Q => ∃ (v : V) (d : PyData), xs = [v] ∧ Da K H v d ∧ d.showable = true ∧ d.shown.length ≤ sizeLine ∧ d.depth ≤ 60 ∧ Q (.str d.shown) H
theorem call_show (hg : X.A.guards = some []) (hu : X.A.units + 64 < cLine) : CallR X (.builtin "repr") (rShow X.K) := by
  intro pins s σ H xs us Q I r h
  obtain ⟨v, d, rfl, hd, hs, hz, hp, q⟩ := h
  obtain ⟨u, rfl, ru⟩ := vals1 r
  have fin : ∀ (h' : Heap) (t tk : Nat), (∀ b o, s.heap.get? b = some o → h'.get? b = some o) → EP X pins σ Q (.str d.shown t) { s with heap := h', toks := tk } :=
    fun h' t tk k => ⟨.str d.shown, H, I.kept k, ⟨t, rfl⟩, q⟩
  cases hd with
  | non =>
    obtain rfl := ru
    simp only [PyData.shown] at q
    exact PySem.P.repr_of_none ⟨.str _, H, I.tok _, ⟨_, rfl⟩, q⟩
  | bl b =>
    obtain rfl := ru
    simp only [PyData.shown] at q
    exact PySem.P.repr_of_bool ⟨.str _, H, I.tok _, ⟨_, rfl⟩, q⟩
  | int i =>
    obtain ⟨t, rfl⟩ := ru
    simp only [PyData.shown] at q
    exact PySem.P.repr_of_int (by simpa [PyData.showable] using hs) ⟨.str _, H, I.tok _, ⟨_, rfl⟩, q⟩
  | str x =>
    obtain ⟨t, rfl⟩ := ru
    simp only [PyData.shown] at q hz
    exact PySem.P.repr_of_str ⟨.str _, H, I.tok _, ⟨_, rfl⟩, q⟩ hz
  | lst a b =>
    rename_i p xs ds
    obtain rfl := ru
    obtain ⟨its, rv, ⟨o, n, ho, hc, _, hd⟩, _⟩ := I.list a
    have hz' : (listText (PyData.shownAll ds)).length ≤ sizeLine := by simpa only [PyData.shown] using hz
    obtain ⟨⟨as, hr⟩, bs, hb, hk⟩ := DaL.shw I ds b rv (by simpa [PyData.showable] using hs) (fun t ht => Nat.le_trans (listText_mem_le ht) hz')
    have R : Reads s.heap (.ref p) (.list ds) _ := .list ho hc hd (by simpa using hr)
    have hna := not_mem_of_deeper R (by simp only [PyData.depth]; omega) hb
    simp only [PyData.depth] at hp
    simp only [PyData.shown] at fin
    refine call_repr_slot (by omega) ⟨o, ho, hc⟩ F.slot_list_repr.toG ?_
    cases its with
    | nil =>
      have e0 : PyData.shownAll ds = [] := List.length_eq_zero_iff.mp (by simpa using hk.length_eq)
      rw [e0, listText_nil] at fin
      exact call_list_repr_empty ⟨o, ho, hc⟩ ho hd ⟨_, _, rfl, fin _ _ _ fun _ _ e => e⟩
    | cons x l =>
      refine call_list_reprK ho hc hd hna (by simpa using hk.length_eq) (fun i y e => hk.item i y (by simpa using e)) hg (fun b _ => Clear.nil b) ?_ (fun b o e => e) (fun h' u tk k => ⟨_, _, rfl, fin h' u tk k⟩) hz'
      show X.A.units + 1 + (PyData.depthAll ds + 1) < cLine
      omega
  | tup a b =>
    rename_i p xs ds
    obtain rfl := ru
    obtain ⟨its, rv, ⟨o, ho, hc, n, hd⟩, _⟩ := I.tuple a
    have hz' : (tupleText (PyData.shownAll ds)).length ≤ sizeLine := by simpa only [PyData.shown] using hz
    obtain ⟨⟨as, hr⟩, bs, hb, hk⟩ := DaL.shw I ds b rv (by simpa [PyData.showable] using hs) (fun t ht => Nat.le_trans (tupleText_mem_le ht) hz')
    have R : Reads s.heap (.ref p) (.tuple ds) _ := .tuple ho hc hd (by simpa using hr)
    have hna := not_mem_of_deeper R (by simp only [PyData.depth]; omega) hb
    simp only [PyData.depth] at hp
    simp only [PyData.shown] at fin
    refine call_repr_slot (by omega) ⟨o, ho, hc⟩ F.slot_tuple_repr ?_
    refine call_tuple_reprK ho hc hd hna (by simpa using hk) hg (fun b _ => Clear.nil b) ?_ (fun b o e => e) (fun h' u tk k => ⟨_, _, rfl, fin h' u tk k⟩) hz'
    show X.A.units + 1 + (PyData.depthAll ds + 1) < cLine
    omega
  | dct a b =>
    rename_i p ks ds
    obtain rfl := ru
    obtain ⟨_, hsys, vs, kv, o, es, ep, ho, ⟨hc, _, _⟩, hd, _, hps, _⟩ := dk_rd I.hok a
    have hz' : (dictText (PyData.shownKv ds)).length ≤ sizeLine := by simpa only [PyData.shown] using hz
    obtain ⟨⟨⟨as, hr⟩, b1, hb1, k1⟩, ⟨as', hr'⟩, b2, hb2, k2⟩ := DaK.shw I ds b kv hps (by simpa [PyData.showable] using hs) (fun t ht => Nat.le_trans (dictText_mem_le ht) hz')
    have R : Reads s.heap (.ref p) (.dict ds) _ := .dict ho hc hd hr hr'
    have hb : ReadAtMost s.heap (PyData.depthKv ds) (b1 ++ b2) := (hb1.mono (PyData.depthAll_keys_le ds)).append (hb2.mono (PyData.depthAll_vals_le ds))
    have hna := not_mem_of_deeper R (by simp only [PyData.depth]; omega) hb
    simp only [PyData.depth] at hp
    simp only [PyData.shown, PyData.shownKv_eq] at fin
    rw [PyData.shownKv_eq] at hz'
    refine call_repr_slot (by omega) ⟨o, ho, hc⟩ F.slot_dict_repr ?_
    refine call_dict_reprK ho hc hd hsys hna (ReprEntriesK.of_two es.toList _ _
        (k1.more_le (fun b hb => List.mem_append_left _ hb) (PyData.depthAll_keys_le ds)) (k2.more_le (fun b hb => List.mem_append_right _ hb) (PyData.depthAll_vals_le ds)))
        hg (fun b _ => Clear.nil b) ?_ (fun b o e => e) (fun h' u tk k => ⟨_, _, rfl, fin h' u tk k⟩) hz'
    show X.A.units + 1 + (PyData.depthKv ds + 1) < cLine
    omega
end
end L2.Fb

/-! Defs called where no repr runs around: their promise, the rule of a body, of a call, the end of a row. -/
namespace L2.Fb
open PySem PySem.Spec
open PyProof.Rows

/-- as the layer's promise of a def, from callers around whom no repr runs -/
structure FnG (P : Program) (w : World) (K : PySem.W.Frag) (mg : Str → Option Value) (base : Heap) (CX : CXT) (k : Nat) (f : Addr) (fd : FuncData) (ps : List Str) (sp : Sp) : Prop where
  size : ∀ vs H Q E, sp vs H Q E → vs.length = ps.length
  goes : ∀ (A : Around) (outer : List Env) (s : Shared) (H : Hp) (args : Args) (us : List Value) (vs : List V) (Q : VK) (E : XK), A.guards = some [] → Room k A → Env0 P w K mg base A outer s H →
    BindsTo s fd args (ps.zip us) → Vals vs us → sp vs H Q E → codeAny (model P w) A (.call (.ref f) args) (CR CX outer P w H s Q E) s
theorem FnG.of {P : Program} {w : World} {K : PySem.W.Frag} {mg : Str → Option Value} {base : Heap} {CX : CXT} {k : Nat} {f : Addr} {fd : FuncData} {ps : List Str} {sp : Sp} (F : FnOk P w K mg base CX k f fd ps sp) : FnG P w K mg base CX k f fd ps sp :=
  ⟨F.len, fun A outer s H args us vs Q E _ => F.run A outer s H args us vs Q E⟩

section
variable {CX : CXT} {P : Program} {w : World} {K : PySem.W.Frag} {mg : Str → Option Value} {base : Heap} {k : Nat} {f : Addr}
/-- a def by its body -/
theorem okG {x qual : Str} {st : Stmt} {fd : FuncData} {N ps : List Str} {sp : Sp} (F : Fun K x qual st f fd) (S : FnScope N ps (defScope st)) (size : ∀ vs H Q E, sp vs H Q E → vs.length = ps.length)
    (body : ∀ (cdv : Value) (A : Around) (outer : List Env) (s : Shared) (H : Hp) (vs : List V) (Q : VK) (E : XK), (A.deeper (envOfC qual (defScope st) s.heap.objs.size f cdv)).guards = some [] →
      Room k (A.deeper (envOfC qual (defScope st) s.heap.objs.size f cdv)) → sp vs H Q E →
      ∃ t, PSs (cxOf CX P w K mg base N qual (defScope st) f cdv A outer s H E) (defBody st) t ∧ t { nx := fun _ H' => Q .non H', rt := Q } (start N vs) H) : FnG P w K mg base CX (k + 1) f fd ps sp := by
  obtain ⟨oc, od, kV, doc, pm, an, cdv, ct, osl, rfl, lk, hcd⟩ := F.ex
  refine ⟨size, fun A outer s H args us vs Q E hg hr e0 hb r hsp => ?_⟩
  have Kin : K.In s.heap := e0.mod.kin.keeps fun b o e => And.left (e0.bs b o e)
  have nolim : s.heap.NoLimit := e0.mod.nolimit.keeps fun b o e => And.left (e0.bs b o e)
  have kinds : ∀ y ∈ ps.zip us, (defScope st).names.lookup y.1 = some .local ∨ ((defScope st).names.lookup y.1 = some .cell ∧ ((cellsFrom (s.heap.objs.size + 1) (defScope st).names []).lookup y.1).isSome = true) := by
    rintro ⟨n, v⟩ hy
    exact (S.par n (List.of_mem_zip hy).1).elim .inl fun q => .inr ⟨q, PySem.W.cellsFrom_some _ _ _ (.inl q)⟩
  refine codeAny_call_function hr.depth (Kin _ _ lk) rfl S.co S.gen rfl (PySem.W.codeRec_of Kin hcd) (hb _ _ _ _ (wpAny_newFunctionEnv_cells S.kind kinds fun env he s1 x => ?_))
  subst he
  refine ⟨nolim.keeps x.toInCall.keep, codeAny_func ?_⟩
  obtain ⟨t, ht, hq⟩ := body cdv A outer s H vs Q E (by simpa [Around.deeper] using hg) (hr.deeper _) hsp
  have I := inv_start (CX := CX) (P := P) (w := w) (K := K) (mg := mg) (base := base) (E := E) S hr.hd e0 (size _ _ _ _ hsp) r x
  refine wpAny_mono (ht.run [] s1 (start N vs) H _ I hq) (fun fl s' hs => ?_) fun e s' hs => hs
  cases fl with
  | ret u =>
    obtain ⟨v, σ', H', J, rv, q⟩ := hs
    exact ⟨v, H', J.os, J.bare, J.base, J.hok, rv, q⟩
  | next =>
    obtain ⟨σ', H', J, q⟩ := hs
    exact ⟨.non, H', J.os, J.bare, J.base, J.hok, rfl, q⟩
  | brk => exact False.elim (let ⟨_, _, _, q⟩ := hs; q)
  | cont => exact False.elim (let ⟨_, _, _, q⟩ := hs; q)
end

section
variable {X : Cx} {CX : CXT} {k : Nat} {f : Addr} {fd : FuncData} {ps : List Str} {sp : Sp} {E : XK} {x : Str} {p pos : Pos} {e : Expr} {es : List Expr} {t : TA}
/-- a call of such a def from such a body -/
theorem pe_callG (F : FnG X.prog X.w X.K X.mg X.base CX k f fd ps sp) (hgd : X.A.guards = some []) (hr : Room k X.A) (hg : Gl X x) (hm : X.mg x = some (.ref f)) (hk : PySem.W.keepIn X.K (.ref f) = true) (hb : Binds X.K fd ps []) (hx : Passes CX X E)
    (ha : PA X (e :: es) t) (hdb : (x == ("__debug__" : Str)) = false := by decide) (he : starEach (e :: es) X.env = (false, eval e X.env) :: starEach es X.env := by rfl) (hpl : (backTo pos (starEach es X.env)).any (·.1) = false := by rfl) :
    PE X (.Call (.Name x p) (e :: es) [] pos) (tCall sp [] E t) := by
  refine ⟨fun pins s σ H Q I h => wpAny_Call_Name_kw (ld_glob I hg hm ?_ hdb)⟩
  refine PySem.W.callWith_K (h₀ := X.base) I.ok.mod.kin hk (thn (ha.run pos pins s σ H _ I h) fun us s1 ⟨vs, H1, J, r, q⟩ => ⟨J.kIn, wpAny_call ?_⟩) he hpl
  have q : sp vs H1 Q E := by
    have z : sp (vs ++ []) H1 Q E := q
    rw [List.append_nil] at z
    exact z
  have hl : us.length = ps.length := r.length.symm.trans (F.size _ _ _ _ q)
  have hb' := hb s1 us J.kIn (by rw [List.append_nil]; exact hl)
  rw [List.append_nil] at hb'
  refine codeAny_mono (F.goes X.A X.stack s1 H1 ⟨us, []⟩ us vs Q E hgd hr J.env0 hb' r q) fun r s' hq => ?_
  match r, hq with
  | .error e, hq => exact hx pins σ H1 s1 e s' J hq
  | .ok (.ret u), hq => exact J.after hq
  | .ok .next, hq => exact False.elim hq
  | .ok .brk, hq => exact False.elim hq
  | .ok .cont, hq => exact False.elim hq
end

/-- the law's call over the heap behind the top -/
theorem call_of_law {P : Program} {w : World} {K : PySem.W.Frag} {mg mb : Str → Option Value} {CX : CXT} {k : Nat} {fa a : Addr} {fd : FuncData} {x : Str} {sp : Sp} {s : Shared} {vs : List Value} {ns : List Int}
    (kin : K.In s.heap) (hns : s.heap.Ns mainGlobals mg) (hb : s.heap.Ns builtinsNs mb) (hbb : ∀ x : Str, x ≠ "__name__" → mb x = bootBuiltins x) (lim : s.heap.NoLimit) (gens : s.gens = #[])
    (ha : s.heap.get? a = some { cls := .type "list", data := .seq vs.toArray }) (hi : IntsAre vs ns) (hl : ns.length ≤ sizeLine) (hr : Room k callerA)
    (F : ∀ base : Heap, K.In base → base.Ns mainGlobals mg → FnG P w K mg base CX k fa fd [x] sp) (bind : ∀ (s : Shared) (u : Value), BindsTo s fd ⟨[u], []⟩ [(x, u)])
    (hsp : ∀ H : Hp, Only H → SqL K H a (ns.map V.int) → sp [.ref a] H (fun v _ => v = .bl true) fun _ _ _ => False)
    (noX : ∀ H e s', CX [] H s (fun _ _ _ => False) e s' → False) :
    codeAny (model P w) callerA (.call (.ref fa) ⟨[.ref a], []⟩) (fun r s' => r = .ok (.ret (.bool true)) ∧ OldK s.heap s'.heap ∧ s'.os = s.os ∧ AllBare s'.gens) s := by
  have rv := vals_ints hi
  have main : ∀ H : Hp, Only H → SqL K H a (ns.map V.int) → HOk P w H s.heap → (∀ b, H b ≠ none → b = a) → (H a ≠ none → K.lookup a = none) →
      codeAny (model P w) callerA (.call (.ref fa) ⟨[.ref a], []⟩) (fun r s' => r = .ok (.ret (.bool true)) ∧ OldK s.heap s'.heap ∧ s'.os = s.os ∧ AllBare s'.gens) s := by
    intro H hO hS hok hA hK
    have onlyA : ∀ {b : Addr} {u : HO}, H b = some u → b = a := fun {b u} q => hA b fun z => by rw [q] at z; cases z
    have nsK : ∀ {b : Addr} {m : Str → Option Value}, s.heap.Ns b m → (hidT s.heap H).Ns b m := by
      rintro b m ⟨o, es, ep, e, d, r⟩
      refine ⟨o, es, ep, hidT_get e ?_, d, r⟩
      cases q : H b with
      | none => rfl
      | some u =>
        obtain rfl := onlyA q
        rw [ha] at e
        cases e
        exact nomatch (show Data.seq vs.toArray _ = Data.dict es ep from d)
    have kinB : K.In (hidT s.heap H) := by
      intro b o e
      refine hidT_get (kin b o e) ?_
      cases q : H b with
      | none => rfl
      | some u =>
        obtain rfl := onlyA q
        rw [hK fun z => by rw [q] at z; cases z] at e
        cases e
    have M : Mod K mg (hidT s.heap H) := by
      obtain ⟨mc, h1, h2⟩ := lim
      exact ⟨kinB, nsK hns, ⟨mb, nsK hb, hbb⟩, mc, nsK h1, h2⟩
    have e0 : Env0 P w K mg (hidT s.heap H) callerA [] s H := ⟨rfl, M, fun b o e => of_hidT e, Nat.le_of_eq (hidT_size _ _), trivial, fun b z => (nomatch (show b ∈ ([] : List Addr) from z)), hok, .of_eq gens⟩
    have run := (F _ kinB (nsK hns)).goes callerA [] s H ⟨[.ref a], []⟩ [.ref a] [.ref a] _ _ rfl hr e0 (bind s (.ref a)) (.cons rfl .nil) (hsp H hO hS)
    refine codeAny_mono run fun r s' h => ?_
    match r, h with
    | .error e, h => exact (noX H e s' h).elim
    | .ok .next, h => exact False.elim h
    | .ok .brk, h => exact False.elim h
    | .ok .cont, h => exact False.elim h
    | .ok (.ret u), h =>
      obtain ⟨v, H', os, bare, un, hok', r', q⟩ := h
      obtain rfl : v = .bl true := q
      obtain rfl : u = Value.bool true := r'
      refine ⟨rfl, OldK.of_keep fun b o e => ?_, os, bare⟩
      cases q : H b with
      | none => exact un.keep b o e q (fun z => nomatch (show b ∈ ([] : List Addr) from z)) (by simp)
      | some u =>
        rcases hO b with z | ⟨ob, xs, z⟩
        · rw [q] at z
          cases z
        · have e1 := (hok b _ z).1
          have e2 := (hok' b _ (un.frzs b ob _ z)).1
          rw [e] at e1
          cases e1
          exact e2
  cases hk : K.lookup a with
  | some o =>
    have e := kin a o hk
    rw [ha] at e
    cases e
    exact main (fun _ => none) (fun _ => .inl rfl) (.inr ⟨_, vs.toArray, _, hk, rfl, rfl, rfl, by rw [List.size_toArray, hi.length]; exact hl, by simpa using rv⟩) (fun b u z => nomatch (show (none : Option HO) = some u from z)) (fun b z => absurd rfl z) fun z => absurd rfl z
  | none =>
    have one : ∀ b, (if b = a then some (HO.frz { cls := .type "list", data := .seq vs.toArray } (.lst (ns.map V.int))) else none) ≠ none → b = a := by
      intro b z
      by_cases hb : b = a
      · exact hb
      · rw [if_neg hb] at z
        exact absurd rfl z
    refine main (fun b => if b = a then some (.frz { cls := .type "list", data := .seq vs.toArray } (.lst (ns.map V.int))) else none) (fun b => ?_) (.inl (.inr ⟨{ cls := .type "list", data := .seq vs.toArray }, if_pos rfl⟩)) (fun b u z => ?_) one fun _ => hk
    · by_cases hb : b = a
      · exact .inr ⟨_, _, if_pos hb⟩
      · exact .inl (if_neg hb)
    · obtain rfl := one b fun q => by
        have z' : (if b = a then some (HO.frz { cls := .type "list", data := .seq vs.toArray } (.lst (ns.map V.int))) else none) = some u := z
        rw [q] at z'
        cases z'
      have z' := (if_pos rfl).symm.trans z
      cases z'
      exact ⟨ha, by rw [List.length_map]; exact hl, vs, _, rv, ha⟩

/-- the goal that the head leaves, from the law's promise -/
theorem walkG {l : PySem.W.OpenLaw} {n k : Nat} {q : Program} {loose : List Str} {XP : (Str → Option Value) → Heap → Prop} {YP : World → Heap → Prop} {d : DefRec} {K : Params → PySem.W.Frag} {CX : World → CXT} {sp : PySem.W.Frag → Sp} {x : Str}
    (hn : l.most = some n) (hn2 : n ≤ sizeLine) (hdf : d.params.defaults = []) (hr : Room k callerA) (hY : ∀ (w : World) (h : Heap), YP w h → (K w.params).In h)
    (F : ∀ (w : World) (mg : Str → Option Value) (fa : Addr) (h : Heap), (K w.params).In h → h.Ns mainGlobals mg → mg d.name = some (.ref fa) →
      ∃ fd : FuncData, (∀ (s : Shared) (u : Value), BindsTo s fd ⟨[u], []⟩ [(x, u)]) ∧
        ∀ base : Heap, (K w.params).In base → base.Ns mainGlobals mg → FnG l.prog w (K w.params) mg base (CX w) k fa fd [x] (sp (K w.params)))
    (hsp : ∀ (K : PySem.W.Frag) (H : Hp) (a : Addr) (ns : List Int), ns.length ≤ n → Only H → SqL K H a (ns.map V.int) → sp K [.ref a] H (fun v _ => v = .bl true) fun _ _ _ => False)
    (noX : ∀ (w : World) (H : Hp) (s : Shared) (e : Value) (s' : Shared), CX w [] H s (fun _ _ _ => False) e s' → False) :
    PySem.W.WalkO q loose XP YP l.row.toRowW d [] (fun f vs => PySem.call f vs) := by
  refine Att.attach_call hn hdf fun w s₀ s mg mb fa o pm cd doc a vs ns G Y ho hd hcd hmg hobj hints hlen hg => ?_
  obtain ⟨fd, bnd, hF⟩ := F w mg fa _ (hY w _ Y) G.T.g hmg
  exact call_of_law (hY w _ Y) G.T.g G.T.b G.T.builtins G.T.nolimit hg hobj hints (Nat.le_trans hlen hn2) hr hF bnd (fun H hO hS => hsp _ H a ns hlen hO hS) fun H e s' => noX w H s e s'
end L2.Fb

set_option maxHeartbeats 2000000
/-! {k: v for a in xs for b in ys if ..}: the dict comprehension of two clauses. -/
namespace L2.Fb
open PySem PySem.Spec
open PyProof.Rows

section
variable {prog : Program} {w : World} {A : Around} {R : Result → Shared → Prop} {s : Shared} {kx vx t0 i0 i1 t1 : Expr} {ifs0 ifs1 : List Expr} {scope : Scope} {pos : Pos} {it acc : Value} {env : Env}
/-- the expression -/
abbrev dcx (kx vx t0 i0 t1 i1 : Expr) (ifs0 ifs1 : List Expr) (scope : Scope) (pos : Pos) : Expr := .DictComp kx vx [⟨t0, i0, ifs0, 0⟩, ⟨t1, i1, ifs1, 0⟩] scope pos
/-- the tests of a clause -/
abbrev tried (prog : Program) (w : World) (A : Around) (env : Env) (ifs : List Expr) (Q : Bool → Shared → Prop) (E : Value → Shared → Prop) (s : Shared) : Prop :=
  wpAny (model prog w) A (forIn ifs true fun c r => if r = true then do let ok ← isTrue c env (eval c env); pure (ForInStep.yield ok) else pure (ForInStep.yield r)) Q E s
abbrev ouch (prog : Program) (w : World) (A : Around) (env : Env) (R : Result → Shared → Prop) : Value → Shared → Prop := notedBy (model prog w) A env fun x s' => R (.error x) s'

theorem turn_outer : compTurn (dcx kx vx t0 i0 t1 i1 ifs0 ifs1 scope pos) 0 it acc env = (do
      standAt i0.pos
      match ← pyNext it with
      | none => pure (.done .next)
      | some v =>
        letOwnedTupleGo t0 it v
        assign t0 env v
        let mut ok := true
        for c in ifs0 do
          if ok then ok ← isTrue c env (eval c env)
        if ok then
          let x ← eval i1 env
          standAt i1.pos
          let x ← foldedSetIterable i1 env x
          let _ ← runOwn (.compStart (dcx kx vx t0 i0 t1 i1 ifs0 ifs1 scope pos) 1 (← holding [x] (pyIter x)) acc env) env
        again (.compLoop (dcx kx vx t0 i0 t1 i1 ifs0 ifs1 scope pos) 0 it acc env)) := by rfl
theorem turn_inner {D : Addr} : compTurn (dcx kx vx t0 i0 t1 i1 ifs0 ifs1 scope pos) 1 it (.ref D) env = (do
      standAt i1.pos
      match ← pyNext it with
      | none => pure (.done .next)
      | some v =>
        letOwnedTupleGo t1 it v
        assign t1 env v
        let mut ok := true
        for c in ifs1 do
          if ok then ok ← isTrue c env (eval c env)
        if ok then
          (do
            let kv ← eval kx env
            let vv ← holding [kv] (eval vx env)
            standAt { kx.pos with endLine := vx.pos.endLine, endCol := vx.pos.endCol }
            holding [kv, vv] (dictSet D kv vv))
        again (.compLoop (dcx kx vx t0 i0 t1 i1 ifs0 ifs1 scope pos) 1 it (.ref D) env)) := by rfl

theorem outer_loop
    (hs : ∀ x, foldedSetIterable i1 env x = pure x) (I : Nat → Shared → Prop)
    (turn : ∀ n s, I n s → wpAny (model prog w) A (pyNext it) (fun r a => match r with
      | none => R (.ok .next) a
      | some v => wpAny (model prog w) A (letOwnedTupleGo t0 it v) (fun _ b => wpAny (model prog w) A (assign t0 env v) (fun _ c =>
          tried prog w A env ifs0 (fun ok d => if ok = true then wpAny (model prog w) A (eval i1 env) (fun x f => wpAny (model prog w) A (pyIter x) (fun it1 g =>
              codeAny (model prog w) A (.compStart (dcx kx vx t0 i0 t1 i1 ifs0 ifs1 scope pos) 1 it1 acc env) (fun r h => match r with
                | .ok _ => ∃ m, m < n ∧ I m h
                | .error _ => False) g) (ouch prog w A env R) f) (ouch prog w A env R) d
            else ∃ m, m < n ∧ I m d) (ouch prog w A env R) c) (ouch prog w A env R) b) (ouch prog w A env R) a) (ouch prog w A env R) s)
    (n : Nat) (h : I n s) : codeAny (model prog w) A (.compLoop (dcx kx vx t0 i0 t1 i1 ifs0 ifs1 scope pos) 0 it acc env) R s := by
  refine codeAny_loop rfl I (fun n s hI => ?_) n h
  show wpAny _ A ((compTurn (dcx kx vx t0 i0 t1 i1 ifs0 ifs1 scope pos) 0 it acc env).onRaise (fun x => do noteFrame x env; theTreesLotGoes x)) _ _ s
  refine wpAny_noted ?_
  rw [turn_outer]
  refine wpAny_bind (wpAny_standAt (wpAny_bind (wpAny_mono (turn n s hI) (fun r a ha => ?_) fun _ _ z => z)))
  match r, ha with
  | none, ha => exact wpAny_pure ha
  | some v, ha =>
    refine wpAny_bind (wpAny_mono ha (fun _ b hb => wpAny_bind (wpAny_mono hb (fun _ c hc => wpAny_bind (wpAny_mono hc (fun ok d hd => ?_) fun _ _ z => z)) fun _ _ z => z)) fun _ _ z => z)
    match ok, hd with
    | false, hd => exact wpAny_pure ⟨rfl, hd⟩
    | true, hd =>
      refine wpAny_bind (wpAny_mono hd (fun x f hf => wpAny_bind (wpAny_standAt (wpAny_bind (wpAny_of_eq (hs x) (wpAny_bind (wpAny_holding (wpAny_mono hf (fun it1 g hg => ?_) fun _ _ z => z))))))) fun _ _ z => z)
      refine wpAny_bind (wpAny_runOwn ?_)
      rw [Around.mark_none]
      refine codeAny_mono hg fun r h hr => ?_
      match r, hr with
      | .ok f, hr =>
        first
          | exact wpAny_pure ⟨rfl, hr⟩
          | exact wpAny_bind (wpAny_pure (wpAny_pure ⟨rfl, hr⟩))
      | .error x, hr => exact hr.elim

theorem inner_loop {D : Addr} (I : Nat → Shared → Prop)
    (turn : ∀ n s, I n s → wpAny (model prog w) A (pyNext it) (fun r a => match r with
      | none => R (.ok .next) a
      | some v => wpAny (model prog w) A (letOwnedTupleGo t1 it v) (fun _ b => wpAny (model prog w) A (assign t1 env v) (fun _ c =>
          tried prog w A env ifs1 (fun ok d => if ok = true then wpAny (model prog w) A (eval kx env) (fun kv f => wpAny (model prog w) A (eval vx env) (fun vv g =>
              wpAny (model prog w) A (dictSet D kv vv) (fun _ h => ∃ m, m < n ∧ I m h) (ouch prog w A env R) g) (ouch prog w A env R) f) (ouch prog w A env R) d
            else ∃ m, m < n ∧ I m d) (ouch prog w A env R) c) (ouch prog w A env R) b) (ouch prog w A env R) a) (ouch prog w A env R) s)
    (n : Nat) (h : I n s) : codeAny (model prog w) A (.compLoop (dcx kx vx t0 i0 t1 i1 ifs0 ifs1 scope pos) 1 it (.ref D) env) R s := by
  refine codeAny_loop rfl I (fun n s hI => ?_) n h
  show wpAny _ A ((compTurn (dcx kx vx t0 i0 t1 i1 ifs0 ifs1 scope pos) 1 it (.ref D) env).onRaise (fun x => do noteFrame x env; theTreesLotGoes x)) _ _ s
  refine wpAny_noted ?_
  rw [turn_inner]
  refine wpAny_bind (wpAny_standAt (wpAny_bind (wpAny_mono (turn n s hI) (fun r a ha => ?_) fun _ _ z => z)))
  match r, ha with
  | none, ha => exact wpAny_pure ha
  | some v, ha =>
    refine wpAny_bind (wpAny_mono ha (fun _ b hb => wpAny_bind (wpAny_mono hb (fun _ c hc => wpAny_bind (wpAny_mono hc (fun ok d hd => ?_) fun _ _ z => z)) fun _ _ z => z)) fun _ _ z => z)
    match ok, hd with
    | false, hd => exact wpAny_pure ⟨rfl, hd⟩
    | true, hd =>
      exact wpAny_bind (wpAny_bind (wpAny_mono hd (fun kv f hf => wpAny_bind (wpAny_holding (wpAny_mono hf (fun vv g hg => wpAny_bind (wpAny_standAt (wpAny_holding (wpAny_mono hg (fun _ h hh => wpAny_pure ⟨rfl, hh⟩) fun _ _ z => z)))) fun _ _ z => z))) fun _ _ z => z))

theorem inner_start (h0 : codeAny (model prog w) A (.compLoop (dcx kx vx t0 i0 t1 i1 ifs0 ifs1 scope pos) 1 it acc env) R s)
    (h : wpAny (model prog w) A (pyIter it) (fun it' s' => codeAny (model prog w) A (.compLoop (dcx kx vx t0 i0 t1 i1 ifs0 ifs1 scope pos) 1 it' acc env) R s') (ouch prog w A env R) s) : codeAny (model prog w) A (.compStart (dcx kx vx t0 i0 t1 i1 ifs0 ifs1 scope pos) 1 it acc env) R s := by
  refine codeAny_of_tree ?_
  show wpAny _ _ ((compStart (dcx kx vx t0 i0 t1 i1 ifs0 ifs1 scope pos) 1 it acc env).onRaise (fun x => do noteFrame x env; standAt theWindowsPlace)) _ _ s
  refine wpAny_notedAt ?_
  unfold compStart
  show wpAny _ _ (ask >>= _) _ _ s
  refine wpAny_bind (wpAny_askSetting (wpAny_ite ?_))
  split
  · first
      | exact wpAny_bind (wpAny_pure (wpAny_pure ⟨rfl, h0⟩))
      | exact wpAny_pure ⟨rfl, h0⟩
  · refine wpAny_bind (wpAny_rule ?_)
    show wpAny _ _ (standAt i1.pos >>= _) _ _ s
    exact wpAny_bind (wpAny_standAt (wpAny_bind (wpAny_mono h (fun it' s' z => wpAny_pure ⟨rfl, z⟩) fun _ _ z => z)))
end

section
variable {X : Cx}
/-- what such a comprehension asks: behind the first clause's store and tests the second source's own loop, from whose end the next turn is reached -/
def tDc2 (wi : TI) (g : TG) (tt : TT) (wi1 : TI) (g1 : TG) (tt1 : TT) (tk tv : TE) (vs vs1 : List Nat) : TE := fun σ H Q => wi σ H fun J H1 => ∀ D, H1 D = none → ∃ W : Nat → Nat → Hp → Prop, (∃ m, W 0 m (upd H1 D (.dK []))) ∧ ∀ i m H, W i m H →
  (J.stop i H ∧ Q (.ref D) H) ∨ (J.go i H ∧ ∃ Nx : Hp → Prop, (∀ H', Nx H' → ∃ m', m' < m ∧ W (i + 1) m' H') ∧ ∀ x H', J.yld i H x H' → g x (wipe σ vs) H' fun σ2 H2 => wipe σ2 vs = wipe σ vs ∧ tt σ2 H2 fun b H3 =>
    if b = true then wi1 σ2 H3 fun J1 H4 => ∃ W1 : Nat → Nat → Hp → Prop, (∃ m, W1 0 m H4) ∧ ∀ j k H, W1 j k H →
      (J1.stop j H ∧ Nx H) ∨ (J1.go j H ∧ ∃ Nx1 : Hp → Prop, (∀ H', Nx1 H' → ∃ k', k' < k ∧ W1 (j + 1) k' H') ∧ ∀ x H', J1.yld j H x H' → g1 x (wipe σ2 vs1) H' fun σ3 H5 => wipe σ3 vs1 = wipe σ2 vs1 ∧ tt1 σ3 H5 fun b H6 =>
        if b = true then tk σ3 H6 fun y H7 => tv σ3 H7 fun z H8 => ∃ ks k, y = kV k ∧ H8 D = some (.dK ks) ∧ ks.length < sizeLine ∧ Nx1 (upd H8 D (.dK (putK ks k z))) else Nx1 H6)
    else Nx H3)

theorem core_dc2 {pins : List (Addr × Obj)} {s : Shared} {σ : St} {H : Hp} {Q : VK} {pos pos' : Pos} {use : Option (Value → Sem Unit)} {Qf : Value → Shared → Prop} {kx vx t0 i0 t1 i1 : Expr} {ifs0 ifs1 : List Expr} {scope : Scope} {own : List (Str × Nat)} {vs1 : List Nat} {wi wi1 : TI} {g g1 : TG} {tt tt1 : TT} {tk tv : TE} (I : Inv X pins σ H s) (calm : X.calm = true) (hN : X.N.Nodup) (hi : PI X t0 i0 wi)
    (ok : BlkOk X.N X.env.scope scope own) (hv : ∀ i ∈ vs1, i ∈ own.map (·.2))
    (hg : ∀ (s : Shared) (H : Hp) (C : Addr) (cl : List (Str × Addr)) (fp : List Addr), PG (X.blk s H scope (compEnvC scope cl C X.env) fp) t0 g)
    (ht : ∀ (s : Shared) (H : Hp) (C : Addr) (cl : List (Str × Addr)) (fp : List Addr), PTs (X.blk s H scope (compEnvC scope cl C X.env) fp) ifs0 tt)
    (hi1 : ∀ (s : Shared) (H : Hp) (C : Addr) (cl : List (Str × Addr)) (fp : List Addr), PI (X.blk s H scope (compEnvC scope cl C X.env) fp) t1 i1 wi1)
    (hg1 : ∀ (s : Shared) (H : Hp) (C : Addr) (cl : List (Str × Addr)) (fp : List Addr), PG (X.blk s H scope (compEnvC scope cl C X.env) fp) t1 g1)
    (ht1 : ∀ (s : Shared) (H : Hp) (C : Addr) (cl : List (Str × Addr)) (fp : List Addr), PTs (X.blk s H scope (compEnvC scope cl C X.env) fp) ifs1 tt1)
    (hk : ∀ (s : Shared) (H : Hp) (C : Addr) (cl : List (Str × Addr)) (fp : List Addr), PE (X.blk s H scope (compEnvC scope cl C X.env) fp) kx tk)
    (he : ∀ (s : Shared) (H : Hp) (C : Addr) (cl : List (Str × Addr)) (fp : List Addr), PE (X.blk s H scope (compEnvC scope cl C X.env) fp) vx tv)
    (hs : ∀ x, foldedSetIterable i0 X.env x = pure x) (hs1 : ∀ env x, foldedSetIterable i1 env x = pure x) (h : tDc2 wi g tt wi1 g1 tt1 tk tv (own.map (·.2)) vs1 σ H Q)
    (fin : ∀ D C z m H', Inv X pins σ H' z → Q (.ref D) H' → z.heap.Ns C m → FpOk X pins H' C → compPost (model X.prog X.w) X.A X.xe use Qf (.ref D) C (.ok .next) z) :
    wpAny (model X.prog X.w) X.A (comprehension (dcx kx vx t0 i0 t1 i1 ifs0 ifs1 scope pos) scope X.env pos' newDict false (eval i0 X.env) use) Qf X.xe s := by
  have caught : ∀ y ∈ scope.names, y.2 = .free → ∃ c, X.env.cells.lookup y.1 = some c := fun y hy q => I.ok.has _ (ok.free y hy q)
  refine wpAny_comprehension_free (use := use) rfl hs (closure_ok caught) ok.kind (fun y hy q => by rw [ok.uniq y hy, q]) (thn (hi.run pins s σ H _ I h) fun xv a hx => thn hx fun itv b h2 => ?_)
  obtain ⟨it, fp, tn, J, H2, q2, I2, T, st2, f2, q⟩ := h2
  subst q2
  refine wpAny_newObj_type (newEnv_comp ?_)
  generalize hD : b.heap.objs.size = D
  have newD : H2 D = none := I2.hok.fresh (Nat.le_of_eq hD)
  obtain ⟨W, ⟨m0, w0⟩, turn⟩ := q D newD
  generalize hc : ({ b with heap := b.heap.push { cls := .type "dict", data := .dict #[] } } : Shared) = c
  have hcH : c.heap = b.heap.push { cls := .type "dict", data := .dict #[] } := by rw [← hc]
  have I3 : Inv X pins σ (upd H2 D (.dK [])) c := by
    rw [← hc]
    refine I2.laid (t' := b.toks) (fun _ _ z => Heap.get?_push_of_some _ z) (Nat.le_of_eq hD) ?_
    rw [← hD]
    exact dk_empty b.heap I2.big
  have there : ∀ p ∈ fp, p < b.heap.objs.size := fun p hp => let ⟨_, z, _⟩ := T.obj _ _ st2 p hp; Heap.lt_size z
  have f3 : ∀ p ∈ fp, FpOk X pins (upd H2 D (.dK [])) p ∧ p < c.heap.objs.size := by
    intro p hp
    have lt := there p hp
    refine ⟨⟨?_, (f2 p hp).2⟩, by rw [hcH, Heap.size_push]; exact Nat.lt_succ_of_lt lt⟩
    rw [upd_ne (by rw [← hD]; exact Nat.ne_of_lt lt)]
    exact (f2 p hp).1
  have st3 : tn 0 c.heap := T.keep _ _ _ st2 fun p _ o z => by rw [hcH]; exact Heap.get?_push_of_some _ z
  have I4 := block_start I3 ok hN f3
  generalize hcl : cellsFrom (c.heap.objs.size + 1) scope.names (cloFrom X.env.cells scope.names []) = cl at I4
  have Pg := hg c (upd H2 D (.dK [])) c.heap.objs.size cl fp
  have Pt := ht c (upd H2 D (.dK [])) c.heap.objs.size cl fp
  have Pi1 := hi1 c (upd H2 D (.dK [])) c.heap.objs.size cl fp
  have Pg1 := hg1 c (upd H2 D (.dK [])) c.heap.objs.size cl fp
  have Pt1 := ht1 c (upd H2 D (.dK [])) c.heap.objs.size cl fp
  have Pk := hk c (upd H2 D (.dK [])) c.heap.objs.size cl fp
  have Pv := he c (upd H2 D (.dK [])) c.heap.objs.size cl fp
  have none3 : ∀ p ∈ fp, (upd H2 D (.dK [])) p = none := fun p hp => (f3 p hp).1.1
  have lo : (compEnvC scope cl c.heap.objs.size X.env).locals = c.heap.objs.size := rfl
  show codeAny _ _ (.compStart (dcx kx vx t0 i0 t1 i1 ifs0 ifs1 scope pos) 0 (.ref it) (.ref D) (compEnvC scope cl c.heap.objs.size X.env)) (compPost (model X.prog X.w) X.A X.xe use Qf (.ref D) c.heap.objs.size) { c with heap := pushCells (c.heap.push { cls := .type "dict", data := .dict #[] }) scope.names }
  generalize compEnvC scope cl c.heap.objs.size X.env = ce at *
  generalize hH3 : upd H2 D (.dK []) = H3 at *
  generalize hd : ({ c with heap := pushCells (c.heap.push { cls := .type "dict", data := .dict #[] }) scope.names } : Shared) = d at I4 ⊢
  have st4 : tn 0 d.heap := T.keep _ _ _ st3 fun p _ o z => by rw [← hd]; exact pushCells_keeps _ _ _ _ (Heap.get?_push_of_some _ z)
  have stand : ∀ {σ' : St} {H' : Hp} {s' : Shared}, Inv (X.blk c H3 scope ce fp) [] σ' H' s' → (∀ p ∈ fp, H' p = none) → ∀ p ∈ fp, FpOk (X.blk c H3 scope ce fp) [] H' p := fun I' hn p hp =>
    ⟨hn p hp, (I'.ok.exf p hp).1, I'.ok.exfs p hp, .inl hp, fun x z e => (I'.ok.exf p hp).2 x z e, fun y hy => nomatch (show y ∈ ([] : List (Addr × Obj)) from hy)⟩
  -- the outer loop
  have loop : codeAny (model X.prog X.w) X.A (.compLoop (dcx kx vx t0 i0 t1 i1 ifs0 ifs1 scope pos) 0 (.ref it) (.ref D) ce) (compPost (model X.prog X.w) X.A X.xe use Qf (.ref D) c.heap.objs.size) d := by
    refine outer_loop (hs1 ce) (fun n z => ∃ i H', Inv (X.blk c H3 scope ce fp) [] (wipe σ (own.map (·.2))) H' z ∧ tn i z.heap ∧ (∀ p ∈ fp, H' p = none) ∧ W i n H') ?_ m0 ⟨0, H3, I4, st4, none3, w0⟩
    rintro n z5 ⟨i, H5, I5, st5, n5, w5⟩
    rcases turn i n H5 w5 with ⟨stop, qq⟩ | ⟨go, Nx, toNx, step⟩
    · refine thnF (T.done (X.blk c H3 scope ce fp) rfl rfl rfl calm i [] z5 _ H5 (fun _ _ => False) I5 (stand I5 n5) st5 stop) fun r z6 ⟨hr, I6⟩ => ?_
      subst hr
      have I7 : Inv X pins σ H5 z6 := I3.call' (ch := fp) I6.os I6.base I6.hok I6.bare fun p hp =>
        have y := (f3 p hp).1.2
        ⟨y.2.2.1, y.1, y.2.2.2.1, y.2.2.2.2⟩
      obtain ⟨m, hm, _⟩ := I6.loc
      have hm : z6.heap.Ns ce.locals m := hm
      have freeC : H5 ce.locals = none := I6.free
      rw [lo] at hm freeC
      exact fin D c.heap.objs.size z6 m H5 I7 qq hm (I3.fpOk (Nat.le_refl _) freeC)
    · refine thnF (T.item (X.blk c H3 scope ce fp) rfl rfl rfl calm i [] z5 _ H5 (fun _ _ => False) I5 (stand I5 n5) st5 go) fun r z6 ⟨u, hr, h6⟩ => ?_
      subst hr
      refine thnF h6 fun _ z7 ⟨x, H7, I7, r7, y7, st7, n7⟩ => ?_
      refine thnF (Pg.run _ z7 _ H7 x u _ (I7.pinned (stand I7 n7) (T.obj _ _ st7)) r7 (step x H7 y7)) fun _ z8 ⟨σ8, H8, I8, hw8, q8⟩ => ?_
      refine thnF (Pt.run _ z8 σ8 H8 _ I8 q8) fun ok9 z9 ⟨H9, I9, q9⟩ => ?_
      have back : ∀ {σ9 : St} {z : Shared} {H' : Hp}, Inv (X.blk c H3 scope ce fp) ([] ++ pinsAt fp z7.heap) σ9 H' z → (wipe σ (own.map (·.2))).length = σ9.length → (∀ (j : Nat) v, (wipe σ (own.map (·.2)))[j]? = some (some v) → σ9[j]? = some (some v)) → Nx H' →
          ∃ m, m < n ∧ ∃ i H', Inv (X.blk c H3 scope ce fp) [] (wipe σ (own.map (·.2))) H' z ∧ tn i z.heap ∧ (∀ p ∈ fp, H' p = none) ∧ W i m H' := by
        intro σ9 z H' I' hl hk nx
        obtain ⟨m', lt, w'⟩ := toNx H' nx
        have pinned : ∀ p ∈ fp, ∀ o, z7.heap.get? p = some o → z.heap.get? p = some o ∧ H' p = none := fun p hp o eo =>
          have y := I'.pin (p, o) (List.mem_append_right _ (List.mem_append_right _ (mem_pinsAt hp eo)))
          ⟨y.1, y.2.1⟩
        refine ⟨m', lt, i + 1, H', (I'.unpinned (pins := [])).weak hl hk, T.keep _ _ _ st7 fun p hp o eo => (pinned p hp o eo).1, fun p hp => ?_, w'⟩
        obtain ⟨o, eo, _⟩ := T.obj _ _ st7 p hp
        exact (pinned p hp o eo).2
      have len8 : (wipe σ (own.map (·.2))).length = σ8.length := by rw [← hw8, wipe_length]
      have known8 : ∀ (j : Nat) v, (wipe σ (own.map (·.2)))[j]? = some (some v) → σ8[j]? = some (some v) := fun j v e => by
        rw [← hw8] at e
        exact (wipe_some e).1
      have known9 : ∀ (j : Nat) v, (wipe σ (own.map (·.2)))[j]? = some (some v) → (wipe σ8 vs1)[j]? = some (some v) := fun j v e => by
        rw [← hw8] at e
        have y := wipe_some e
        rw [wipe_out fun z => y.2 (hv j z)]
        exact y.1
      cases ok9 with
      | false =>
        simp only [Bool.false_eq_true, if_false] at q9 ⊢
        exact back I9 len8 known8 q9
      | true =>
        simp only [if_true] at q9 ⊢
        refine thnF (Pi1.run _ z9 σ8 H9 _ I9 q9) fun xv z10 hx => thnF hx fun itv z11 h11 => ?_
        obtain ⟨it1, fp1, tn1, J1, H11, e1, I11, T1, st11, f11, W1, ⟨m1, w1⟩, turn1⟩ := h11
        subst e1
        have stand1 : ∀ {H' : Hp}, (∀ p ∈ fp1, H' p = none) → ∀ p ∈ fp1, FpOk (X.blk c H3 scope ce fp) ([] ++ pinsAt fp z7.heap) H' p := fun hn p hp => ⟨hn p hp, (f11 p hp).2⟩
        have loop1 : codeAny (model X.prog X.w) X.A (.compLoop (dcx kx vx t0 i0 t1 i1 ifs0 ifs1 scope pos) 1 (.ref it1) (.ref D) ce) (fun r z => match r with
            | .ok _ => ∃ m, m < n ∧ ∃ i H', Inv (X.blk c H3 scope ce fp) [] (wipe σ (own.map (·.2))) H' z ∧ tn i z.heap ∧ (∀ p ∈ fp, H' p = none) ∧ W i m H'
            | .error _ => False) z11 := by
          refine inner_loop (fun k z => ∃ j H', Inv (X.blk c H3 scope ce fp) ([] ++ pinsAt fp z7.heap) (wipe σ8 vs1) H' z ∧ tn1 j z.heap ∧ (∀ p ∈ fp1, H' p = none) ∧ W1 j k H') ?_ m1 ⟨0, H11, I11.weak (wipe_length _ _) (fun j v e => (wipe_some e).1), st11, fun p hp => (f11 p hp).1, w1⟩
          rintro k z12 ⟨j, H12, I12, st12, n12, w12⟩
          rcases turn1 j k H12 w12 with ⟨stop1, nx1⟩ | ⟨go1, Nx1, toNx1, step1⟩
          · refine thnF (T1.done (X.blk c H3 scope ce fp) rfl rfl rfl calm j _ z12 (wipe σ8 vs1) H12 (fun _ _ => False) I12 (stand1 n12) st12 stop1) fun r z13 ⟨hr, I13⟩ => ?_
            subst hr
            exact back I13 (len8.trans (wipe_length σ8 vs1).symm) known9 nx1
          · refine thnF (T1.item (X.blk c H3 scope ce fp) rfl rfl rfl calm j _ z12 (wipe σ8 vs1) H12 (fun _ _ => False) I12 (stand1 n12) st12 go1) fun r z13 ⟨u1, hr, h13⟩ => ?_
            subst hr
            refine thnF h13 fun _ z14 ⟨x1, H14, I14, r14, y14, st14, n14⟩ => ?_
            refine thnF (Pg1.run _ z14 (wipe σ8 vs1) H14 x1 u1 _ (I14.pinned (stand1 n14) (T1.obj _ _ st14)) r14 (step1 x1 H14 y14)) fun _ z15 ⟨σ15, H15, I15, hw15, q15⟩ => ?_
            refine thnF (Pt1.run _ z15 σ15 H15 _ I15 q15) fun ok16 z16 ⟨H16, I16, q16⟩ => ?_
            have back1 : ∀ {z : Shared} {H' : Hp}, Inv (X.blk c H3 scope ce fp) (([] ++ pinsAt fp z7.heap) ++ pinsAt fp1 z14.heap) σ15 H' z → Nx1 H' →
                ∃ m, m < k ∧ ∃ j H', Inv (X.blk c H3 scope ce fp) ([] ++ pinsAt fp z7.heap) (wipe σ8 vs1) H' z ∧ tn1 j z.heap ∧ (∀ p ∈ fp1, H' p = none) ∧ W1 j m H' := by
              intro z H' I' nx
              obtain ⟨m', lt, w'⟩ := toNx1 H' nx
              have pinned : ∀ p ∈ fp1, ∀ o, z14.heap.get? p = some o → z.heap.get? p = some o ∧ H' p = none := fun p hp o eo =>
                have y := I'.pin (p, o) (List.mem_append_right _ (List.mem_append_right _ (mem_pinsAt hp eo)))
                ⟨y.1, y.2.1⟩
              refine ⟨m', lt, j + 1, H', I'.unpinned.weak (by rw [← hw15, wipe_length]) (fun j v e => by rw [← hw15] at e; exact (wipe_some e).1), T1.keep _ _ _ st14 fun p hp o eo => (pinned p hp o eo).1, fun p hp => ?_, w'⟩
              obtain ⟨o, eo, _⟩ := T1.obj _ _ st14 p hp
              exact (pinned p hp o eo).2
            cases ok16 with
            | false =>
              simp only [Bool.false_eq_true, if_false] at q16 ⊢
              exact back1 I16 q16
            | true =>
              simp only [if_true] at q16 ⊢
              refine thnF (Pk.run _ z16 σ15 H16 _ I16 q16) fun kv z17 ⟨yk, H17, I17, r17, q17⟩ => ?_
              refine thnF (Pv.run _ z17 σ15 H17 _ I17 q17) fun vv z18 ⟨yv, H18, I18, r18, ks, key, ek, hD18, hz18, nx⟩ => ?_
              subst ek
              exact d_dictSet (X := X.blk c H3 scope ce fp) I18 hD18 hz18 r17 r18 fun z19 I19 => back1 I19 nx
        exact inner_start loop1 (T1.self X.A 0 _ _ _ st11 loop1)
  exact codeAny_compStart_dict loop (T.self X.A 0 _ _ _ st4 loop)
theorem pe_dc2 {pos : Pos} {kx vx t0 i0 t1 i1 : Expr} {ifs0 ifs1 : List Expr} {scope : Scope} {own : List (Str × Nat)} {vs1 : List Nat} {wi wi1 : TI} {g g1 : TG} {tt tt1 : TT} {tk tv : TE} (calm : X.calm = true) (hN : X.N.Nodup) (hi : PI X t0 i0 wi)
    (ok : BlkOk X.N X.env.scope scope own) (hv : ∀ i ∈ vs1, i ∈ own.map (·.2))
    (hg : ∀ (s : Shared) (H : Hp) (C : Addr) (cl : List (Str × Addr)) (fp : List Addr), PG (X.blk s H scope (compEnvC scope cl C X.env) fp) t0 g)
    (ht : ∀ (s : Shared) (H : Hp) (C : Addr) (cl : List (Str × Addr)) (fp : List Addr), PTs (X.blk s H scope (compEnvC scope cl C X.env) fp) ifs0 tt)
    (hi1 : ∀ (s : Shared) (H : Hp) (C : Addr) (cl : List (Str × Addr)) (fp : List Addr), PI (X.blk s H scope (compEnvC scope cl C X.env) fp) t1 i1 wi1)
    (hg1 : ∀ (s : Shared) (H : Hp) (C : Addr) (cl : List (Str × Addr)) (fp : List Addr), PG (X.blk s H scope (compEnvC scope cl C X.env) fp) t1 g1)
    (ht1 : ∀ (s : Shared) (H : Hp) (C : Addr) (cl : List (Str × Addr)) (fp : List Addr), PTs (X.blk s H scope (compEnvC scope cl C X.env) fp) ifs1 tt1)
    (hk : ∀ (s : Shared) (H : Hp) (C : Addr) (cl : List (Str × Addr)) (fp : List Addr), PE (X.blk s H scope (compEnvC scope cl C X.env) fp) kx tk)
    (he : ∀ (s : Shared) (H : Hp) (C : Addr) (cl : List (Str × Addr)) (fp : List Addr), PE (X.blk s H scope (compEnvC scope cl C X.env) fp) vx tv)
    (hs : ∀ x, foldedSetIterable i0 X.env x = pure x := by intro _; rfl) (hs1 : ∀ env x, foldedSetIterable i1 env x = pure x := by intro _ _; rfl) :
    PE X (.DictComp kx vx [⟨t0, i0, ifs0, 0⟩, ⟨t1, i1, ifs1, 0⟩] scope pos) (tDc2 wi g tt wi1 g1 tt1 tk tv (own.map (·.2)) vs1) := by
  refine ⟨fun pins s σ H Q I h => ?_⟩
  rw [arm_eval_DictComp]
  refine core_dc2 I calm hN hi ok hv hg ht hi1 hg1 ht1 hk he hs hs1 h fun D C z m H' J q hm fp => ⟨m, hm, fun h'' sb => ?_⟩
  obtain ⟨f0, f1, _, f5, f6, f7⟩ := fp
  exact ⟨.ref D, H', J.turned (t' := z.toks) (fun p o hp eo => (sb.2 p hp).trans eo) f0 f1 f5 f6 f7, rfl, q⟩

/-- the store of a dict comprehension at a name, within its frame -/
theorem in_frame {kx vx : Expr} {gs : List Comprehension} {scope : Scope} {pos py : Pos} {y : Str} {l : Nat} {env : Env} (hk : env.scope.kind = .function) (hy : env.scope.names.lookup y = some .local) (hl : (py.line == pos.line) = true)
    (ha : (scope.names.any fun (n, k) => n == y && (k == .local || k == .cell)) = false) : swapsWith (.DictComp kx vx gs scope pos) (some (.Name y py)) l env = pure true := by
  have k1 : env.kindOf y = some .local := hy
  have k2 : env.blockKind = .function := by
    unfold Env.blockKind
    rw [hk]
    rfl
  unfold swapsWith
  simp only [k2, k1, ha, Expr.pos, hl]
  rfl
theorem stored {pins : List (Addr × Obj)} {σ : St} {s : Shared} {D : Ends} {i : Nat} {y : Str} {py : Pos} (hN : X.N.Nodup) (hy : X.N[i]? = some y) (loc : X.env.scope.names.lookup y = some .local) {L C : Addr} {m : Str → Option Value} {H' : Hp} (J : Inv X pins σ H' s)
    (q : gName i (.ref L) σ H' D.nx) (hm : s.heap.Ns C m) (fp : FpOk X pins H' C) : compPost (model X.prog X.w) X.A X.xe (some (assign (.Name y py) X.env)) (fun _ z => SP X pins D .next z) (.ref L) C (.ok .next) s := by
  show wpAny _ _ (assign (.Name y py) X.env (.ref L)) _ _ _
  obtain ⟨f0, f1, f2, f5, f6, f7⟩ := fp
  refine wpAny_assign_Name (store_ok2 (v := V.ref L) J hN hy (.inl loc) rfl (fun z I2 ⟨a, sb, ha⟩ => ?_) (.inr loc))
  have apart : C ≠ a := ha.elim (fun q => by rw [q]; exact f1) fun q e => f6 y a q e.symm
  exact ⟨m, hm.sameBut sb apart, fun h3 sb3 => ⟨_, H', I2.turned (t' := z.toks) (fun p o hp eo => (sb3.2 p hp).trans eo) f0 f1 f5 f6 f7, q⟩⟩
theorem ps_setDc2 {i : Nat} {y : Str} {py pos spos : Pos} {kx vx t0 i0 t1 i1 : Expr} {ifs0 ifs1 : List Expr} {scope : Scope} {own : List (Str × Nat)} {vs1 : List Nat} {wi wi1 : TI} {g g1 : TG} {tt tt1 : TT} {tk tv : TE} (calm0 : X.calm = true) (nd : X.N.Nodup) (hy : X.N[i]? = some y) (loc : X.env.scope.names.lookup y = some .local)
    (sw : swapsWith (.DictComp kx vx [⟨t0, i0, ifs0, 0⟩, ⟨t1, i1, ifs1, 0⟩] scope pos) (some (.Name y py)) spos.line X.env = pure true) (hi : PI X t0 i0 wi)
    (ok : BlkOk X.N X.env.scope scope own) (hv : ∀ i ∈ vs1, i ∈ own.map (·.2))
    (hg : ∀ (s : Shared) (H : Hp) (C : Addr) (cl : List (Str × Addr)) (fp : List Addr), PG (X.blk s H scope (compEnvC scope cl C X.env) fp) t0 g)
    (ht : ∀ (s : Shared) (H : Hp) (C : Addr) (cl : List (Str × Addr)) (fp : List Addr), PTs (X.blk s H scope (compEnvC scope cl C X.env) fp) ifs0 tt)
    (hi1 : ∀ (s : Shared) (H : Hp) (C : Addr) (cl : List (Str × Addr)) (fp : List Addr), PI (X.blk s H scope (compEnvC scope cl C X.env) fp) t1 i1 wi1)
    (hg1 : ∀ (s : Shared) (H : Hp) (C : Addr) (cl : List (Str × Addr)) (fp : List Addr), PG (X.blk s H scope (compEnvC scope cl C X.env) fp) t1 g1)
    (ht1 : ∀ (s : Shared) (H : Hp) (C : Addr) (cl : List (Str × Addr)) (fp : List Addr), PTs (X.blk s H scope (compEnvC scope cl C X.env) fp) ifs1 tt1)
    (hk : ∀ (s : Shared) (H : Hp) (C : Addr) (cl : List (Str × Addr)) (fp : List Addr), PE (X.blk s H scope (compEnvC scope cl C X.env) fp) kx tk)
    (he : ∀ (s : Shared) (H : Hp) (C : Addr) (cl : List (Str × Addr)) (fp : List Addr), PE (X.blk s H scope (compEnvC scope cl C X.env) fp) vx tv)
    (hs : ∀ x, foldedSetIterable i0 X.env x = pure x := by intro _; rfl) (hs1 : ∀ env x, foldedSetIterable i1 env x = pure x := by intro _ _; rfl) :
    PS X (.Assign [.Name y py] (.DictComp kx vx [⟨t0, i0, ifs0, 0⟩, ⟨t1, i1, ifs1, 0⟩] scope pos) spos) (tAsg (tDc2 wi g tt wi1 g1 tt1 tk tv (own.map (·.2)) vs1) (gName i)) := by
  refine ⟨fun pins s σ H D I h => ?_⟩
  rw [exec_Assign_Name_used _ _ _ _ sw]
  refine wpAny_bind (wpAny_standAt (wpAny_bind ?_))
  show wpAny _ X.A (do let _ ← comprehension (dcx kx vx t0 i0 t1 i1 ifs0 ifs1 scope pos) scope X.env (firstIterPos [⟨t0, i0, ifs0, 0⟩, ⟨t1, i1, ifs1, 0⟩] pos) newDict false (eval i0 X.env) (some (assign (.Name y py) X.env))) _ _ s
  have h : tDc2 wi g tt wi1 g1 tt1 tk tv (own.map (·.2)) vs1 σ H (fun x H1 => gName i x σ H1 D.nx) := h
  exact wpAny_bind (thn (core_dc2 (Qf := fun _ z => SP X pins D .next z) I calm0 nd hi ok hv hg ht hi1 hg1 ht1 hk he hs hs1 h fun L C z m H' J q hm fp => stored nd hy loc J q hm fp) fun _ z hq => wpAny_pure (wpAny_pure hq))
theorem ps_setDc {i : Nat} {y : Str} {py pos spos : Pos} {kx vx tg iter : Expr} {ifs : List Expr} {scope : Scope} {own : List (Str × Nat)} {wi : TI} {g : TG} {tt : TT} {tk tv : TE} (calm0 : X.calm = true) (nd : X.N.Nodup) (hy : X.N[i]? = some y) (loc : X.env.scope.names.lookup y = some .local)
    (sw : swapsWith (.DictComp kx vx [⟨tg, iter, ifs, 0⟩] scope pos) (some (.Name y py)) spos.line X.env = pure true) (hi : PI X tg iter wi) (ok : BlkOk X.N X.env.scope scope own)
    (hg : ∀ (s : Shared) (H : Hp) (C : Addr) (cl : List (Str × Addr)) (fp : List Addr), PG (X.blk s H scope (compEnvC scope cl C X.env) fp) tg g)
    (ht : ∀ (s : Shared) (H : Hp) (C : Addr) (cl : List (Str × Addr)) (fp : List Addr), PTs (X.blk s H scope (compEnvC scope cl C X.env) fp) ifs tt)
    (hk : ∀ (s : Shared) (H : Hp) (C : Addr) (cl : List (Str × Addr)) (fp : List Addr), PE (X.blk s H scope (compEnvC scope cl C X.env) fp) kx tk)
    (he : ∀ (s : Shared) (H : Hp) (C : Addr) (cl : List (Str × Addr)) (fp : List Addr), PE (X.blk s H scope (compEnvC scope cl C X.env) fp) vx tv) (hs : ∀ x, foldedSetIterable iter X.env x = pure x := by intro _; rfl) :
    PS X (.Assign [.Name y py] (.DictComp kx vx [⟨tg, iter, ifs, 0⟩] scope pos) spos) (tAsg (tDc wi g tt tk tv (own.map (·.2))) (gName i)) := by
  refine ⟨fun pins s σ H D I h => ?_⟩
  rw [exec_Assign_Name_used _ _ _ _ sw]
  refine wpAny_bind (wpAny_standAt (wpAny_bind ?_))
  show wpAny _ X.A (do let _ ← comprehension (.DictComp kx vx [⟨tg, iter, ifs, 0⟩] scope pos) scope X.env (firstIterPos [⟨tg, iter, ifs, 0⟩] pos) newDict false (eval iter X.env) (some (assign (.Name y py) X.env))) _ _ s
  have h : tDc wi g tt tk tv (own.map (·.2)) σ H (fun x H1 => gName i x σ H1 D.nx) := h
  exact wpAny_bind (thn (dc_core (Qf := fun _ z => SP X pins D .next z) calm0 nd I hi ok hg ht hk he hs h fun L C z m H' J q hm fp => stored nd hy loc J q hm fp) fun _ z hq => wpAny_pure (wpAny_pure hq))
end
end L2.Fb

/-! Words: defs and their promises in one; what is read stays readable; a dict walked by its keys, locked or not; comprehensions as filterMap. -/
namespace L2.Fb
open PySem PySem.Spec
open PyProof.Rows

/-! ### defs -/
/-- a def as the top left it -/
def Dfn (K : PySem.W.Frag) (mg : Str → Option Value) (x : Str) (st : Stmt) (ps : List Str) : Prop := ∃ (f : Addr) (fd : FuncData), Fun K x x st f fd ∧ Binds K fd ps [] ∧ mg x = some (.ref f)
/-- .. and its promise -/
def Cal (P : Program) (w : World) (K : PySem.W.Frag) (mg : Str → Option Value) (base : Heap) (CX : CXT) (k : Nat) (x : Str) (st : Stmt) (ps : List Str) (sp : Sp) : Prop :=
  ∃ (f : Addr) (fd : FuncData), Fun K x x st f fd ∧ Binds K fd ps [] ∧ mg x = some (.ref f) ∧ FnOk P w K mg base CX k f fd ps sp
def CalG (P : Program) (w : World) (K : PySem.W.Frag) (mg : Str → Option Value) (base : Heap) (CX : CXT) (k : Nat) (x : Str) (st : Stmt) (ps : List Str) (sp : Sp) : Prop :=
  ∃ (f : Addr) (fd : FuncData), Fun K x x st f fd ∧ Binds K fd ps [] ∧ mg x = some (.ref f) ∧ FnG P w K mg base CX k f fd ps sp
section
variable {P : Program} {w : World} {K : PySem.W.Frag} {mg : Str → Option Value} {base : Heap} {CX : CXT} {k : Nat} {x : Str} {st : Stmt} {ps : List Str} {sp : Sp}
theorem Dfn.cal (D : Dfn K mg x st ps) (h : ∀ f fd, Fun K x x st f fd → FnOk P w K mg base CX k f fd ps sp) : Cal P w K mg base CX k x st ps sp :=
  let ⟨f, fd, F, b, g⟩ := D
  ⟨f, fd, F, b, g, h f fd F⟩
theorem Dfn.calG (D : Dfn K mg x st ps) (h : ∀ f fd, Fun K x x st f fd → FnG P w K mg base CX k f fd ps sp) : CalG P w K mg base CX k x st ps sp :=
  let ⟨f, fd, F, b, g⟩ := D
  ⟨f, fd, F, b, g, h f fd F⟩
end
def tCal (sp : Sp) (E : XK) (t : TA) : TE := fun σ H Q => t σ H fun vs H1 => sp vs H1 Q E
section
variable {X : Cx} {CX : CXT} {k : Nat} {st : Stmt} {ps : List Str} {sp : Sp} {E : XK} {x : Str} {p pos : Pos} {e : Expr} {es : List Expr} {t : TA}
theorem pe_callC (C : Cal X.prog X.w X.K X.mg X.base CX k x st ps sp) (hr : Room k X.A) (hg : Gl X x) (hx : Passes CX X E) (ha : PA X (e :: es) t) (hdb : (x == ("__debug__" : Str)) = false := by decide)
    (he : starEach (e :: es) X.env = (false, eval e X.env) :: starEach es X.env := by rfl) (hpl : (backTo pos (starEach es X.env)).any (·.1) = false := by rfl) : PE X (.Call (.Name x p) (e :: es) [] pos) (tCal sp E t) := by
  obtain ⟨f, fd, F, b, g, ok⟩ := C
  have h := pe_call (p := p) (pos := pos) ok hr hg g F.kp b .nil hx ha hdb he hpl
  refine ⟨fun pins s σ H Q I q => h.run pins s σ H Q I ?_⟩
  show t σ H fun vs H1 => sp (vs ++ []) H1 Q E
  have z : t σ H fun vs H1 => sp vs H1 Q E := q
  simpa only [List.append_nil] using z
theorem pe_callCG (C : CalG X.prog X.w X.K X.mg X.base CX k x st ps sp) (gd : X.A.guards = some []) (hr : Room k X.A) (hg : Gl X x) (hx : Passes CX X E) (ha : PA X (e :: es) t) (hdb : (x == ("__debug__" : Str)) = false := by decide)
    (he : starEach (e :: es) X.env = (false, eval e X.env) :: starEach es X.env := by rfl) (hpl : (backTo pos (starEach es X.env)).any (·.1) = false := by rfl) : PE X (.Call (.Name x p) (e :: es) [] pos) (tCal sp E t) := by
  obtain ⟨f, fd, F, b, g, ok⟩ := C
  have h := pe_callG (p := p) (pos := pos) ok gd hr hg g F.kp b hx ha hdb he hpl
  refine ⟨fun pins s σ H Q I q => h.run pins s σ H Q I ?_⟩
  show t σ H fun vs H1 => sp (vs ++ []) H1 Q E
  have z : t σ H fun vs H1 => sp vs H1 Q E := q
  simpa only [List.append_nil] using z
end

/-! ### what stays readable -/
/-- whatever may be read in H may be read in H' -/
def Le (H H' : Hp) : Prop := ∀ a u, Rd H a u → Rd H' a u
theorem Le.refl (H : Hp) : Le H H := fun _ _ h => h
theorem Le.trans {H H1 H2 : Hp} (a : Le H H1) (b : Le H1 H2) : Le H H2 := fun x u h => b x u (a x u h)
theorem same_le {H H' : Hp} (e : Same H H') : Le H H' := fun _ _ h => rd_same e h
theorem Le.none {H H' : Hp} (e : Le H H') {p : Addr} (h : H' p = none) : H p = none := by
  cases q : H p with
  | none => rfl
  | some u =>
    rcases e p u (.inl q) with z | ⟨o, z⟩
    · rw [h] at z
      cases z
    · rw [h] at z
      cases z
section
variable {K : PySem.W.Frag} {H H' : Hp}
theorem Le.seq {a : Addr} {xs : List V} (e : Le H H') (h : SqL K H a xs) : SqL K H' a xs := h.elim (fun q => .inl (e _ _ q)) .inr
theorem Le.sqt {a : Addr} {xs : List V} (e : Le H H') (h : SqT K H a xs) : SqT K H' a xs := h.elim (fun q => .inl (e _ _ q)) .inr
mutual
theorem Da.le (e : Le H H') : ∀ (d : PyData) {v : V}, Da K H v d → Da K H' v d
  | .none, _, h => by cases h; exact .non
  | .bool _, _, h => by cases h; exact .bl _
  | .int _, _, h => by cases h; exact .int _
  | .str _, _, h => by cases h; exact .str _
  | .list _, _, h => by cases h with | lst a b => exact .lst (e.seq a) (DaL.le e _ b)
  | .tuple _, _, h => by cases h with | tup a b => exact .tup (e.sqt a) (DaL.le e _ b)
  | .dict _, _, h => by cases h with | dct a b => exact .dct (e _ _ a) (DaK.le e _ b)
theorem DaL.le (e : Le H H') : ∀ (ds : List PyData) {vs : List V}, DaL K H vs ds → DaL K H' vs ds
  | [], _, h => by cases h; exact .nil
  | _ :: _, _, h => by cases h with | cons a b => exact .cons (Da.le e _ a) (DaL.le e _ b)
theorem DaK.le (e : Le H H') : ∀ (ds : List (PyData × PyData)) {vs : List (Key × V)}, DaK K H vs ds → DaK K H' vs ds
  | [], _, h => by cases h; exact .nil
  | _ :: _, _, h => by cases h with | cons a b => exact .cons (Da.le e _ a) (DaK.le e _ b)
end
theorem same_new {p : Addr} {o : HO} (h : H p = Option.none) : Same H (upd H p o) := fun b x e => by
  rw [upd_ne (ne_of_none e h)]
  exact e
theorem same_mut {p : Addr} {o : HO} {H0 : Hp} (s : Same H0 H) (h : H0 p = Option.none) : Same H0 (upd H p o) := fun b x e => by
  rw [upd_ne (ne_of_none e h)]
  exact s _ _ e
theorem DaL.at : ∀ {xs : List V} {ds : List PyData}, DaL K H xs ds → ∀ (i : Nat) (x : V), xs[i]? = some x → ∃ d, ds[i]? = some d ∧ Da K H x d
  | _, _, .nil, _, _, e => by simp at e
  | _, _, .cons h _, 0, x, e => by
    cases (Option.some.inj (show some _ = some x from e))
    exact ⟨_, rfl, h⟩
  | _, _, .cons _ h, i + 1, x, e => h.at i x e
theorem DaL.of : ∀ {xs : List V} {ds : List PyData}, DaL K H xs ds → ∀ (i : Nat) (d : PyData), ds[i]? = some d → ∃ x, xs[i]? = some x ∧ Da K H x d
  | _, _, .nil, _, _, e => by simp at e
  | _, _, .cons h _, 0, x, e => by
    cases (Option.some.inj (show some _ = some x from e))
    exact ⟨_, rfl, h⟩
  | _, _, .cons _ h, i + 1, x, e => h.of i x e
theorem DaL.app : ∀ {xs ys : List V} {ds es : List PyData}, DaL K H xs ds → DaL K H ys es → DaL K H (xs ++ ys) (ds ++ es)
  | _, _, _, _, .nil, h => h
  | _, _, _, _, .cons a b, h => .cons a (b.app h)
theorem DaL.strs : ∀ (xs : List Str), DaL K H (xs.map V.str) (xs.map PyData.str)
  | [] => .nil
  | x :: xs => .cons (.str x) (DaL.strs xs)
theorem DaL.ints : ∀ (xs : List Int), DaL K H (xs.map V.int) (xs.map PyData.int)
  | [] => .nil
  | x :: xs => .cons (.int x) (DaL.ints xs)
end

/-! ### kinds -/
def tyName : PyData → String
  | .none => "NoneType" | .bool _ => "bool" | .int _ => "int" | .str _ => "str" | .list _ => "list" | .tuple _ => "tuple" | .dict _ => "dict"
theorem Da.ty {K : PySem.W.Frag} {H : Hp} {v : V} {d : PyData} (h : Da K H v d) : TyX K H v (.type (tyName d)) := by
  cases h with
  | non => exact .base .non
  | bl b => exact .base (.bl b)
  | int i => exact .base (.int i)
  | str x => exact .base (.str x)
  | lst a b =>
    rcases a with (a | ⟨o, a⟩) | ⟨o, its, n, a, c, _⟩
    · exact .base (.lst a)
    · exact .base (.frz a)
    · exact .kList a c
  | tup a b =>
    rcases a with (a | ⟨o, a⟩) | ⟨o, its, n, a, c, _⟩
    · exact .base (.tup a)
    · exact .fTuple a
    · exact .kTuple a c
  | dct a b =>
    rcases a with a | ⟨o, a⟩
    · exact .base (.dK a)
    · exact .fDict a
theorem isi_ok {K : PySem.W.Frag} {H : Hp} {v : V} {d : PyData} (h : Da K H v d) {T : String} {b : Bool} (hb : kitB (tyName d) T = some b) {Q : VK} (q : Q (.bl b) H) : rIsi K [v, .ty T] H Q :=
  ⟨v, .ty T, _, _, b, rfl, .ty _, h.ty, kit_ty hb, q⟩
def isStr : PyData → Bool | .str _ => true | _ => false
def isInt : PyData → Bool | .int _ => true | .bool _ => true | _ => false
def isBool : PyData → Bool | .bool _ => true | _ => false
def isList : PyData → Bool | .list _ => true | _ => false
def isTuple : PyData → Bool | .tuple _ => true | _ => false
def isDict : PyData → Bool | .dict _ => true | _ => false
theorem kit_str (d : PyData) : kitB (tyName d) "str" = some (isStr d) := by cases d <;> simp only [tyName, isStr] <;> decide +kernel
theorem kit_int (d : PyData) : kitB (tyName d) "int" = some (isInt d) := by cases d <;> simp only [tyName, isInt] <;> decide +kernel
theorem kit_bool (d : PyData) : kitB (tyName d) "bool" = some (isBool d) := by cases d <;> simp only [tyName, isBool] <;> decide +kernel
theorem kit_list (d : PyData) : kitB (tyName d) "list" = some (isList d) := by cases d <;> simp only [tyName, isList] <;> decide +kernel
theorem kit_tuple (d : PyData) : kitB (tyName d) "tuple" = some (isTuple d) := by cases d <;> simp only [tyName, isTuple] <;> decide +kernel
theorem kit_dict (d : PyData) : kitB (tyName d) "dict" = some (isDict d) := by cases d <;> simp only [tyName, isDict] <;> decide +kernel

/-! ### powers of great ints -/
def CPowW (i j : Int) : Prop := 0 ≤ j ∧ ∃ n : Nat, i.natAbs < 2 ^ n ∧ 0 < n ∧ (n : Int) * j ≤ 1000000
theorem op_powW {X : Cx} : OpR X (binaryOp .Pow) (rI CPowW fun i j => .int (i ^ j.toNat)) := opI fun i j _ _ _ _ _ hc q => by
  obtain ⟨h0, n, hn, n0, hz⟩ := hc
  refine pow_int h0 ?_ q
  have b : Builtin.Int.intBits i ≤ n := by
    have := PySem.Flt.log2_lt_of n0 hn
    unfold Builtin.Int.intBits
    split <;> omega
  have b2 : ((Builtin.Int.intBits i : Nat) : Int) * j ≤ (n : Int) * j := Int.mul_le_mul_of_nonneg_right (by omega) h0
  omega

/-! ### len(set(xs)) of ints -/
def tLenSetG (K : PySem.W.Frag) (ta : TE) : TE := fun σ H Q => ta σ H fun x H1 => ∃ (l : Addr) (ns : List Int), x = .ref l ∧ SqL K H1 l (ns.map V.int) ∧ ns.length ≤ 4000 ∧ Q (.int ((firstMet (fun i => ns.getD i 0) ns.length).length : Nat)) H1
theorem pe_lenSet {X : Cx} {a : Expr} {ta : TE} {p p2 q pos : Pos} (hg : Gl X "len") (hm : X.mg "len" = none) (hg2 : Gl X "set") (hm2 : X.mg "set" = none) (ha : PE X a ta) (calm : X.calm = true := by rfl)
    (na : starEach [a] X.env = (false, eval a X.env) :: starEach [] X.env := by rfl) : PE X (.Call (.Name "len" p) [.Call (.Name "set" p2) [a] [] q] [] pos) (tLenSetG X.K ta) := by
  refine ⟨fun pins s σ H Q I h => Call_ (ld_blt I hg hm boot_len (callWith_builtin1 (args_cons ?_ rfl) rfl rfl))⟩
  refine Call_ (ld_blt I hg2 hm2 boot_set (callWith_type1 (args_cons (thn (ha.run pins s σ H _ I h) fun v s1 ⟨x, H1, I1, r1, q1⟩ => args_nil ?_) na) na rfl))
  obtain ⟨l, ns, rfl, hq, hl, q1⟩ := q1
  cases r1
  obtain ⟨its, r, pl, hz⟩ := I1.list hq
  have size : its.toArray.size = ns.length := by rw [List.size_toArray, ← r.length, List.length_map]
  refine call_set_list (I1.ok.hd calm) pl.isList (by simpa using RZ.intsAre_vals r) (by rw [size]; unfold scanBound; omega) fun h' tk hS hk => args_nil ?_
  rw [size] at hS
  obtain ⟨o, es, ep, t, ho, hex, hd, _, _, _, hf, hn⟩ := hS
  have I2 : Inv X pins σ H1 { s1 with heap := h', toks := tk } := I1.kept fun b o e => hk b o (Heap.lt_size e) e
  have few := firstMet_length_le (fun i => ns.getD i 0) ns.length
  exact call_len_set ho hex hd hf (by rw [hn]; have : 4000 < sizeLine := (by decide); omega) ⟨.int ((firstMet (fun i => ns.getD i 0) ns.length).length : Nat), H1, I2.tok _, ⟨_, by rw [hn]⟩, q1⟩
end L2.Fb

/-! A dict walked by its keys, locked or not; comprehensions told as filterMap. -/
namespace L2.Fb
open PySem PySem.Spec
open PyProof.Rows

/-! ### a dict walked: locked here, or by a caller -/
structure Lkd (H : Hp) (a : Addr) (ks : List (Key × V)) (od : Obj) (un : Hp → Hp) (H1 : Hp) : Prop where
  rd : Rd H a (.dK ks)
  frz : H1 a = some (.frz od (.dK ks))
  le : Le H H1
  off : ∀ b, b ≠ a → H1 b = H b
  unOff : ∀ H' b, b ≠ a → un H' b = H' b
  unAt : ∀ H', H' a = some (.frz od (.dK ks)) → un H' a = H a
/-- what follows, the dict as it was -/
def _root_.L2.Ends.lk (D : Ends) (a : Addr) (ks : List (Key × V)) (od : Obj) (un : Hp → Hp) : Ends :=
  ⟨fun σ' H' => H' a = some (.frz od (.dK ks)) ∧ D.nx σ' (un H'), fun v H' => H' a = some (.frz od (.dK ks)) ∧ D.rt v (un H'), fun σ' H' => H' a = some (.frz od (.dK ks)) ∧ D.bk σ' (un H'), fun σ' H' => H' a = some (.frz od (.dK ks)) ∧ D.ct σ' (un H')⟩
section
variable {H H1 H' : Hp} {a : Addr} {ks : List (Key × V)} {od : Obj} {un : Hp → Hp}
theorem Lkd.same (L : Lkd H a ks od un H1) (e : Same H1 H') : Same H (un H') := fun b u q => by
  by_cases z : b = a
  · subst z
    rw [L.unAt H' (e _ _ L.frz)]
    exact q
  · rw [L.unOff H' b z]
    exact e _ _ (by rw [L.off b z]; exact q)
theorem Lkd.new (L : Lkd H a ks od un H1) {b : Addr} {u : HO} (e : H1 b = none) (q : H' b = some u) : H b = none ∧ un H' b = some u := by
  have z : b ≠ a := fun z => by
    subst z
    rw [L.frz] at e
    cases e
  rw [L.unOff H' b z, ← L.off b z]
  exact ⟨e, q⟩
theorem lkd_here (h : H a = some (.dK ks)) (od : Obj) : Lkd H a ks od (fun H' => upd H' a (.dK ks)) (upd H a (.frz od (.dK ks))) where
  rd := .inl h
  frz := upd_same
  le := fun b u r => by
    by_cases e : b = a
    · subst e
      rcases r with y | ⟨o', y⟩
      · rw [h] at y
        cases Option.some.inj y
        exact .inr ⟨od, upd_same⟩
      · rw [h] at y
        cases y
    · rcases r with y | ⟨o, y⟩
      · exact .inl (by rw [upd_ne e]; exact y)
      · exact .inr ⟨o, by rw [upd_ne e]; exact y⟩
  off := fun b e => upd_ne e
  unOff := fun H' b e => upd_ne e
  unAt := fun H' _ => by
    show upd H' a (.dK ks) a = H a
    rw [upd_same, h]
theorem lkd_there (h : H a = some (.frz od (.dK ks))) : Lkd H a ks od (fun H' => H') H where
  rd := .inr ⟨_, h⟩
  frz := h
  le := Le.refl H
  off := fun _ _ => rfl
  unOff := fun _ _ _ => rfl
  unAt := fun H' e => by
    show H' a = H a
    rw [e, h]
end
/-- a statement, an expression, that walks the dict at a -/
def tLockO (t : TS) : TS := fun D σ H => ∃ a ks, Rd H a (.dK ks) ∧ ∀ od un H1, Lkd H a ks od un H1 → t (D.lk a ks od un) σ H1
def tLockOE (t : TE) : TE := fun σ H Q => ∃ a ks, Rd H a (.dK ks) ∧ ∀ od un H1, Lkd H a ks od un H1 → t σ H1 fun v H' => H' a = some (.frz od (.dK ks)) ∧ Q v (un H')
section
variable {X : Cx}
theorem ps_lockO {st : Stmt} {t : TS} (h : PS X st t) : PS X st (tLockO t) := by
  refine ⟨fun pins s σ H D I hw => ?_⟩
  obtain ⟨a, ks, r, hw⟩ := hw
  rcases r with r | ⟨o, r⟩
  · exact (ps_lock h).run pins s σ H D I ⟨a, .dK ks, r, trivial, fun od => hw od _ _ (lkd_here r od)⟩
  · refine thn (h.run pins s σ H (D.lk a ks o fun H' => H') I (hw o _ _ (lkd_there r))) fun f s1 q => ?_
    cases f with
    | next =>
      obtain ⟨σ', H', I', q⟩ := q
      exact ⟨σ', H', I', q.2⟩
    | ret v =>
      obtain ⟨v', σ', H', I', rv, q⟩ := q
      exact ⟨v', σ', H', I', rv, q.2⟩
    | brk =>
      obtain ⟨σ', H', I', q⟩ := q
      exact ⟨σ', H', I', q.2⟩
    | cont =>
      obtain ⟨σ', H', I', q⟩ := q
      exact ⟨σ', H', I', q.2⟩
theorem pe_lockO {e : Expr} {t : TE} (h : PE X e t) : PE X e (tLockOE t) := by
  refine ⟨fun pins s σ H Q I hw => ?_⟩
  obtain ⟨a, ks, r, hw⟩ := hw
  rcases r with r | ⟨o, r⟩
  · exact (pe_lock h).run pins s σ H Q I ⟨a, .dK ks, r, trivial, fun od => hw od _ _ (lkd_here r od)⟩
  · refine thn (h.run pins s σ H _ I (hw o _ _ (lkd_there r))) fun u s1 q => ?_
    obtain ⟨v, H', I', rv, q⟩ := q
    exact ⟨v, H', I', rv, q.2⟩
end

/-! ### comprehensions: what they make, as data -/
section
variable {J : It} {n : Nat} {G : Hp → Prop} {Y : Nat → Hp → V → Hp → Prop} {g : TG} {tt : TT} {te : TE} {vs : List Nat} {σ : St} {H1 : Hp} {D : Addr} {Qd : Hp → Prop} {S T : Type}
/-- all but what stands at D is as it was -/
def Off (D : Addr) (H H' : Hp) : Prop := ∀ b u, b ≠ D → H b = some u → H' b = some u
theorem same_off {H H' : Hp} (e : Same H H') : Off D H H' := fun b u _ q => e b u q
theorem off_upd {H : Hp} {o : HO} : Off D H (upd H D o) := fun b u z q => by rw [upd_ne z]; exact q
theorem Off.trans {H H' H'' : Hp} (e : Off D H H') (f : Off D H' H'') : Off D H H'' := fun b u z q => f b u z (e b u z q)
theorem paired_snoc {α β : Type} {F : α → β → Prop} : ∀ {xs : List α} {ys : List β} {x : α} {y : β}, Paired F xs ys → F x y → Paired F (xs ++ [x]) (ys ++ [y])
  | _, _, _, _, .nil, h => .cons h .nil
  | _, _, _, _, .cons a b, h => .cons a (paired_snoc b h)
/-- [e for x in .. if ..]: us tells the items, f what is made of one (if anything), R how a made one stands in the heap -/
theorem lc_fm (w : Walk J n G Y) (us : List S) (f : S → Option T) (R : T → V → Hp → Prop) (nD : H1 D = none) (hn : n = us.length) (hz : n ≤ 50000) (hG : ∀ H, Same H1 H → G H) (mono : ∀ t y H H', Off D H H' → R t y H → R t y H')
    (turn : ∀ i s x H H', us[i]? = some s → Same H1 H → (∃ ys, H D = some (.lst ys)) → Y i H x H' → ∀ (K : V → Hp → Prop) (N : Hp → Prop), (∀ t y H4, f s = some t → Same H H4 → R t y H4 → K y H4) → (∀ H4, f s = none → Same H H4 → N H4) →
      g x (wipe σ vs) H' fun σ2 H2 => wipe σ2 vs = wipe σ vs ∧ tt σ2 H2 fun b H3 => if b = true then te σ2 H3 K else N H3)
    (hd : ∀ H ys, Same H1 H → H D = some (.lst ys) → Paired (fun t y => R t y H) (us.filterMap f) ys → Qd H) :
    ∃ W : Nat → Nat → Hp → Prop, (∃ m, W 0 m (upd H1 D (.lst []))) ∧ ∀ i m H, W i m H →
      (J.stop i H ∧ Qd H) ∨ (J.go i H ∧ ∃ Nx : Hp → Prop, (∀ H', Nx H' → ∃ m', m' < m ∧ W (i + 1) m' H') ∧ ∀ x H', J.yld i H x H' → g x (wipe σ vs) H' fun σ2 H2 => wipe σ2 vs = wipe σ vs ∧ tt σ2 H2 fun b H3 =>
        if b = true then te σ2 H3 fun y H4 => ∃ acc, H4 D = some (.lst acc) ∧ acc.length < sizeLine ∧ Nx (upd H4 D (.lst (acc ++ [y]))) else Nx H3) := by
  subst hn
  refine lc_it w (fun i H => Same H1 H ∧ ∃ ys, H D = some (.lst ys) ∧ Paired (fun t y => R t y H) ((us.take i).filterMap f) ys) ⟨same_new nD, [], upd_same, .nil⟩ (fun i H _ p => hG H p.1) ?_ ?_
  · rintro i x H H' hi ⟨sm, ys, eD, pr⟩ y
    have hs : us[i]? = some us[i] := List.getElem?_eq_getElem hi
    have tk : us.take (i + 1) = us.take i ++ [us[i]] := by rw [List.take_add_one, hs]; rfl
    have len : ys.length ≤ i := by
      rw [← pr.length]
      have h1 := List.length_filterMap_le f (us.take i)
      rw [List.length_take] at h1
      omega
    refine turn i us[i] x H H' hs sm ⟨ys, eD⟩ y _ _ (fun t z H4 ft s4 r => ⟨ys, s4 _ _ eD, ?_, same_mut (sm.trans s4) nD, ys ++ [z], upd_same, ?_⟩) fun H4 ft s4 => ⟨sm.trans s4, ys, s4 _ _ eD, ?_⟩
    · have : 50000 < sizeLine := by decide
      omega
    · rw [tk, List.filterMap_append]
      have e1 : List.filterMap f [us[i]] = [t] := by simp [ft]
      rw [e1]
      exact paired_snoc (Paired.mapP pr fun t z r => mono t z H _ ((same_off s4).trans off_upd) r) (mono t z H4 _ off_upd r)
    · rw [tk, List.filterMap_append]
      have e0 : List.filterMap f [us[i]] = [] := by simp [ft]
      rw [e0, List.append_nil]
      exact Paired.mapP pr fun t z r => mono t z H H4 (same_off s4) r
  · rintro H ⟨sm, ys, eD, pr⟩
    rw [List.take_length] at pr
    exact hd H ys sm eD pr
/-- {k: v for x in .. if ..}, the walk any -/
theorem dc_it {tk tv : TE} (w : Walk J n G Y) (Pv : Nat → Hp → Prop) (h0 : Pv 0 (upd H1 D (.dK []))) (hG : ∀ i H, i ≤ n → Pv i H → G H)
    (hs : ∀ i x H H', i < n → Pv i H → Y i H x H' → g x (wipe σ vs) H' fun σ2 H2 => wipe σ2 vs = wipe σ vs ∧ tt σ2 H2 fun b H3 =>
      if b = true then tk σ2 H3 fun y H4 => tv σ2 H4 fun z H5 => ∃ ks k, y = kV k ∧ H5 D = some (.dK ks) ∧ ks.length < sizeLine ∧ Pv (i + 1) (upd H5 D (.dK (putK ks k z))) else Pv (i + 1) H3) (hd : ∀ H, Pv n H → Qd H) :
    ∃ W : Nat → Nat → Hp → Prop, (∃ m, W 0 m (upd H1 D (.dK []))) ∧ ∀ i m H, W i m H →
      (J.stop i H ∧ Qd H) ∨ (J.go i H ∧ ∃ Nx : Hp → Prop, (∀ H', Nx H' → ∃ m', m' < m ∧ W (i + 1) m' H') ∧ ∀ x H', J.yld i H x H' → g x (wipe σ vs) H' fun σ2 H2 => wipe σ2 vs = wipe σ vs ∧ tt σ2 H2 fun b H3 =>
        if b = true then tk σ2 H3 fun y H4 => tv σ2 H4 fun z H5 => ∃ ks k, y = kV k ∧ H5 D = some (.dK ks) ∧ ks.length < sizeLine ∧ Nx (upd H5 D (.dK (putK ks k z))) else Nx H3) := by
  refine ⟨fun i m H => m = n - i ∧ i ≤ n ∧ Pv i H, ⟨n, by simp, Nat.zero_le _, h0⟩, ?_⟩
  rintro i m H ⟨rfl, hi, p⟩
  have q := hG i H hi p
  rcases Nat.lt_or_ge i n with lt | ge
  · exact .inr ⟨w.goes i H lt q, Pv (i + 1), fun H' p' => ⟨n - (i + 1), by omega, rfl, lt, p'⟩, fun x H' y => hs i x H H' lt p (w.yields i H x H' lt q y)⟩
  · obtain rfl : i = n := by omega
    exact .inl ⟨w.stops H q, hd H p⟩
/-- two clauses: what a list of pieces makes; W for the inner walk -/
theorem in_it {J1 : It} {n1 : Nat} {G1 : Hp → Prop} {Y1 : Nat → Hp → V → Hp → Prop} {H4 : Hp} {Nx : Hp → Prop} {body : V → Hp → (Hp → Prop) → Prop} (w : Walk J1 n1 G1 Y1) (Pv : Nat → Hp → Prop) (h0 : Pv 0 H4) (hG : ∀ j H, j ≤ n1 → Pv j H → G1 H)
    (hs : ∀ j x H H', j < n1 → Pv j H → Y1 j H x H' → body x H' (Pv (j + 1))) (hd : ∀ H, Pv n1 H → Nx H) :
    ∃ W1 : Nat → Nat → Hp → Prop, (∃ m, W1 0 m H4) ∧ ∀ j k H, W1 j k H → (J1.stop j H ∧ Nx H) ∨ (J1.go j H ∧ ∃ Nx1 : Hp → Prop, (∀ H', Nx1 H' → ∃ k', k' < k ∧ W1 (j + 1) k' H') ∧ ∀ x H', J1.yld j H x H' → body x H' Nx1) := by
  refine ⟨fun j k H => k = n1 - j ∧ j ≤ n1 ∧ Pv j H, ⟨n1, by simp, Nat.zero_le _, h0⟩, ?_⟩
  rintro j k H ⟨rfl, hj, p⟩
  have q := hG j H hj p
  rcases Nat.lt_or_ge j n1 with lt | ge
  · exact .inr ⟨w.goes j H lt q, Pv (j + 1), fun H' p' => ⟨n1 - (j + 1), by omega, rfl, lt, p'⟩, fun x H' y => hs j x H H' lt p (w.yields j H x H' lt q y)⟩
  · obtain rfl : j = n1 := by omega
    exact .inl ⟨w.stops H q, hd H p⟩
theorem yes_go {te : TE} {K : V → Hp → Prop} {N : Hp → Prop} {σ : St} {H : Hp} (h : te σ H K) : tYes σ H fun b H3 => if b = true then te σ H3 K else N H3 := by
  show (if true = true then te σ H K else N H)
  rw [if_pos rfl]
  exact h
end
theorem yes_on {F N : Hp → Prop} {σ : St} {H : Hp} (h : F H) : tYes σ H fun b H3 => if b = true then F H3 else N H3 := by
  show (if true = true then F H else N H)
  rw [if_pos rfl]
  exact h
theorem pi_listK {X : Cx} {K : PySem.W.Frag} {tg l : Expr} {tl : TE} (hK : X.K = K) (hl : PE X l tl) : PI X tg l (iList K tl) := by
  subst hK
  exact pi_list hl
section
variable {X : Cx} {K : PySem.W.Frag}
theorem ix_tupK (hK : X.K = K) : IxR X (rIxT K) := hK ▸ ix_tup
theorem ix_listK (hK : X.K = K) : IxR X (rIxL K) := hK ▸ ix_list
theorem call_len_seqK (hK : X.K = K) : CallR X (.builtin "len") (fun xs H Q => ∃ p ys, xs = [V.ref p] ∧ (SqL K H p ys ∨ SqT K H p ys) ∧ Q (.int ys.length) H) := hK ▸ call_len_seq
theorem call_isiKK (hK : X.K = K) : CallR X (.builtin "isinstance") (rIsi K) := hK ▸ call_isi
theorem call_list_ofK (hK : X.K = K) : CallR X (.type "list") (fun xs H Q => ∃ p ys, xs = [V.ref p] ∧ (SqL K H p ys ∨ SqT K H p ys) ∧ ∀ l, H l = none → Q (.ref l) (upd H l (.lst ys))) := hK ▸ call_list_of
theorem op_in_seqK (hK : X.K = K) : OpR X (compareOp .In) (rIn K false) := hK ▸ op_in_seq
theorem op_notIn_seqK (hK : X.K = K) : OpR X (compareOp .NotIn) (rIn K true) := hK ▸ op_notIn_seq
theorem call_dictPK (hK : X.K = K) (hc : X.calm = true) : CallR X (.type "dict") (fun xs H Q => ∃ a ps kvs, xs = [V.ref a] ∧ SqL K H a (ps.map V.ref) ∧ Paired (fun p (kv : Key × V) => SqT K H p [kV kv.1, kv.2]) ps kvs ∧ ∀ p, H p = none → Q (.ref p) (upd H p (.dK (mergeK [] kvs)))) := hK ▸ call_dictP hc
theorem pg_tupK {pos : Pos} {es : List Expr} {k : Nat} {t : TGs} {n : Nat} (hK : X.K = K) (hc : X.calm = true) (h : PGs X es t) (h1 : (assignEach es X.env).length = n := by rfl) (h2 : (assignEach es X.env).findIdx? (·.1) = none := by rfl) : PG X (.Tuple es k pos) (gTup K n t) := hK ▸ pg_tup hc h h1 h2
theorem sl_listK (hK : X.K = K) : SlR X (rSlL K) := hK ▸ sl_list
theorem pe_bmK {o e : Expr} {es : List Expr} {to : TE} {t : TA} {name : Str} {apos cpos : Pos} {T id : String} {r : V → List V → Hp → VK → Prop} (hK : X.K = K) (pa : PlainAttrs T) (slot : Slot T name id) (hty : typeOf (.builtin id) = pure (.type "method_descriptor")) (hm : MtR X id r) (ho : PE X o to) (ha : PA X (e :: es) t)
    (h1 : attributeBase o name X.env (eval o X.env) = eval o X.env := by rfl)
    (h2 : (((backTo cpos (starEach (e :: es) X.env)).all (!·.1) && (backToKw cpos (keywordEach [] X.env)).all (·.1.isSome) && decide (((e :: es).length + ([] : List Keyword).length + if ([] : List Keyword).isEmpty = true then 0 else 1) < 30))) = true := by rfl)
    (h3 : (apos.endLine == cpos.line) = true := by rfl) (h4 : starEach (e :: es) X.env = (false, eval e X.env) :: starEach es X.env := by rfl) (h5 : (backTo cpos (starEach es X.env)).any (·.1) = false := by rfl) :
    PE X (.Call (.Attribute o name apos) (e :: es) [] cpos) (tBM K T r to t) := by
  subst hK
  exact pe_bm pa slot hty hm ho ha h1 h2 h3 h4 h5
end
end L2.Fb

/-! Pasts as data. -/
namespace L2.Fb
open PySem PySem.Spec
open PyProof.Rows

/-! ### deeds, rows, pasts -/
inductive Deed where
  | keep | tell (l : Int) (h : Str) | hear (l : Int)
  deriving DecidableEq
def deedD : Deed → PyData
  | .keep => .tuple [.str "keep"]
  | .tell l h => .tuple [.str "tell", .int l, .str h]
  | .hear l => .tuple [.str "hear", .int l]
def deedV : Deed → List V
  | .keep => [.str "keep"]
  | .tell l h => [.str "tell", .int l, .str h]
  | .hear l => [.str "hear", .int l]
def word : Deed → Str
  | .keep => "keep" | .tell _ _ => "tell" | .hear _ => "hear"
abbrev Past := List (Str × List Deed)
def rowD (r : List Deed) : PyData := .list (r.map deedD)
def pastKv (p : Past) : List (PyData × PyData) := p.map fun q => (.str q.1, rowD q.2)
def pastD (p : Past) : PyData := .dict (pastKv p)
/-- the row of a hand -/
def look (p : Past) (h : Str) : Option (List Deed) := (p.find? fun q => decide (q.1 = h)).map (·.2)
section
variable {K : PySem.W.Frag} {H : Hp}
theorem deed_at {v : V} {d : Deed} (h : Da K H v (deedD d)) : ∃ t, v = .ref t ∧ SqT K H t (deedV d) := by
  cases d with
  | keep =>
    cases h with
    | tup a b => cases b with | cons x y => cases x; cases y; exact ⟨_, rfl, a⟩
  | tell l h' =>
    cases h with
    | tup a b => cases b with | cons x y => cases x; cases y with | cons x y => cases x; cases y with | cons x y => cases x; cases y; exact ⟨_, rfl, a⟩
  | hear l =>
    cases h with
    | tup a b => cases b with | cons x y => cases x; cases y with | cons x y => cases x; cases y; exact ⟨_, rfl, a⟩
theorem deed_da {t : Addr} {d : Deed} (h : SqT K H t (deedV d)) : Da K H (.ref t) (deedD d) := by
  cases d with
  | keep => exact .tup h (.cons (.str _) .nil)
  | tell l h' => exact .tup h (.cons (.str _) (.cons (.int _) (.cons (.str _) .nil)))
  | hear l => exact .tup h (.cons (.str _) (.cons (.int _) .nil))
theorem deed_0 (d : Deed) : ∃ r, deedV d = .str (word d) :: r := by cases d <;> exact ⟨_, rfl⟩
theorem row_at {v : V} {r : List Deed} (h : Da K H v (rowD r)) : ∃ b xs, v = .ref b ∧ SqL K H b xs ∧ DaL K H xs (r.map deedD) := by
  cases h with
  | lst a b => exact ⟨_, _, rfl, a, b⟩
theorem past_at {v : V} {p : Past} (h : Da K H v (pastD p)) : ∃ a ks, v = .ref a ∧ Rd H a (.dK ks) ∧ DaK K H ks (pastKv p) := by
  cases h with
  | dct a b => exact ⟨_, _, rfl, a, b⟩
theorem past_ix : ∀ {p : Past} {ks : List (Key × V)}, DaK K H ks (pastKv p) → ∀ (i : Nat) (k : Key) (v : V), ks[i]? = some (k, v) → ∃ q, p[i]? = some q ∧ k = .inr q.1 ∧ Da K H v (rowD q.2)
  | [], _, h, i, k, v, e => by
    cases h
    simp at e
  | q :: p, _, h, i, k, v, e => by
    have h : DaK K H _ ((.str q.1, rowD q.2) :: pastKv p) := h
    generalize hx : PyData.str q.1 = x at h
    cases h with
    | cons a b =>
      rename_i k' v' r
      cases i with
      | zero =>
        cases Option.some.inj (show some _ = some (k, v) from e)
        refine ⟨q, rfl, ?_, a⟩
        cases k with
        | inl i => cases hx
        | inr y =>
          cases hx
          rfl
      | succ i => exact past_ix b i k v e
theorem past_len {p : Past} {ks : List (Key × V)} (h : DaK K H ks (pastKv p)) : ks.length = p.length := by
  rw [h.len]
  exact List.length_map ..
theorem past_keys : ∀ {p : Past} {ks : List (Key × V)}, DaK K H ks (pastKv p) → ks.map (·.1) = p.map fun q => Sum.inr q.1
  | [], _, h => by
    cases h
    rfl
  | q :: p, _, h => by
    have h : DaK K H _ ((.str q.1, rowD q.2) :: pastKv p) := h
    generalize hx : PyData.str q.1 = x at h
    cases h with
    | cons a b =>
      rename_i k' v' r
      cases k' with
      | inl i => cases hx
      | inr y =>
        cases hx
        rw [List.map_cons, List.map_cons, past_keys b]
theorem past_look : ∀ {p : Past} {ks : List (Key × V)} {h : Str}, DaK K H ks (pastKv p) → ∀ r, look p h = some r → ∃ v, valV ks (.inr h) = some v ∧ Da K H v (rowD r)
  | [], _, _, _, _, e => by cases e
  | q :: p, _, h, hk, r, e => by
    have hk : DaK K H _ ((.str q.1, rowD q.2) :: pastKv p) := hk
    generalize hx : PyData.str q.1 = x at hk
    cases hk with
    | cons a b =>
      rename_i k' v' r'
      cases k' with
      | inl i => cases hx
      | inr y =>
        have hy : q.1 = y := by
          cases hx
          rfl
        by_cases z : y = h
        · subst z
          have e1 : look (q :: p) y = some q.2 := by
            unfold look
            rw [List.find?_cons_of_pos (by simp [hy])]
            rfl
          rw [e1] at e
          cases e
          exact ⟨v', valV_pos rfl, a⟩
        · have e1 : look (q :: p) h = look p h := by
            unfold look
            rw [List.find?_cons_of_neg (by simp [hy, z])]
          rw [e1] at e
          obtain ⟨v, h1, h2⟩ := past_look b r e
          exact ⟨v, by rw [valV_neg fun c => z (Sum.inr.inj c)]; exact h1, h2⟩
theorem past_no : ∀ {p : Past} {ks : List (Key × V)} {h : Str}, DaK K H ks (pastKv p) → look p h = none → valV ks (.inr h) = none
  | [], _, _, hk, _ => by
    cases hk
    rfl
  | q :: p, _, h, hk, e => by
    have hk : DaK K H _ ((.str q.1, rowD q.2) :: pastKv p) := hk
    generalize hx : PyData.str q.1 = x at hk
    cases hk with
    | cons a b =>
      rename_i k' v' r'
      cases k' with
      | inl i => cases hx
      | inr y =>
        have hy : q.1 = y := by
          cases hx
          rfl
        by_cases z : y = h
        · subst z
          have e1 : look (q :: p) y = some q.2 := by
            unfold look
            rw [List.find?_cons_of_pos (by simp [hy])]
            rfl
          rw [e1] at e
          cases e
        · have e1 : look (q :: p) h = look p h := by
            unfold look
            rw [List.find?_cons_of_neg (by simp [hy, z])]
          rw [e1] at e
          rw [valV_neg fun c => z (Sum.inr.inj c)]
          exact past_no b e
end
theorem look_mem : ∀ {p : Past} {h : Str} {r : List Deed}, look p h = some r → (h, r) ∈ p
  | [], _, _, e => by cases e
  | q :: p, h, r, e => by
    by_cases z : q.1 = h
    · have e1 : look (q :: p) h = some q.2 := by
        unfold look
        rw [List.find?_cons_of_pos (by simp [z])]
        rfl
      rw [e1] at e
      cases e
      subst z
      exact List.mem_cons_self
    · have e1 : look (q :: p) h = look p h := by
        unfold look
        rw [List.find?_cons_of_neg (by simp [z])]
      rw [e1] at e
      exact List.mem_cons_of_mem _ (look_mem e)
theorem look_of : ∀ {p : Past} (nd : (p.map (·.1)).Nodup) {h : Str} {r : List Deed}, (h, r) ∈ p → look p h = some r
  | q :: p, nd, h, r, m => by
    have nd : (q.1 :: p.map (·.1)).Nodup := nd
    obtain ⟨n1, n2⟩ := List.nodup_cons.mp nd
    rcases List.mem_cons.mp m with e | m
    · subst e
      unfold look
      rw [List.find?_cons_of_pos (by simp)]
      rfl
    · have z : ¬ q.1 = h := fun z => n1 (by rw [z]; exact List.mem_map.mpr ⟨(h, r), m, rfl⟩)
      unfold look
      rw [List.find?_cons_of_neg (by simp [z])]
      exact look_of n2 m

/-! ### sets of ints: as many as there are, when none is twice -/
theorem met_all (val : Nat → Int) : ∀ i, (firstMet val i).length = i → ∀ j k, j < k → k < i → val j ≠ val k
  | 0, _, j, k, _, h => by omega
  | i + 1, e, j, k, jk, ki => by
    rw [firstMet_succ] at e
    have le := firstMet_length_le val i
    have key : ((firstMet val i).any (· == val i)) = false ∧ (firstMet val i).length = i := by
      unfold step_dedup at e
      cases h : (firstMet val i).any (· == val i) with
      | true =>
        rw [h] at e
        simp at e
        omega
      | false =>
        rw [h] at e
        simp at e
        exact ⟨rfl, e⟩
    by_cases hk : k = i
    · subst hk
      intro z
      have no := key.1
      rw [firstMet_any] at no
      have yes : ((List.range k).map val).any (· == val k) = true := List.any_eq_true.mpr ⟨val j, List.mem_map.mpr ⟨j, List.mem_range.mpr jk, rfl⟩, by rw [z]; exact beq_self_eq_true _⟩
      rw [no] at yes
      cases yes
    · exact met_all val i key.2 j k jk (by omega)
theorem met_nodup (ns : List Int) : (firstMet (fun i => ns.getD i 0) ns.length).length = ns.length ↔ ns.Nodup := by
  constructor
  · intro h
    refine List.pairwise_iff_getElem.mpr fun i j hi hj lt z => met_all _ _ h i j lt hj ?_
    show ns.getD i 0 = ns.getD j 0
    rw [List.getD_eq_getElem?_getD, List.getD_eq_getElem?_getD, List.getElem?_eq_getElem hi, List.getElem?_eq_getElem hj, z]
  · intro h
    rw [RZ.firstMet_nodup h _ (Nat.le_refl _), List.take_length]

/-! ### len of a dict: no key is twice -/
theorem kv_keys {κ : Type} : ∀ {ks : List (κ × V)} {vs : List (κ × Value)}, KV ks vs → ks.map (·.1) = vs.map (·.1)
  | _, _, .nil => rfl
  | _, _, .cons a b => by rw [List.map_cons, List.map_cons, a.1, kv_keys b]
theorem call_lenDN {X : Cx} : CallR X (.builtin "len") (fun xs H Q => ∃ a ks, xs = [V.ref a] ∧ Rd H a (.dK ks) ∧ ((ks.map (·.1)).Nodup → Q (.int ks.length) H)) := by
  intro pins s σ H xs us Q I r h
  obtain ⟨a, ks, rfl, rd, q⟩ := h
  obtain ⟨u, rfl, ru⟩ := vals1 r
  cases ru
  obtain ⟨_, _, vs, kv, _, _, _, _, _, _, _, _, nd⟩ := dk_rd I.hok rd
  exact d_len I rd fun t s' I' => ⟨.int ks.length, H, I', ⟨t, rfl⟩, q (by rw [kv_keys kv]; exact nd)⟩
/-! ### letters told -/
def tellL : Deed → Option Int | .tell l _ => some l | _ => none
def toldR (r : List Deed) : List Int := r.filterMap tellL
def toldP (p : Past) : List Int := p.flatMap fun q => toldR q.2
theorem take_snoc {α : Type} {l : List α} {i : Nat} {x : α} (h : l[i]? = some x) : l.take (i + 1) = l.take i ++ [x] := by rw [List.take_add_one, h]; rfl
theorem toldP_snoc {p : Past} {i : Nat} {q : Str × List Deed} (h : p[i]? = some q) : toldP (p.take (i + 1)) = toldP (p.take i) ++ toldR q.2 := by
  rw [take_snoc h]
  unfold toldP
  rw [List.flatMap_append, List.flatMap_singleton]
theorem toldR_snoc {r : List Deed} {j : Nat} {d : Deed} (h : r[j]? = some d) : toldR (r.take (j + 1)) = toldR (r.take j) ++ (tellL d).toList := by
  rw [take_snoc h]
  unfold toldR
  rw [List.filterMap_append]
  cases d <;> rfl
theorem toldP_le (p : Past) (i : Nat) : (toldP (p.take i)).length ≤ (toldP p).length := by
  have e : toldP p = toldP (p.take i) ++ toldP (p.drop i) := by
    unfold toldP
    rw [← List.flatMap_append, List.take_append_drop]
  rw [e, List.length_append]
  omega
theorem toldR_le (r : List Deed) (j : Nat) : (toldR (r.take j)).length ≤ (toldR r).length := by
  have e : toldR r = toldR (r.take j) ++ toldR (r.drop j) := by
    unfold toldR
    rw [← List.filterMap_append, List.take_append_drop]
  rw [e, List.length_append]
  omega
theorem rows_at {K : PySem.W.Frag} {H : Hp} {xs : List V} {r : List Deed} (h : DaL K H xs (r.map deedD)) {j : Nat} {x : V} (hx : xs[j]? = some x) : ∃ d t, r[j]? = some d ∧ x = .ref t ∧ SqT K H t (deedV d) := by
  obtain ⟨d', hd', da⟩ := h.at j x hx
  rw [List.getElem?_map] at hd'
  cases e : r[j]? with
  | none =>
    rw [e] at hd'
    cases hd'
  | some d =>
    rw [e] at hd'
    cases Option.some.inj hd'
    obtain ⟨t, h1, h2⟩ := deed_at da
    exact ⟨d, t, rfl, h1, h2⟩

/-! ### a dict of one's own changed while another is walked -/
theorem Lkd.sameOff {H0 Hc H1 H' : Hp} {a M : Addr} {ks : List (Key × V)} {od : Obj} {un : Hp → Hp} (L : Lkd Hc a ks od un H1) (e : Off M H1 H') (hM : H0 M = none) (s0 : Same H0 Hc) (ha : H' a = some (.frz od (.dK ks))) : Same H0 (un H') := fun b u q => by
  have nb : b ≠ M := fun z => by
    subst z
    rw [hM] at q
    cases q
  by_cases z : b = a
  · subst z
    rw [L.unAt H' ha]
    exact s0 _ _ q
  · rw [L.unOff H' b z]
    exact e b u nb (by rw [L.off b z]; exact s0 _ _ q)
/-! ### letters told to, heard by -/
def tellT : Deed → Option (Int × Str) | .tell l h => some (l, h) | _ => none
def tellsP (p : Past) : List (Int × Str) := p.flatMap fun q => q.2.filterMap tellT
def hearT (hand : Str) : Deed → Option (Int × Str) | .hear l => some (l, hand) | _ => none
def hearsR (q : Str × List Deed) : List (Int × Str) := q.2.filterMap (hearT q.1)
def hearsP (p : Past) : List (Int × Str) := p.flatMap hearsR
theorem tells_fst (p : Past) : (tellsP p).map (·.1) = toldP p := by
  unfold tellsP toldP
  rw [List.map_flatMap]
  congr 1
  funext q
  unfold toldR
  rw [List.map_filterMap]
  congr 1
  funext d
  cases d <;> rfl
/-- each letter is heard by whom it was told, once -/
def HeardOnce (p : Past) : Prop := (∀ x ∈ hearsP p, x ∈ tellsP p) ∧ ((hearsP p).map (·.1)).Nodup
instance (p : Past) : Decidable (HeardOnce p) := by unfold HeardOnce; infer_instance
def lookT (ts : List (Int × Str)) (l : Int) : Option Str := (ts.find? fun t => decide (t.1 = l)).map (·.2)
theorem lookT_snoc {ts : List (Int × Str)} {l : Int} {h : Str} (hn : l ∉ ts.map (·.1)) (j : Int) : lookT (ts ++ [(l, h)]) j = if j = l then some h else lookT ts j := by
  unfold lookT
  rw [List.find?_append]
  by_cases z : j = l
  · subst z
    have e : (ts.find? fun t => decide (t.1 = j)) = none := by
      rw [List.find?_eq_none]
      intro t ht
      simp only [decide_eq_true_eq]
      exact fun z => hn (List.mem_map.mpr ⟨t, ht, z⟩)
    rw [e, if_pos rfl]
    simp
  · rw [if_neg z]
    have e : ([(l, h)].find? fun t => decide (t.1 = j)) = none := by
      rw [List.find?_cons_of_neg (by simp only [decide_eq_true_eq]; exact fun y => z y.symm)]
      rfl
    rw [e]
    simp
theorem lookT_mem {ts : List (Int × Str)} {l : Int} {h : Str} (e : lookT ts l = some h) : (l, h) ∈ ts := by
  unfold lookT at e
  cases q : ts.find? fun t => decide (t.1 = l) with
  | none =>
    rw [q] at e
    cases e
  | some t =>
    rw [q] at e
    have h1 := List.find?_some q
    have h2 := List.mem_of_find?_eq_some q
    simp only [decide_eq_true_eq] at h1
    cases e
    subst h1
    exact h2
theorem lookT_of : ∀ {ts : List (Int × Str)} (nd : (ts.map (·.1)).Nodup) {l : Int} {h : Str}, (l, h) ∈ ts → lookT ts l = some h
  | t :: ts, nd, l, h, m => by
    have nd : (t.1 :: ts.map (·.1)).Nodup := nd
    obtain ⟨n1, n2⟩ := List.nodup_cons.mp nd
    unfold lookT
    rcases List.mem_cons.mp m with e | m
    · subst e
      rw [List.find?_cons_of_pos (by simp)]
      rfl
    · have z : ¬ t.1 = l := fun z => n1 (by rw [z]; exact List.mem_map.mpr ⟨(l, h), m, rfl⟩)
      rw [List.find?_cons_of_neg (by simp [z])]
      exact lookT_of n2 m
theorem tells_snocR {r : List Deed} {j : Nat} {d : Deed} (h : r[j]? = some d) : (r.take (j + 1)).filterMap tellT = (r.take j).filterMap tellT ++ (tellT d).toList := by
  rw [take_snoc h, List.filterMap_append]
  cases d <;> rfl
theorem hears_snocR {hand : Str} {r : List Deed} {j : Nat} {d : Deed} (h : r[j]? = some d) : hearsR (hand, r.take (j + 1)) = hearsR (hand, r.take j) ++ (hearT hand d).toList := by
  unfold hearsR
  rw [take_snoc h, List.filterMap_append]
  cases d <;> rfl
theorem tells_snocP {p : Past} {i : Nat} {q : Str × List Deed} (h : p[i]? = some q) : tellsP (p.take (i + 1)) = tellsP (p.take i) ++ q.2.filterMap tellT := by
  rw [take_snoc h]
  unfold tellsP
  rw [List.flatMap_append, List.flatMap_singleton]
theorem hears_snocP {p : Past} {i : Nat} {q : Str × List Deed} (h : p[i]? = some q) : hearsP (p.take (i + 1)) = hearsP (p.take i) ++ hearsR q := by
  rw [take_snoc h]
  unfold hearsP
  rw [List.flatMap_append, List.flatMap_singleton]
theorem tells_pre {p : Past} {i j : Nat} {q : Str × List Deed} (h : p[i]? = some q) : ∃ z, tellsP p = (tellsP (p.take i) ++ (q.2.take j).filterMap tellT) ++ z := by
  refine ⟨(q.2.drop j).filterMap tellT ++ tellsP (p.drop (i + 1)), ?_⟩
  have e1 : tellsP p = tellsP (p.take (i + 1)) ++ tellsP (p.drop (i + 1)) := by
    unfold tellsP
    rw [← List.flatMap_append, List.take_append_drop]
  have e2 : q.2.filterMap tellT = (q.2.take j).filterMap tellT ++ (q.2.drop j).filterMap tellT := by rw [← List.filterMap_append, List.take_append_drop]
  rw [e1, tells_snocP h, e2]
  simp only [List.append_assoc]
theorem hears_pre {p : Past} {i j : Nat} {q : Str × List Deed} (h : p[i]? = some q) : ∃ z, hearsP p = (hearsP (p.take i) ++ hearsR (q.1, q.2.take j)) ++ z := by
  refine ⟨hearsR (q.1, q.2.drop j) ++ hearsP (p.drop (i + 1)), ?_⟩
  have e1 : hearsP p = hearsP (p.take (i + 1)) ++ hearsP (p.drop (i + 1)) := by
    unfold hearsP
    rw [← List.flatMap_append, List.take_append_drop]
  have e2 : hearsR q = hearsR (q.1, q.2.take j) ++ hearsR (q.1, q.2.drop j) := by
    unfold hearsR
    rw [← List.filterMap_append, List.take_append_drop]
  rw [e1, hears_snocP h, e2]
  simp only [List.append_assoc]
theorem le_off {H H3 H' : Hp} {M : Addr} (hM : H M = none) (le : Le H H3) (off : Off M H3 H') : Le H H' := fun b u r => by
  have nb : b ≠ M := fun z => by
    subst z
    rcases r with r | ⟨o, r⟩
    · rw [hM] at r
      cases r
    · rw [hM] at r
      cases r
  rcases le b u r with z | ⟨o, z⟩
  · exact .inl (off _ _ nb z)
  · exact .inr ⟨o, off _ _ nb z⟩
theorem valV_drop {κ : Type} [DecidableEq κ] : ∀ (ks : List (κ × V)) (k j : κ), valV (dropK ks k) j = if j = k then none else valV ks j
  | [], k, j => by
    show valV [] j = _
    rw [valV_nil]
    simp
  | p :: r, k, j => by
    by_cases e : p.1 = k
    · rw [dropK_pos e, valV_drop r k j]
      by_cases z : j = k
      · rw [if_pos z, if_pos z]
      · rw [if_neg z, if_neg z, valV_neg fun y => z (y.symm.trans e)]
    · rw [dropK_neg e]
      by_cases y : p.1 = j
      · rw [valV_pos y, valV_pos y, if_neg fun z => e (y.trans z)]
      · rw [valV_neg y, valV_neg y, valV_drop r k j]
end L2.Fb

namespace L2.Fb.Law
open PySem PySem.Spec
open PyProof.Rows
def topS (i : Nat) : Stmt := PySem.Challenge.pw_fallingback_k03_parts_and_letters.main.body.getD i (.Pass ⟨0, 0, 0, 0⟩)
abbrev s_is_whole : Stmt := topS 7
abbrev N_is_whole : List Str := ["thing"]
abbrev P_is_whole : List Str := ["thing"]
theorem sc_is_whole : FnScope N_is_whole P_is_whole (defScope s_is_whole) := ⟨rfl, rfl, rfl, by decide +kernel, rfl, by decide +kernel, by decide +kernel⟩
abbrev s_is_name : Stmt := topS 8
abbrev N_is_name : List Str := ["thing", "sign"]
abbrev P_is_name : List Str := ["thing"]
theorem sc_is_name : FnScope N_is_name P_is_name (defScope s_is_name) := ⟨rfl, rfl, rfl, by decide +kernel, rfl, by decide +kernel, by decide +kernel⟩
abbrev s_is_past : Stmt := topS 9
abbrev N_is_past : List Str := ["thing", "hand"]
abbrev P_is_past : List Str := ["thing"]
theorem sc_is_past : FnScope N_is_past P_is_past (defScope s_is_past) := ⟨rfl, rfl, rfl, by decide +kernel, rfl, by decide +kernel, by decide +kernel⟩
abbrev s_check_past : Stmt := topS 14
abbrev N_check_past : List Str := ["thing"]
abbrev P_check_past : List Str := ["thing"]
theorem sc_check_past : FnScope N_check_past P_check_past (defScope s_check_past) := ⟨rfl, rfl, rfl, by decide +kernel, rfl, by decide +kernel, by decide +kernel⟩
abbrev s__is_row : Stmt := topS 22
abbrev N__is_row : List Str := ["past", "hand", "row", "deed"]
abbrev P__is_row : List Str := ["past", "hand"]
theorem sc__is_row : FnScope N__is_row P__is_row (defScope s__is_row) := ⟨rfl, rfl, rfl, by decide +kernel, rfl, by decide +kernel, by decide +kernel⟩
abbrev s__is_deed : Stmt := topS 23
abbrev N__is_deed : List Str := ["past", "hand", "thing"]
abbrev P__is_deed : List Str := ["past", "hand", "thing"]
theorem sc__is_deed : FnScope N__is_deed P__is_deed (defScope s__is_deed) := ⟨rfl, rfl, rfl, by decide +kernel, rfl, by decide +kernel, by decide +kernel⟩
abbrev s__is_letter : Stmt := topS 24
abbrev N__is_letter : List Str := ["thing"]
abbrev P__is_letter : List Str := ["thing"]
theorem sc__is_letter : FnScope N__is_letter P__is_letter (defScope s__is_letter) := ⟨rfl, rfl, rfl, by decide +kernel, rfl, by decide +kernel, by decide +kernel⟩
abbrev s_is_hand : Stmt := topS 15
abbrev N_is_hand : List Str := ["past", "thing"]
abbrev P_is_hand : List Str := ["past", "thing"]
theorem sc_is_hand : FnScope N_is_hand P_is_hand (defScope s_is_hand) := ⟨rfl, rfl, rfl, by decide +kernel, rfl, by decide +kernel, by decide +kernel⟩
abbrev s__is_other : Stmt := topS 25
abbrev N__is_other : List Str := ["past", "hand", "thing"]
abbrev P__is_other : List Str := ["past", "hand", "thing"]
theorem sc__is_other : FnScope N__is_other P__is_other (defScope s__is_other) := ⟨rfl, rfl, rfl, by decide +kernel, rfl, by decide +kernel, by decide +kernel⟩
abbrev s__told_once : Stmt := topS 26
abbrev N__told_once : List Str := ["past", "told", "hand", "deed"]
abbrev P__told_once : List Str := ["past"]
theorem sc__told_once : FnScope N__told_once P__told_once (defScope s__told_once) := ⟨rfl, rfl, rfl, by decide +kernel, rfl, by decide +kernel, by decide +kernel⟩
abbrev s_hearers_of : Stmt := topS 17
abbrev N_hearers_of : List Str := ["past", "hand", "deed"]
abbrev P_hearers_of : List Str := ["past"]
theorem sc_hearers_of : FnScope N_hearers_of P_hearers_of (defScope s_hearers_of) := ⟨rfl, rfl, rfl, by decide +kernel, rfl, by decide +kernel, by decide +kernel⟩
abbrev s__heard_once : Stmt := topS 27
abbrev N__heard_once : List Str := ["past", "hearers", "hand", "deed"]
abbrev P__heard_once : List Str := ["past"]
theorem sc__heard_once : FnScope N__heard_once P__heard_once (defScope s__heard_once) := ⟨rfl, rfl, rfl, by decide +kernel, rfl, by decide +kernel, by decide +kernel⟩
abbrev s__can_have_come : Stmt := topS 28
abbrev N__can_have_come : List Str := ["past", "hand"]
abbrev P__can_have_come : List Str := ["past"]
theorem sc__can_have_come : FnScope N__can_have_come P__can_have_come (defScope s__can_have_come) := ⟨rfl, rfl, rfl, by decide +kernel, rfl, by decide +kernel, by decide +kernel⟩
abbrev s__order_found : Stmt := topS 29
abbrev N__order_found : List Str := ["past", "hands", "done", "told", "order", "came", "hand", "end"]
abbrev P__order_found : List Str := ["past"]
theorem sc__order_found : FnScope N__order_found P__order_found (defScope s__order_found) := ⟨rfl, rfl, rfl, by decide +kernel, rfl, by decide +kernel, by decide +kernel⟩
abbrev s__run_on : Stmt := topS 30
abbrev N__run_on : List Str := ["row", "start", "told", "at", "deed"]
abbrev P__run_on : List Str := ["row", "start", "told"]
theorem sc__run_on : FnScope N__run_on P__run_on (defScope s__run_on) := ⟨rfl, rfl, rfl, by decide +kernel, rfl, by decide +kernel, by decide +kernel⟩
/-- what the module's names hold -/
structure Txt (mg : Str → Option Value) : Prop where
  isinstance : mg "isinstance" = none
  len : mg "len" = none
  all : mg "all" = none
  sum : mg "sum" = none
  set : mg "set" = none
  sorted : mg "sorted" = none
  range : mg "range" = none
  int : mg "int" = none
  bool : mg "bool" = none
  str : mg "str" = none
  list : mg "list" = none
  tuple : mg "tuple" = none
  dict : mg "dict" = none
  g_LONGEST_NAME : ∃ t, mg "LONGEST_NAME" = some (.int 8 t)
  g_MOST_HANDS : ∃ t, mg "MOST_HANDS" = some (.int 40 t)
section
variable {P : Program} {w : World} {K : PySem.W.Frag} {mg : Str → Option Value} {base : Heap}
/-! ### is_whole -/
def wholeD (d : PyData) : Bool := isInt d && !isBool d
def sp_is_whole (K : PySem.W.Frag) : Sp := fun vs H Q _ => ∃ v d, vs = [v] ∧ Da K H v d ∧ Q (.bl (wholeD d)) H
theorem ok_is_whole (D : Dfn K mg "is_whole" s_is_whole P_is_whole) (T : Txt mg) : Cal P w K mg base CX0 1 "is_whole" s_is_whole P_is_whole (sp_is_whole K) := D.cal fun f fd F => by
  refine F.ok sc_is_whole (fun vs H Q E h => ?_) (fun cdv A outer s H vs Q E hr h => ?_)
  · obtain ⟨v, d, rfl, _⟩ := h
    rfl
  · obtain ⟨v, d, rfl, hd, q⟩ := h
    refine ⟨_, (pss_one (ps_ret (pe_and (pe_callB (call_isiKK (K := K) rfl) (by rfl) T.isinstance (by decide +kernel) (pa_cons (pv 0) (pa_cons (pe_bltn (v := .ty "int") (by rfl) T.int (by decide +kernel) rfl) pa_nil))) (pe_one (pe_not (pe_callB (call_isiKK (K := K) rfl) (by rfl) T.isinstance (by decide +kernel) (pa_cons (pv 0) (pa_cons (pe_bltn (v := .ty "bool") (by rfl) T.bool (by decide +kernel) rfl) pa_nil)))))))), ?_⟩
    refine ⟨v, rfl, v, .ty "int", _, _, _, rfl, .ty _, hd.ty, kit_ty (kit_int d), _, rfl, ?_⟩
    unfold wholeD at q
    cases e : isInt d with
    | false =>
      rw [e] at q
      exact q
    | true =>
      rw [e] at q
      exact ⟨v, rfl, v, .ty "bool", _, _, _, rfl, .ty _, hd.ty, kit_ty (kit_bool d), _, rfl, q⟩

/-! ### is_name -/
def nameOk (x : Str) : Bool := decide (1 ≤ x.length) && decide (x.length ≤ 8) && x.cps.toList.all fun c => decide (97 ≤ c) && decide (c ≤ 122)
def nameD : PyData → Bool | .str x => nameOk x | _ => false
theorem paired_map {α β : Type} {f : α → β} : ∀ {xs : List α} {ys : List β}, Paired (fun t y => y = f t) xs ys → ys = xs.map f
  | _, _, .nil => rfl
  | _, _, .cons a b => by rw [a, paired_map b]; rfl
theorem sign_lt (c d : Nat) : decide (([c] : List Nat) < [d]) = decide (c < d) := by
  by_cases h : c < d
  · rw [decide_eq_true h, decide_eq_true]
    exact List.Lex.rel h
  · rw [decide_eq_false h, decide_eq_false]
    intro z
    cases z with
    | rel q => exact h q
    | cons q => cases q
def sp_is_name (K : PySem.W.Frag) : Sp := fun vs H Q _ => ∃ v d, vs = [v] ∧ Da K H v d ∧ (∀ x, d = .str x → x.length ≤ 50000) ∧ ∀ H', Same H H' → Q (.bl (nameD d)) H'
theorem ok_is_name (D : Dfn K mg "is_name" s_is_name P_is_name) (T : Txt mg) : Cal P w K mg base CX0 1 "is_name" s_is_name P_is_name (sp_is_name K) := D.cal fun f fd F => by
  refine F.ok sc_is_name (fun vs H Q E h => ?_) (fun cdv A outer s H vs Q E hr h => ?_)
  · obtain ⟨v, d, rfl, _⟩ := h
    rfl
  · obtain ⟨v, d, rfl, hd, hz, q⟩ := h
    obtain ⟨t8, g_LONGEST_NAME⟩ := T.g_LONGEST_NAME
    refine ⟨_, (pss_cons (ps_if (PW.pt (pw_or (pt_not (pt_val (pe_callB (call_isiKK (K := K) rfl) (by rfl) T.isinstance (by decide +kernel) (pa_cons (pv 0) (pa_cons (pe_bltn (v := .ty "str") (by rfl) T.str (by decide +kernel) rfl) pa_nil))))) (pw_or1 (pt_not (pt_chain op_le op_le pe_int (pe_callB call_len_str (by rfl) T.len PySem.boot_len (pa_cons (pv 0) pa_nil)) (pe_glob (v := .int 8) rfl g_LONGEST_NAME ⟨_, rfl⟩)))))) (pss_one (ps_ret pe_bl)) pss_nil)
      (pss_one (ps_ret (pe_callB (cr_all rfl) (by rfl) T.all (by decide +kernel) (pa_cons (pe_lc (own := [("sign", 1)]) (g := (gName 1)) rfl sc_is_name.nd (pi_str (pv 0)) (blkOk_by (own := [("sign", 1)]) (N := N_is_name) (sc := defScope s_is_name) (by decide +kernel)) (fun _ _ _ _ _ => pg_name (i := 1) sc_is_name.nd rfl (.inl rfl)) (fun _ _ _ _ _ => pts_nil) (fun _ _ _ _ _ => (pe_chain op_le_str op_le_str pe_str (pv 1) pe_str))) pa_nil))))), ?_⟩
    refine ⟨v, rfl, v, .ty "str", _, _, _, rfl, .ty _, hd.ty, kit_ty (kit_str d), _, rfl, ?_⟩
    cases e : isStr d with
    | false =>
      have n0 : nameD d = false := by cases d <;> first | rfl | cases e
      rw [n0] at q
      exact iteT (iteT (q H (.refl H)))
    | true =>
      obtain ⟨x, rfl⟩ : ∃ x, d = .str x := by cases d <;> first | exact ⟨_, rfl⟩ | cases e
      cases hd
      refine iteF ⟨.str x, rfl, x, rfl, Nat.le_trans (hz x rfl) (by decide), 1, x.length, rfl, rfl, _, rfl, ?_⟩
      by_cases h1 : (1 : Int) ≤ (x.length : Int)
      · rw [decide_eq_true h1]
        refine iteT ⟨x.length, 8, rfl, rfl, _, rfl, ?_⟩
        by_cases h8 : (x.length : Int) ≤ 8
        · rw [decide_eq_true h8]
          refine iteF ⟨.str x, rfl, x, rfl, fun D nD => ?_⟩
          refine lc_fm walk_str x.cps.toList (fun c => some (decide (97 ≤ c) && decide (c ≤ 122))) (fun b y _ => y = .bl b) nD (by simp) ?_ (fun _ _ => trivial) (fun _ _ _ _ _ r => r) ?_ ?_
          · show x.length ≤ 50000
            omega
          · rintro i c y H1 H2 hc sm ⟨zs, eD⟩ ⟨rfl, c', hc', rfl⟩ KK NN k n
            have ec : c' = c := by
              rw [← Array.getElem?_toList, hc] at hc'
              exact (Option.some.inj hc').symm
            subst ec
            refine ⟨rfl, yes_go ⟨_, rfl, _, _, rfl, rfl, _, rfl, ?_⟩⟩
            have ea : (("a" : Str).cps.toList : List Nat) = [97] := by decide +kernel
            have ez : (("z" : Str).cps.toList : List Nat) = [122] := by decide +kernel
            have l1 : (!decide ((([c'] : List Nat)) < [97])) = decide (97 ≤ c') := by
              rw [sign_lt]
              by_cases h : c' < 97 <;> simp [h] <;> omega
            have l2 : (!decide ((([122] : List Nat)) < [c'])) = decide (c' ≤ 122) := by
              rw [sign_lt]
              by_cases h : 122 < c' <;> simp [h] <;> omega
            rw [ea]
            show if (!decide ((([c'] : List Nat)) < [97])) = true then _ else _
            rw [l1]
            cases e1 : decide (97 ≤ c') with
            | false => exact iteF (k _ _ _ rfl (.refl _) (by rw [e1]; rfl))
            | true =>
              refine iteT ⟨_, _, rfl, rfl, k _ _ _ rfl (.refl _) ?_⟩
              rw [ez, e1, ← l2]
              rfl
          · intro H1 ys sm eD pr
            have e1 := paired_map pr
            rw [List.filterMap_eq_map'] at e1
            refine ⟨D, _, rfl, .inl (.inl (by rw [eD, e1])), ?_⟩
            have q' := q H1 sm
            have ev : nameD (.str x) = (x.cps.toList.map fun c => decide (97 ≤ c) && decide (c ≤ 122)).all id := by
              show (decide (1 ≤ x.length) && decide (x.length ≤ 8) && x.cps.toList.all fun c => decide (97 ≤ c) && decide (c ≤ 122)) = _
              rw [List.all_map, decide_eq_true (by omega), decide_eq_true (by omega)]
              rfl
            rw [ev] at q'
            exact q'
        · have ev : nameD (.str x) = false := by
            show (decide (1 ≤ x.length) && decide (x.length ≤ 8) && _) = _
            rw [decide_eq_false (show ¬ x.length ≤ 8 by omega), Bool.and_false, Bool.false_and]
          rw [decide_eq_false h8]
          rw [ev] at q
          exact iteT (q H (.refl H))
      · have ev : nameD (.str x) = false := by
          show (decide (1 ≤ x.length) && decide (x.length ≤ 8) && _) = _
          rw [decide_eq_false (show ¬ 1 ≤ x.length by omega), Bool.false_and, Bool.false_and]
        rw [decide_eq_false h1]
        rw [ev] at q
        exact iteF ⟨_, rfl, iteT (q H (.refl H))⟩

/-! ### _is_letter, _is_other -/
def letterD : PyData → Bool | .int i => decide (0 ≤ i) | _ => false
def sp_is_letter (K : PySem.W.Frag) : Sp := fun vs H Q _ => ∃ v d, vs = [v] ∧ Da K H v d ∧ Q (.bl (letterD d)) H
theorem ok_is_letter (D : Dfn K mg "_is_letter" s__is_letter P__is_letter) (C_is_whole : Cal P w K mg base CX0 1 "is_whole" s_is_whole P_is_whole (sp_is_whole K)) : Cal P w K mg base CX0 2 "_is_letter" s__is_letter P__is_letter (sp_is_letter K) := D.cal fun f fd F => by
  refine F.ok sc__is_letter (fun vs H Q E h => ?_) (fun cdv A outer s H vs Q E hr h => ?_)
  · obtain ⟨v, d, rfl, _⟩ := h
    rfl
  · obtain ⟨v, d, rfl, hd, q⟩ := h
    refine ⟨_, (pss_one (ps_ret (pe_and (pe_callC C_is_whole (hr.mono (by decide)) rfl pass0 (pa_cons (pv 0) pa_nil)) (pe_one (pe_cmpR op_ge (pv 0) pe_int (nomark _)))))), ?_⟩
    refine ⟨v, rfl, v, d, rfl, hd, _, rfl, ?_⟩
    cases e : wholeD d with
    | false =>
      have n0 : letterD d = false := by cases d <;> first | rfl | cases e
      rw [n0] at q
      exact iteF q
    | true =>
      obtain ⟨i, rfl⟩ : ∃ i, d = .int i := by cases d <;> first | exact ⟨_, rfl⟩ | cases e
      cases hd
      exact iteT ⟨_, rfl, i, 0, rfl, rfl, q⟩
def otherD (ks : List (Key × V)) (hand : Str) : PyData → Bool | .str x => nameOk x && (valV ks (.inr x)).isSome && !decide (x = hand) | _ => false
/-- texts of a size -/
def Sized (n : Nat) (d : PyData) : Prop := ∀ x, d = .str x → x.length ≤ n
def sp_is_other (K : PySem.W.Frag) : Sp := fun vs H Q _ => ∃ a ks hand v d, vs = [.ref a, .str hand, v] ∧ Rd H a (.dK ks) ∧ Da K H v d ∧ Sized 50000 d ∧ ∀ H', Same H H' → Q (.bl (otherD ks hand d)) H'
def handD (ks : List (Key × V)) : PyData → Bool | .str x => nameOk x && (valV ks (.inr x)).isSome | _ => false
def sp_is_hand (K : PySem.W.Frag) : Sp := fun vs H Q _ => ∃ a ks v d, vs = [.ref a, v] ∧ Rd H a (.dK ks) ∧ Da K H v d ∧ Sized 50000 d ∧ ∀ H', Same H H' → Q (.bl (handD ks d)) H'
theorem ok_is_hand (D : Dfn K mg "is_hand" s_is_hand P_is_hand) (C_is_name : Cal P w K mg base CX0 1 "is_name" s_is_name P_is_name (sp_is_name K)) : Cal P w K mg base CX0 2 "is_hand" s_is_hand P_is_hand (sp_is_hand K) := D.cal fun f fd F => by
  refine F.ok sc_is_hand (fun vs H Q E h => ?_) (fun cdv A outer s H vs Q E hr h => ?_)
  · obtain ⟨a, ks, v, d, rfl, _⟩ := h
    rfl
  · obtain ⟨a, ks, v, d, rfl, rd, hd, hz, q⟩ := h
    have hu := hu_of hr
    refine ⟨_, (pss_one (ps_ret (pe_and (pe_callC C_is_name (hr.mono (by decide)) rfl pass0 (pa_cons (pv 1) pa_nil)) (pe_one (pe_cmp (pc_din hu (pv 1) (pv 0)) rfl))))), ?_⟩
    refine ⟨v, rfl, v, d, rfl, hd, hz, fun H1 sm => ⟨_, rfl, ?_⟩⟩
    cases e : nameD d with
    | false =>
      have n0 : handD ks d = false := by
        cases d <;> first | rfl | (show (nameOk _ && _) = false; rw [show nameOk _ = false from e, Bool.false_and])
      rw [n0] at q
      exact iteF (q H1 sm)
    | true =>
      obtain ⟨x, rfl⟩ : ∃ x, d = .str x := by cases d <;> first | exact ⟨_, rfl⟩ | cases e
      cases hd
      have e : nameOk x = true := e
      have ev : handD ks (.str x) = (valV ks (.inr x)).isSome := by
        show (nameOk x && _) = _
        rw [e, Bool.true_and]
      rw [ev] at q
      exact iteT ⟨.str x, rfl, .ref a, rfl, a, _, rfl, .inl ⟨ks, .inr x, rd_same sm rd, rfl, rfl⟩, q H1 sm⟩
theorem ok_is_other (D : Dfn K mg "_is_other" s__is_other P__is_other) (C_is_hand : Cal P w K mg base CX0 2 "is_hand" s_is_hand P_is_hand (sp_is_hand K)) : Cal P w K mg base CX0 3 "_is_other" s__is_other P__is_other (sp_is_other K) := D.cal fun f fd F => by
  refine F.ok sc__is_other (fun vs H Q E h => ?_) (fun cdv A outer s H vs Q E hr h => ?_)
  · obtain ⟨a, ks, hand, v, d, rfl, _⟩ := h
    rfl
  · obtain ⟨a, ks, hand, v, d, rfl, rd, hd, hz, q⟩ := h
    have hu := hu_of hr
    refine ⟨_, (pss_one (ps_ret (pe_and (pe_callC C_is_hand (hr.mono (by decide)) rfl pass0 (pa_cons (pv 0) (pa_cons (pv 2) pa_nil))) (pe_one (pe_cmpR op_ne (pv 2) (pv 1) (nomark _)))))), ?_⟩
    refine ⟨.ref a, rfl, v, rfl, a, ks, v, d, rfl, rd, hd, hz, fun H1 sm => ⟨_, rfl, ?_⟩⟩
    cases e : handD ks d with
    | false =>
      have n0 : otherD ks hand d = false := by
        cases d <;> first | rfl | (show (nameOk _ && _ && _) = false; rw [show (nameOk _ && _) = false from e, Bool.false_and])
      rw [n0] at q
      exact iteF (q H1 sm)
    | true =>
      obtain ⟨x, rfl⟩ : ∃ x, d = .str x := by cases d <;> first | exact ⟨_, rfl⟩ | cases e
      cases hd
      have ev : otherD ks hand (.str x) = !decide (x = hand) := by
        show (nameOk x && _ && _) = _
        rw [show (nameOk x && (valV ks (.inr x)).isSome) = true from e, Bool.true_and]
      rw [ev] at q
      refine iteT ⟨.str x, rfl, .str hand, rfl, rfl, ?_⟩
      have e3 : decide (V.str x = V.str hand) = decide (x = hand) := by
        by_cases z : x = hand
        · rw [z, decide_eq_true rfl, decide_eq_true rfl]
        · rw [decide_eq_false z, decide_eq_false fun y => z (V.str.inj y)]
      rw [e3]
      exact q H1 sm

/-! ### _is_deed, _is_row -/
def hearOk : List PyData → Bool | [l] => letterD l | _ => false
def tellOk (ks : List (Key × V)) (hand : Str) : List PyData → Bool | [l, h] => letterD l && otherD ks hand h | _ => false
def deedOk (ks : List (Key × V)) (hand : Str) : PyData → Bool
  | .tuple (.str w :: r) => if w = "keep" then decide (r.length = 0) else if w = "hear" then hearOk r else if w = "tell" then tellOk ks hand r else false
  | _ => false
theorem len1 {α : Type} : ∀ {l : List α}, l.length = 1 → ∃ a, l = [a]
  | [a], _ => ⟨a, rfl⟩
theorem len2 {α : Type} : ∀ {l : List α}, l.length = 2 → ∃ a b, l = [a, b]
  | [a, b], _ => ⟨a, b, rfl⟩
theorem dal1 {K : PySem.W.Frag} {H : Hp} {xs : List V} {d : PyData} (h : DaL K H xs [d]) : ∃ x, xs = [x] ∧ Da K H x d := by
  cases h with
  | cons a b => cases b; exact ⟨_, rfl, a⟩
theorem dal2 {K : PySem.W.Frag} {H : Hp} {xs : List V} {d e : PyData} (h : DaL K H xs [d, e]) : ∃ x y, xs = [x, y] ∧ Da K H x d ∧ Da K H y e := by
  cases h with
  | cons a b =>
    obtain ⟨y, rfl, h⟩ := dal1 b
    exact ⟨_, y, rfl, a, h⟩
theorem hear_no : ∀ {dr : List PyData}, dr.length ≠ 1 → hearOk dr = false
  | [], _ => rfl
  | [_], z => absurd rfl z
  | _ :: _ :: _, _ => rfl
theorem tell_no {ks : List (Key × V)} {hand : Str} : ∀ {dr : List PyData}, dr.length ≠ 2 → tellOk ks hand dr = false
  | [], _ => rfl
  | [_], _ => rfl
  | [_, _], z => absurd rfl z
  | _ :: _ :: _ :: _, _ => rfl
def Sized2 (n : Nat) (d : PyData) : Prop := ∀ ds, d = .tuple ds → ∀ e ∈ ds, Sized n e
def sp_is_deed (K : PySem.W.Frag) : Sp := fun vs H Q _ => ∃ a ks hand v d, vs = [.ref a, .str hand, v] ∧ Rd H a (.dK ks) ∧ Da K H v d ∧ Sized2 50000 d ∧ ∀ H', Same H H' → Q (.bl (deedOk ks hand d)) H'
theorem eq_text {x y : Str} : decide (V.str x = V.str y) = decide (x = y) := by
  by_cases z : x = y
  · rw [z, decide_eq_true rfl, decide_eq_true rfl]
  · rw [decide_eq_false z, decide_eq_false fun q => z (V.str.inj q)]
theorem eq_num {x y : Int} : decide (V.int x = V.int y) = decide (x = y) := by
  by_cases z : x = y
  · rw [z, decide_eq_true rfl, decide_eq_true rfl]
  · rw [decide_eq_false z, decide_eq_false fun q => z (V.int.inj q)]
theorem ok_is_deed (D : Dfn K mg "_is_deed" s__is_deed P__is_deed) (T : Txt mg) (C__is_letter : Cal P w K mg base CX0 2 "_is_letter" s__is_letter P__is_letter (sp_is_letter K))
    (C__is_other : Cal P w K mg base CX0 3 "_is_other" s__is_other P__is_other (sp_is_other K)) : Cal P w K mg base CX0 4 "_is_deed" s__is_deed P__is_deed (sp_is_deed K) := D.cal fun f fd F => by
  refine F.ok sc__is_deed (fun vs H Q E h => ?_) (fun cdv A outer s H vs Q E hr h => ?_)
  · obtain ⟨a, ks, hand, v, d, rfl, _⟩ := h
    rfl
  · obtain ⟨a, ks, hand, v, d, rfl, rd, hd, hz, q⟩ := h
    have hu := hu_of hr
    refine ⟨_, (pss_cons (ps_if (PW.pt (pw_or (pt_not (pt_val (pe_callB (call_isiKK (K := K) rfl) (by rfl) T.isinstance (by decide +kernel) (pa_cons (pv 2) (pa_cons (pe_bltn (v := .ty "tuple") (by rfl) T.tuple (by decide +kernel) rfl) pa_nil))))) (pw_or (pt_not (pt_truth (pv 2) (by intro _; rfl))) (pw_or1 (pt_not (pt_val (pe_callB (call_isiKK (K := K) rfl) (by rfl) T.isinstance (by decide +kernel) (pa_cons (pe_ix (ix_tupK (K := K) rfl) (pv 2) pe_int (fun _ _ => rfl)) (pa_cons (pe_bltn (v := .ty "str") (by rfl) T.str (by decide +kernel) rfl) pa_nil))))))))) (pss_one (ps_ret pe_bl)) pss_nil)
      (pss_cons (ps_if (pt_cmpR op_eq (pe_ix (ix_tupK (K := K) rfl) (pv 2) pe_int (fun _ _ => rfl)) pe_str (nomark _)) (pss_one (ps_ret (pe_cmpR op_eq (pe_callB (call_len_seqK (K := K) rfl) (by rfl) T.len PySem.boot_len (pa_cons (pv 2) pa_nil)) pe_int (nomark _)))) pss_nil)
      (pss_cons (ps_if (pt_cmpR op_eq (pe_ix (ix_tupK (K := K) rfl) (pv 2) pe_int (fun _ _ => rfl)) pe_str (nomark _)) (pss_one (ps_ret (pe_and (pe_cmpR op_eq (pe_callB (call_len_seqK (K := K) rfl) (by rfl) T.len PySem.boot_len (pa_cons (pv 2) pa_nil)) pe_int (nomark _)) (pe_one (pe_callC C__is_letter (hr.mono (by decide)) rfl pass0 (pa_cons (pe_ix (ix_tupK (K := K) rfl) (pv 2) pe_int (fun _ _ => rfl)) pa_nil)))))) pss_nil)
      (pss_cons (ps_if (pt_cmpR op_eq (pe_ix (ix_tupK (K := K) rfl) (pv 2) pe_int (fun _ _ => rfl)) pe_str (nomark _)) (pss_one (ps_ret (pe_and (pe_cmpR op_eq (pe_callB (call_len_seqK (K := K) rfl) (by rfl) T.len PySem.boot_len (pa_cons (pv 2) pa_nil)) pe_int (nomark _)) (pe_and (pe_callC C__is_letter (hr.mono (by decide)) rfl pass0 (pa_cons (pe_ix (ix_tupK (K := K) rfl) (pv 2) pe_int (fun _ _ => rfl)) pa_nil)) (pe_one (pe_callC C__is_other (hr.mono (by decide)) rfl pass0 (pa_cons (pv 0) (pa_cons (pv 1) (pa_cons (pe_ix (ix_tupK (K := K) rfl) (pv 2) pe_int (fun _ _ => rfl)) pa_nil))))))))) pss_nil)
      (pss_one (ps_ret pe_bl)))))), ?_⟩
    refine ⟨v, rfl, v, .ty "tuple", _, _, _, rfl, .ty _, hd.ty, kit_ty (kit_tuple d), _, rfl, ?_⟩
    cases e : isTuple d with
    | false =>
      have n0 : deedOk ks hand d = false := by cases d <;> first | rfl | cases e
      rw [n0] at q
      exact iteT (iteT (q H (.refl H)))
    | true =>
      obtain ⟨ds, rfl⟩ : ∃ ds, d = .tuple ds := by cases d <;> first | exact ⟨_, rfl⟩ | cases e
      cases hd with
      | tup st dl =>
      rename_i t xs
      refine iteF ⟨.ref t, rfl, !xs.isEmpty, .inr (.inl ⟨xs, st, rfl⟩), ?_⟩
      cases dl with
      | nil => exact iteT (iteT (q H (.refl H)))
      | cons h0 hr0 =>
      rename_i x0 xr d0 dr
      refine iteF ⟨.ref t, rfl, t, _, 0, x0, rfl, rfl, st, atI_nat (j := 0) rfl, x0, .ty "str", _, _, _, rfl, .ty _, h0.ty, kit_ty (kit_str d0), _, rfl, ?_⟩
      cases e0 : isStr d0 with
      | false =>
        have n0 : deedOk ks hand (.tuple (d0 :: dr)) = false := by cases d0 <;> first | rfl | cases e0
        rw [n0] at q
        exact iteT (q H (.refl H))
      | true =>
      obtain ⟨x, rfl⟩ : ∃ x, d0 = .str x := by cases d0 <;> first | exact ⟨_, rfl⟩ | cases e0
      cases h0
      have hd0 : deedOk ks hand (.tuple (.str x :: dr)) = (if x = "keep" then decide (dr.length = 0) else if x = "hear" then hearOk dr else if x = "tell" then tellOk ks hand dr else false) := rfl
      rw [hd0] at q
      refine iteF ⟨.ref t, rfl, t, _, 0, _, rfl, rfl, st, atI_nat (j := 0) rfl, rfl, _, rfl, ?_⟩
      rw [eq_text]
      by_cases c1 : x = "keep"
      · rw [if_pos c1] at q
        rw [decide_eq_true c1]
        refine iteT ⟨.ref t, rfl, t, _, rfl, .inr st, rfl, ?_⟩
        rw [eq_num]
        have q' := q H (.refl H)
        have l2 := hr0.len
        have ev : decide ((((V.str x :: xr).length : Nat) : Int) = 1) = decide (dr.length = 0) := by
          rw [List.length_cons, l2]
          by_cases z : dr.length = 0
          · rw [decide_eq_true z, decide_eq_true (by omega)]
          · rw [decide_eq_false z, decide_eq_false (by omega)]
        rw [ev]
        exact q'
      rw [if_neg c1] at q
      rw [decide_eq_false c1]
      refine iteF ⟨.ref t, rfl, t, _, 0, _, rfl, rfl, st, atI_nat (j := 0) rfl, rfl, _, rfl, ?_⟩
      rw [eq_text]
      by_cases c2 : x = "hear"
      · rw [if_pos c2] at q
        rw [decide_eq_true c2]
        refine iteT ⟨.ref t, rfl, t, _, rfl, .inr st, rfl, _, rfl, ?_⟩
        rw [eq_num]
        have l2 := hr0.len
        by_cases len : dr.length = 1
        · rw [decide_eq_true (show ((((V.str x :: xr).length : Nat) : Int) = 2) by rw [List.length_cons]; omega)]
          obtain ⟨d1, rfl⟩ := len1 len
          obtain ⟨x1, rfl, h1⟩ := dal1 hr0
          exact iteT ⟨.ref t, rfl, t, _, 1, x1, rfl, rfl, st, atI_nat (j := 1) rfl, x1, d1, rfl, h1, q H (.refl H)⟩
        · have n0 : hearOk dr = false := hear_no len
          rw [n0] at q
          rw [decide_eq_false (show ¬ ((((V.str x :: xr).length : Nat) : Int) = 2) by rw [List.length_cons]; omega)]
          exact iteF (q H (.refl H))
      rw [if_neg c2] at q
      rw [decide_eq_false c2]
      refine iteF ⟨.ref t, rfl, t, _, 0, _, rfl, rfl, st, atI_nat (j := 0) rfl, rfl, _, rfl, ?_⟩
      rw [eq_text]
      by_cases c3 : x = "tell"
      · rw [if_pos c3] at q
        rw [decide_eq_true c3]
        refine iteT ⟨.ref t, rfl, t, _, rfl, .inr st, rfl, _, rfl, ?_⟩
        rw [eq_num]
        have l2 := hr0.len
        by_cases len : dr.length = 2
        · rw [decide_eq_true (show ((((V.str x :: xr).length : Nat) : Int) = 3) by rw [List.length_cons]; omega)]
          obtain ⟨d1, d2, rfl⟩ := len2 len
          obtain ⟨x1, x2, rfl, h1, h2⟩ := dal2 hr0
          refine iteT ⟨.ref t, rfl, t, _, 1, x1, rfl, rfl, st, atI_nat (j := 1) rfl, x1, d1, rfl, h1, _, rfl, ?_⟩
          have ev : tellOk ks hand [d1, d2] = (letterD d1 && otherD ks hand d2) := rfl
          rw [ev] at q
          cases e1 : letterD d1 with
          | false =>
            rw [e1] at q
            exact iteF (q H (.refl H))
          | true =>
            rw [e1] at q
            refine iteT ⟨.ref a, rfl, .str hand, rfl, .ref t, rfl, t, _, 2, x2, rfl, rfl, st, atI_nat (j := 2) rfl, a, ks, hand, x2, d2, rfl, rd, h2, hz _ rfl d2 (by simp), q⟩
        · have n0 : tellOk ks hand dr = false := tell_no len
          rw [n0] at q
          rw [decide_eq_false (show ¬ ((((V.str x :: xr).length : Nat) : Int) = 3) by rw [List.length_cons]; omega)]
          exact iteF (q H (.refl H))
      rw [if_neg c3] at q
      rw [decide_eq_false c3]
      exact iteF (q H (.refl H))
end
end L2.Fb.Law

namespace L2.Fb.Law
open PySem PySem.Spec
open PyProof.Rows
section
variable {P : Program} {w : World} {K : PySem.W.Frag} {mg : Str → Option Value} {base : Heap}
/-! ### _is_row -/
def rowOk (ks : List (Key × V)) (hand : Str) : PyData → Bool | .list ds => ds.all (deedOk ks hand) | _ => false
/-- texts of a size, within a row's deeds -/
def Sized3 (d : PyData) : Prop := ∀ ds, d = .list ds → ds.length ≤ 4000 ∧ ∀ e ∈ ds, Sized2 50000 e
def sp_is_row (K : PySem.W.Frag) : Sp := fun vs H Q _ => ∃ a ks hand v d, vs = [.ref a, .str hand] ∧ Rd H a (.dK ks) ∧ valV ks (.inr hand) = some v ∧ Da K H v d ∧ Sized3 d ∧ ∀ H', Same H H' → Q (.bl (rowOk ks hand d)) H'
theorem ok_is_row (D : Dfn K mg "_is_row" s__is_row P__is_row) (T : Txt mg) (C__is_deed : Cal P w K mg base CX0 4 "_is_deed" s__is_deed P__is_deed (sp_is_deed K)) : Cal P w K mg base CX0 5 "_is_row" s__is_row P__is_row (sp_is_row K) := D.cal fun f fd F => by
  refine F.ok sc__is_row (fun vs H Q E h => ?_) (fun cdv A outer s H vs Q E hr h => ?_)
  · obtain ⟨a, ks, hand, v, d, rfl, _⟩ := h
    rfl
  · obtain ⟨a, ks, hand, v, d, rfl, rd, hv, hd, hz, q⟩ := h
    have hu := hu_of hr
    refine ⟨_, (pss_cons (ps_set (i := 2) sc__is_row.nd rfl (.inl rfl) (pe_dget hu (pv 0) (pv 1) (fun _ _ => rfl)))
      (pss_one (ps_ret (pe_and (pe_callB (call_isiKK (K := K) rfl) (by rfl) T.isinstance (by decide +kernel) (pa_cons (pv 2) (pa_cons (pe_bltn (v := .ty "list") (by rfl) T.list (by decide +kernel) rfl) pa_nil))) (pe_one (pe_callB (cr_all rfl) (by rfl) T.all (by decide +kernel) (pa_cons (pe_lc (own := [("deed", 3)]) (g := (gName 3)) rfl sc__is_row.nd (pi_listK (K := K) rfl (pv 2)) (blkOk_by (own := [("deed", 3)]) (N := N__is_row) (sc := defScope s__is_row) (by decide +kernel)) (fun _ _ _ _ _ => pg_name (i := 3) sc__is_row.nd rfl (.inl rfl)) (fun _ _ _ _ _ => pts_nil) (fun _ _ _ _ _ => (pe_callC C__is_deed (hr.mono (by decide)) rfl pass0 (pa_cons (pv 0) (pa_cons (pv 1) (pa_cons (pv 3) pa_nil)))))) pa_nil))))))), ?_⟩
    refine ⟨.ref a, rfl, .str hand, rfl, a, v, rfl, .inl ⟨ks, .inr hand, rd, rfl, hv.symm⟩, ?_⟩
    refine ⟨v, rfl, v, .ty "list", _, _, _, rfl, .ty _, hd.ty, kit_ty (kit_list d), _, rfl, ?_⟩
    cases e : isList d with
    | false =>
      have n0 : rowOk ks hand d = false := by cases d <;> first | rfl | cases e
      rw [n0] at q
      exact iteF (q H (.refl H))
    | true =>
      obtain ⟨ds, rfl⟩ : ∃ ds, d = .list ds := by cases d <;> first | exact ⟨_, rfl⟩ | cases e
      obtain ⟨z1, z2⟩ := hz ds rfl
      cases hd with
      | lst sl dl =>
      rename_i b xs
      refine iteT ⟨.ref b, rfl, b, rfl, ⟨xs, sl⟩, fun L nL => ?_⟩
      refine lc_fm walk_list ds (fun d => some (deedOk ks hand d)) (fun t y _ => y = .bl t) nL dl.len (by rw [dl.len]; omega) (fun H' sm => sm.seq sl) (fun _ _ _ _ _ r => r) ?_ ?_
      · rintro i d x H1 H2 hi sm - ⟨rfl, hx⟩ KK NN k -
        obtain ⟨d', hd', da⟩ := dl.at i x hx
        rw [hi] at hd'
        cases Option.some.inj hd'
        refine ⟨rfl, yes_go ⟨.ref a, rfl, .str hand, rfl, x, rfl, a, ks, hand, x, d, rfl, rd_same sm rd, Da.same sm d da, z2 d (List.mem_of_getElem? hi), fun H' s' => k _ _ _ rfl s' rfl⟩⟩
      · intro H1 ys sm eL pr
        have e1 := paired_map pr
        rw [List.filterMap_eq_map'] at e1
        refine ⟨L, _, rfl, .inl (.inl (by rw [eL, e1])), ?_⟩
        have q' := q H1 sm
        have ev : rowOk ks hand (.list ds) = (ds.map (deedOk ks hand)).all id := by
          show ds.all _ = _
          rw [List.all_map]
          rfl
        rw [ev] at q'
        exact q'

/-! ### _told_once -/
def sp_told_once (K : PySem.W.Frag) : Sp := fun vs H Q _ => ∃ v p, vs = [v] ∧ Da K H v (pastD p) ∧ (p.map (·.1)).Nodup ∧ (toldP p).length ≤ 4000 ∧ p.length ≤ 4000 ∧ ∀ H', Same H H' → Q (.bl (decide (toldP p).Nodup)) H'
theorem ok_told_once (D : Dfn K mg "_told_once" s__told_once P__told_once) (T : Txt mg) : Cal P w K mg base CX0 1 "_told_once" s__told_once P__told_once (sp_told_once K) := D.cal fun f fd F => by
  refine F.ok sc__told_once (fun vs H Q E h => ?_) (fun cdv A outer s H vs Q E hr h => ?_)
  · obtain ⟨v, p, rfl, _⟩ := h
    rfl
  · obtain ⟨v, p, rfl, hd, nd, few, fewp, q⟩ := h
    have hu := hu_of hr
    refine ⟨_, (pss_cons (ps_lockO (ps_setLc2 (i := 1) (own := [("hand", 2), ("deed", 3)]) (vs1 := [3]) (g := (gName 2)) (g1 := (gName 3)) (by rfl) sc__told_once.nd rfl rfl (sw_true rfl rfl rfl (by decide +kernel)) (pi_keys (pv 0)) (blkOk_by (own := [("hand", 2), ("deed", 3)]) (N := N__told_once) (sc := defScope s__told_once) (by decide +kernel)) (by decide) (fun _ _ _ _ _ => pg_name (i := 2) sc__told_once.nd rfl (.inl rfl)) (fun _ _ _ _ _ => pts_nil) (fun _ _ _ _ _ => (pi_listK (K := K) rfl (pe_dget hu (pv 0) (pv 2) (fun _ _ => rfl)))) (fun _ _ _ _ _ => pg_name (i := 3) sc__told_once.nd rfl (.inl rfl)) (fun _ _ _ _ _ => pts_one (pt_cmpR op_eq (pe_ix (ix_tupK (K := K) rfl) (pv 3) pe_int (fun _ _ => rfl)) pe_str (nomark _))) (fun _ _ _ _ _ => (pe_ix (ix_tupK (K := K) rfl) (pv 3) pe_int (fun _ _ => rfl)))))
      (pss_one (ps_ret (pe_cmpR op_eq (pe_lenSet rfl T.len rfl T.set (pv 1)) (pe_callB (call_len_seqK (K := K) rfl) (by rfl) T.len PySem.boot_len (pa_cons (pv 1) pa_nil)) (nomark _))))), ?_⟩
    obtain ⟨a, ks, rfl, rd, dk⟩ := past_at hd
    have kl := past_len dk
    refine ⟨a, ks, rd, fun od un H1 L => ?_⟩
    refine ⟨.ref a, rfl, a, od, rfl, .inl ⟨ks, L.frz, fun M nM => ?_⟩⟩
    have dk1 := DaK.le L.le _ dk
    have line : 4000 < sizeLine := by decide
    refine in_it walk_keys (fun i H' => Same H1 H' ∧ H' M = some (.lst ((toldP (p.take i)).map V.int))) ⟨same_new nM, upd_same⟩ (fun i H' _ pv => pv.1 _ _ L.frz) ?_ ?_
    · rintro i x H2 H3 hi ⟨sm, eM⟩ ⟨rfl, k, v, hk, rfl⟩
      obtain ⟨⟨hand, r⟩, hp, rfl, da⟩ := past_ix dk1 i k v hk
      obtain ⟨v', hv', da'⟩ := past_look dk1 r (look_of nd (List.mem_of_getElem? hp))
      obtain ⟨b, xs, rfl, sl, dl⟩ := row_at da'
      refine ⟨rfl, yes_on ⟨.ref a, rfl, .str hand, rfl, a, .ref b, rfl, .inl ⟨ks, .inr hand, rd_same sm (L.le _ _ rd), rfl, hv'.symm⟩, b, rfl, ⟨xs, sm.seq sl⟩, ?_⟩⟩
      have tot : (toldP (p.take i)).length + (toldR r).length ≤ 4000 := by
        have h1 := toldP_le p (i + 1)
        rw [toldP_snoc hp, List.length_append] at h1
        have h2 : (toldR (hand, r).2).length = (toldR r).length := rfl
        omega
      refine in_it walk_list (fun j H' => Same H1 H' ∧ H' M = some (.lst ((toldP (p.take i) ++ toldR (r.take j)).map V.int))) ⟨sm, by rw [eM]; simp [toldR]⟩ (fun j H' _ pv => pv.1.seq sl) ?_ ?_
      · rintro j x H4 H5 hj ⟨sm4, eM4⟩ ⟨rfl, hx⟩
        obtain ⟨d, t, hd, rfl, st⟩ := rows_at dl hx
        have st4 := sqt_same sm4 st
        refine ⟨rfl, ?_⟩
        have sn := toldR_snoc hd
        cases d with
        | keep =>
          refine ⟨.ref t, rfl, t, _, 0, _, rfl, rfl, st4, atI_nat (j := 0) rfl, rfl, _, rfl, iteF ⟨sm4, ?_⟩⟩
          rw [eM4, sn]
          simp [tellL]
        | hear l =>
          refine ⟨.ref t, rfl, t, _, 0, _, rfl, rfl, st4, atI_nat (j := 0) rfl, rfl, _, rfl, iteF ⟨sm4, ?_⟩⟩
          rw [eM4, sn]
          simp [tellL]
        | tell l h =>
          refine ⟨.ref t, rfl, t, _, 0, _, rfl, rfl, st4, atI_nat (j := 0) rfl, rfl, _, rfl, iteT ⟨.ref t, rfl, t, _, 1, .int l, rfl, rfl, st4, atI_nat (j := 1) rfl, _, eM4, ?_, same_mut sm4 nM, ?_⟩⟩
          · rw [List.length_map, List.length_append]
            have := toldR_le r j
            omega
          · rw [upd_same, sn]
            simp [tellL]
      · rintro H4 ⟨sm4, eM4⟩
        refine ⟨sm4, ?_⟩
        have lr : xs.length = r.length := by rw [dl.len, List.length_map]
        rw [eM4, lr, List.take_length, toldP_snoc hp]
    · rintro H2 ⟨sm, eM⟩
      rw [kl, List.take_length] at eM
      refine ⟨sm _ _ L.frz, ?_⟩
      have un := L.same sm
      have eM' := (L.new nM eM).2
      refine ⟨.ref M, rfl, M, toldP p, rfl, .inl (.inl eM'), few, .ref M, rfl, M, _, rfl, .inl (.inl (.inl eM')), rfl, ?_⟩
      rw [eq_num, List.length_map]
      have ev : decide ((((firstMet (fun i => (toldP p).getD i 0) (toldP p).length).length : Nat) : Int) = (((toldP p).length : Nat) : Int)) = decide (toldP p).Nodup := by
        by_cases z : (toldP p).Nodup
        · rw [decide_eq_true z, decide_eq_true (by rw [(met_nodup _).mpr z])]
        · rw [decide_eq_false z, decide_eq_false fun y => z ((met_nodup _).mp (by omega))]
      rw [ev]
      exact q _ un

/-! ### _heard_once -/
def sp_heard_once (K : PySem.W.Frag) : Sp := fun vs H Q _ => ∃ v p, vs = [v] ∧ Da K H v (pastD p) ∧ (p.map (·.1)).Nodup ∧ (toldP p).Nodup ∧ (toldP p).length ≤ 4000 ∧ ∀ H', Same H H' → Q (.bl (decide (HeardOnce p))) H'
/-- the dict of who is told what: the letters told so far, those heard taken out -/
def HrAt (ts hs : List (Int × Str)) (ks : List (Key × V)) : Prop := ks.length ≤ ts.length ∧ ∀ l, valV ks (.inl l) = if l ∈ hs.map (·.1) then none else (lookT ts l).map V.str
def sp_hearers_of (K : PySem.W.Frag) : Sp := fun vs H Q _ => ∃ v p, vs = [v] ∧ Da K H v (pastD p) ∧ (p.map (·.1)).Nodup ∧ (toldP p).Nodup ∧ (toldP p).length ≤ 4000 ∧ ∀ H' M hs, Same H H' → H M = none → H' M = some (.dK hs) → HrAt (tellsP p) [] hs → Q (.ref M) H'
theorem ok_hearers_of (D : Dfn K mg "hearers_of" s_hearers_of P_hearers_of) (T : Txt mg) : Cal P w K mg base CX0 1 "hearers_of" s_hearers_of P_hearers_of (sp_hearers_of K) := D.cal fun f fd F => by
  refine F.ok sc_hearers_of (fun vs H Q E h => ?_) (fun cdv A outer s H vs Q E hr h => ?_)
  · obtain ⟨v, p, rfl, _⟩ := h
    rfl
  · obtain ⟨v, p, rfl, hd, nd, once, few, q⟩ := h
    have hu := hu_of hr
    refine ⟨_, (pss_one (ps_ret (pe_lockO (pe_dc2 (own := [("hand", 1), ("deed", 2)]) (vs1 := [2]) (g := (gName 1)) (g1 := (gName 2)) rfl sc_hearers_of.nd (pi_keys (pv 0)) (blkOk_by (own := [("hand", 1), ("deed", 2)]) (N := N_hearers_of) (sc := defScope s_hearers_of) (by decide +kernel)) (by decide) (fun _ _ _ _ _ => pg_name (i := 1) sc_hearers_of.nd rfl (.inl rfl)) (fun _ _ _ _ _ => pts_nil) (fun _ _ _ _ _ => (pi_listK (K := K) rfl (pe_dget hu (pv 0) (pv 1) (fun _ _ => rfl)))) (fun _ _ _ _ _ => pg_name (i := 2) sc_hearers_of.nd rfl (.inl rfl)) (fun _ _ _ _ _ => pts_one (pt_cmpR op_eq (pe_ix (ix_tupK (K := K) rfl) (pv 2) pe_int (fun _ _ => rfl)) pe_str (nomark _))) (fun _ _ _ _ _ => (pe_ix (ix_tupK (K := K) rfl) (pv 2) pe_int (fun _ _ => rfl))) (fun _ _ _ _ _ => (pe_ix (ix_tupK (K := K) rfl) (pv 2) pe_int (fun _ _ => rfl))))))), ?_⟩
    obtain ⟨a, ks, rfl, rd, dk⟩ := past_at hd
    have kl := past_len dk
    refine ⟨a, ks, rd, fun od un H1 L => ?_⟩
    refine ⟨.ref a, rfl, a, od, rfl, .inl ⟨ks, L.frz, fun M nM => ?_⟩⟩
    have dk1 := DaK.le L.le _ dk
    have line : 4000 < sizeLine := by decide
    have fewT : (tellsP p).length ≤ 4000 := by
      have := congrArg List.length (tells_fst p)
      rw [List.length_map] at this
      omega
    have ndT : ((tellsP p).map (·.1)).Nodup := by rw [tells_fst]; exact once
    refine in_it walk_keys (fun i H' => Same H1 H' ∧ ∃ hs, H' M = some (.dK hs) ∧ HrAt (tellsP (p.take i)) [] hs) ⟨same_new nM, [], upd_same, Nat.zero_le _, fun l => by simp [lookT, tellsP, valV_nil]⟩ (fun i H' _ pv => pv.1 _ _ L.frz) ?_ ?_
    · rintro i x H2 H3 hi ⟨sm, hs, eM, hrs⟩ ⟨rfl, k, v, hk, rfl⟩
      obtain ⟨⟨hand, r⟩, hp, rfl, da⟩ := past_ix dk1 i k v hk
      obtain ⟨v', hv', da'⟩ := past_look dk1 r (look_of nd (List.mem_of_getElem? hp))
      obtain ⟨b, xs, rfl, sl, dl⟩ := row_at da'
      refine ⟨rfl, yes_on ⟨.ref a, rfl, .str hand, rfl, a, .ref b, rfl, .inl ⟨ks, .inr hand, rd_same sm (L.le _ _ rd), rfl, hv'.symm⟩, b, rfl, ⟨xs, sm.seq sl⟩, ?_⟩⟩
      refine in_it walk_list (fun j H' => Same H1 H' ∧ ∃ hs, H' M = some (.dK hs) ∧ HrAt (tellsP (p.take i) ++ (r.take j).filterMap tellT) [] hs) ⟨sm, hs, eM, by simpa using hrs⟩ (fun j H' _ pv => pv.1.seq sl) ?_ ?_
      · rintro j x H4 H5 hj ⟨sm4, hs4, eM4, hr4⟩ ⟨rfl, hx⟩
        obtain ⟨d, t, hd, rfl, st⟩ := rows_at dl hx
        have st4 := sqt_same sm4 st
        refine ⟨rfl, ?_⟩
        have sn := tells_snocR hd
        obtain ⟨z, pre⟩ := tells_pre (j := j + 1) hp
        have pre : tellsP p = tellsP (p.take i) ++ (r.take (j + 1)).filterMap tellT ++ z := pre
        rw [sn] at pre ⊢
        cases d with
        | keep =>
          refine ⟨.ref t, rfl, t, _, 0, _, rfl, rfl, st4, atI_nat (j := 0) rfl, rfl, _, rfl, iteF ⟨sm4, hs4, eM4, ?_⟩⟩
          simpa [tellT] using hr4
        | hear l =>
          refine ⟨.ref t, rfl, t, _, 0, _, rfl, rfl, st4, atI_nat (j := 0) rfl, rfl, _, rfl, iteF ⟨sm4, hs4, eM4, ?_⟩⟩
          simpa [tellT] using hr4
        | tell l h =>
          have pre' : tellsP p = (tellsP (p.take i) ++ (r.take j).filterMap tellT) ++ ((l, h) :: z) := by rw [pre]; simp [tellT]
          have lens : (tellsP (p.take i) ++ (r.take j).filterMap tellT).length < 4000 := by
            have := congrArg List.length pre'
            rw [List.length_append, List.length_cons] at this
            omega
          refine ⟨.ref t, rfl, t, _, 0, _, rfl, rfl, st4, atI_nat (j := 0) rfl, rfl, _, rfl, iteT ⟨.ref t, rfl, t, _, 1, .int l, rfl, rfl, st4, atI_nat (j := 1) rfl, .ref t, rfl, t, _, 2, .str h, rfl, rfl, st4, atI_nat (j := 2) rfl, hs4, .inl l, rfl, eM4, ?_, same_mut sm4 nM, _, upd_same, ?_, fun j' => ?_⟩⟩
          · have := hr4.1
            omega
          · have h1 := length_putK hs4 (.inl l : Key) (.str h)
            have h2 := hr4.1
            simp [tellT] at h2 ⊢
            omega
          · have nl : l ∉ (tellsP (p.take i) ++ (r.take j).filterMap tellT).map (·.1) := fun m => by
              rw [pre', List.map_append, List.map_cons] at ndT
              exact (List.nodup_append.mp ndT).2.2 _ m _ List.mem_cons_self rfl
            rw [valV_put, ← List.append_assoc]
            show (if (Sum.inl j' : Key) = .inl l then some (V.str h) else valV hs4 (.inl j')) = _
            rw [show (tellT (Deed.tell l h)).toList = [(l, h)] from rfl, lookT_snoc nl, hr4.2]
            by_cases zz : j' = l
            · subst zz
              simp
            · rw [if_neg (fun y => zz (Sum.inl.inj y)), if_neg zz]
      · rintro H4 ⟨sm4, hs4, eM4, hr4⟩
        refine ⟨sm4, hs4, eM4, ?_⟩
        have lr : xs.length = r.length := by rw [dl.len, List.length_map]
        rw [lr, List.take_length] at hr4
        rw [tells_snocP hp]
        exact hr4
    · rintro H2 ⟨sm, hs, eM, hrs⟩
      rw [kl, List.take_length] at hrs
      refine ⟨sm _ _ L.frz, ?_⟩
      have un1 := L.same sm
      obtain ⟨nM0, eM'⟩ := L.new nM eM
      exact q _ M hs un1 nM0 eM' hrs
theorem ok_heard_once (D : Dfn K mg "_heard_once" s__heard_once P__heard_once) (C_hearers_of : Cal P w K mg base CX0 1 "hearers_of" s_hearers_of P_hearers_of (sp_hearers_of K)) : Cal P w K mg base CX0 2 "_heard_once" s__heard_once P__heard_once (sp_heard_once K) := D.cal fun f fd F => by
  refine F.ok sc__heard_once (fun vs H Q E h => ?_) (fun cdv A outer s H vs Q E hr h => ?_)
  · obtain ⟨v, p, rfl, _⟩ := h
    rfl
  · obtain ⟨v, p, rfl, hd, nd, once, few, q⟩ := h
    have hu := hu_of hr
    refine ⟨_, (pss_cons (ps_set (i := 1) sc__heard_once.nd rfl (.inl rfl) (pe_callC C_hearers_of (hr.mono (by decide)) rfl pass0 (pa_cons (pv 0) pa_nil)))
      (pss_cons (ps_lockO (ps_for PassesOwn.never rfl (pi_keys (pv 0)) (pg_name (i := 2) sc__heard_once.nd rfl (.inl rfl)) (pss_one (ps_for PassesOwn.never rfl (pi_listK (K := K) rfl (pe_dget hu (pv 0) (pv 2) (fun _ _ => rfl))) (pg_name (i := 3) sc__heard_once.nd rfl (.inl rfl)) (pss_one (ps_if (PW.pt (pw_and (pt_cmpR op_eq (pe_ix (ix_tupK (K := K) rfl) (pv 3) pe_int (fun _ _ => rfl)) pe_str (nomark _)) (pw_and1 (pt_cmpR op_ne (pe_dpop2 (pv 1) (pe_ix (ix_tupK (K := K) rfl) (pv 3) pe_int (fun _ _ => rfl)) pe_non ⟨rfl, rfl, rfl, rfl⟩) (pv 2) (nomark _))))) (pss_one (ps_ret pe_bl)) pss_nil))))))
      (pss_one (ps_ret pe_bl)))), ?_⟩
    obtain ⟨a, ks, rfl, rd, dk⟩ := past_at hd
    have kl := past_len dk
    have line : 4000 < sizeLine := by decide
    have fewT : (tellsP p).length ≤ 4000 := by
      have := congrArg List.length (tells_fst p)
      rw [List.length_map] at this
      omega
    have ndT : ((tellsP p).map (·.1)).Nodup := by rw [tells_fst]; exact once
    refine ⟨.ref a, rfl, .ref a, p, rfl, hd, nd, once, few, fun Hc M hs un1 nM0 eM' hrs => ?_⟩
    have nMa : M ≠ a := fun z => by
      subst z
      rcases rd with z | ⟨_, z⟩ <;> rw [nM0] at z <;> cases z
    -- the walk: each hearing takes its letter out
    refine ⟨a, ks, rd_same un1 rd, fun od2 un2 H3 L2 => ⟨.ref a, rfl, a, od2, rfl, .inl ⟨ks, L2.frz, ?_⟩⟩⟩
    have le3 : Le H H3 := (same_le un1).trans L2.le
    have eM3 : H3 M = some (.dK hs) := by rw [L2.off M nMa]; exact eM'
    have fail : ∀ H', Off M H3 H' → H' a = some (.frz od2 (.dK ks)) → ¬ HeardOnce p → Q (.bl false) (un2 H') := fun H' off ha no => by
      have q' := q _ (L2.sameOff off nM0 un1 ha)
      rw [decide_eq_false no] at q'
      exact q'
    refine for_it walk_keys (fun i σ' H' => (∃ y2 y3, σ' = [some (.ref a), some (.ref M), y2, y3]) ∧ Off M H3 H' ∧ (∃ hs, H' M = some (.dK hs) ∧ HrAt (tellsP p) (hearsP (p.take i)) hs) ∧ (∀ x ∈ hearsP (p.take i), x ∈ tellsP p) ∧ ((hearsP (p.take i)).map (·.1)).Nodup)
      ⟨⟨none, none, rfl⟩, fun _ _ _ z => z, ⟨hs, eM3, by simpa [hearsP] using hrs⟩, by simp [hearsP], by simp [hearsP]⟩ (fun i σ' H' _ pv => pv.2.1 _ _ nMa.symm L2.frz) ?_ ?_
    · rintro i x σ' H4 H5 hi ⟨⟨y2, y3, rfl⟩, off4, ⟨hs4, eM4, hr4⟩, in4, nd4⟩ ⟨rfl, k, v, hk, rfl⟩
      obtain ⟨⟨hand, r⟩, hp, rfl, da⟩ := past_ix dk i k v hk
      obtain ⟨v', hv', da'⟩ := past_look dk r (look_of nd (List.mem_of_getElem? hp))
      obtain ⟨b, xs, rfl, sl, dl⟩ := row_at da'
      have le4 := le_off nM0 le3 off4
      refine ⟨.ref a, rfl, .str hand, rfl, a, .ref b, rfl, .inl ⟨ks, .inr hand, le4 _ _ rd, rfl, hv'.symm⟩, b, rfl, ⟨xs, le4.seq sl⟩, ?_⟩
      refine for_it walk_list (fun j σ' H' => (∃ y3, σ' = [some (.ref a), some (.ref M), some (.str hand), y3]) ∧ Off M H3 H' ∧ (∃ hs, H' M = some (.dK hs) ∧ HrAt (tellsP p) (hearsP (p.take i) ++ hearsR (hand, r.take j)) hs) ∧ (∀ x ∈ hearsP (p.take i) ++ hearsR (hand, r.take j), x ∈ tellsP p) ∧ ((hearsP (p.take i) ++ hearsR (hand, r.take j)).map (·.1)).Nodup)
        ⟨⟨y3, rfl⟩, off4, ⟨hs4, eM4, by simpa [hearsR] using hr4⟩, by simpa [hearsR] using in4, by simpa [hearsR] using nd4⟩ (fun j σ' H' _ pv => (le_off nM0 le3 pv.2.1).seq sl) ?_ ?_
      · rintro j x σ'' H6 H7 hj ⟨⟨y3, rfl⟩, off6, ⟨hs6, eM6, hr6⟩, in6, nd6⟩ ⟨rfl, hx⟩
        obtain ⟨d, t, hd, rfl, st⟩ := rows_at dl hx
        have st6 := (le_off nM0 le3 off6).sqt st
        have frz6 := off6 _ _ nMa.symm L2.frz
        have sn := hears_snocR (hand := hand) hd
        obtain ⟨z, pre⟩ := hears_pre (j := j + 1) hp
        have pre : hearsP p = hearsP (p.take i) ++ hearsR (hand, r.take (j + 1)) ++ z := pre
        rw [sn] at pre
        cases d with
        | keep =>
          refine ⟨.ref t, rfl, t, _, 0, _, rfl, rfl, st6, atI_nat (j := 0) rfl, rfl, _, rfl, iteF (iteF ⟨⟨_, rfl⟩, off6, ⟨hs6, eM6, by rw [sn]; simpa [hearT] using hr6⟩, by rw [sn]; simpa [hearT] using in6, by rw [sn]; simpa [hearT] using nd6⟩)⟩
        | tell l h =>
          refine ⟨.ref t, rfl, t, _, 0, _, rfl, rfl, st6, atI_nat (j := 0) rfl, rfl, _, rfl, iteF (iteF ⟨⟨_, rfl⟩, off6, ⟨hs6, eM6, by rw [sn]; simpa [hearT] using hr6⟩, by rw [sn]; simpa [hearT] using in6, by rw [sn]; simpa [hearT] using nd6⟩)⟩
        | hear l =>
          have pre' : hearsP p = (hearsP (p.take i) ++ hearsR (hand, r.take j)) ++ ((l, hand) :: z) := by rw [pre]; simp [hearT]
          have here : (l, hand) ∈ hearsP p := by rw [pre']; simp
          refine ⟨.ref t, rfl, t, _, 0, _, rfl, rfl, st6, atI_nat (j := 0) rfl, rfl, _, rfl, iteT ⟨.ref M, rfl, M, rfl, .inl ⟨hs6, .inl eM6⟩, .ref t, rfl, t, _, 1, .int l, rfl, rfl, st6, atI_nat (j := 1) rfl, hs6, .inl l, eM6, rfl, fun v hv => ?_, fun hv => ?_⟩⟩
          · rw [hr6.2] at hv
            by_cases old : l ∈ (hearsP (p.take i) ++ hearsR (hand, r.take j)).map (·.1)
            · rw [if_pos old] at hv
              cases hv
            rw [if_neg old] at hv
            cases ht : lookT (tellsP p) l with
            | none =>
              rw [ht] at hv
              cases hv
            | some h' =>
            rw [ht] at hv
            cases Option.some.inj hv
            refine ⟨.str hand, rfl, rfl, _, rfl, ?_⟩
            rw [eq_text]
            by_cases same : h' = hand
            · rw [decide_eq_true same]
              subst same
              refine iteF ⟨⟨_, rfl⟩, off6.trans off_upd, ⟨_, upd_same, ?_, fun j' => ?_⟩, ?_, ?_⟩
              · exact Nat.le_trans (dropK_le _ _) hr6.1
              · rw [valV_drop, sn]
                show (if (Sum.inl j' : Key) = .inl l then none else valV hs6 (.inl j')) = _
                rw [hr6.2, show (hearT h' (Deed.hear l)).toList = [(l, h')] from rfl, ← List.append_assoc, List.map_append (l₂ := [(l, h')])]
                by_cases zz : j' = l
                · subst zz
                  simp
                · rw [if_neg (fun y => zz (Sum.inl.inj y))]
                  have mem : ∀ A : List Int, j' ∈ A ++ [(l, h')].map (·.1) ↔ j' ∈ A := fun A =>
                    ⟨fun m => (List.mem_append.mp m).elim id fun y => absurd (List.mem_singleton.mp y) zz, fun m => List.mem_append_left _ m⟩
                  by_cases yy : j' ∈ (hearsP (p.take i) ++ hearsR (h', r.take j)).map (·.1)
                  · rw [if_pos yy, if_pos ((mem _).mpr yy)]
                  · rw [if_neg yy, if_neg fun q => yy ((mem _).mp q)]
              · rw [sn, show (hearT h' (Deed.hear l)).toList = [(l, h')] from rfl, ← List.append_assoc]
                intro x hx
                rcases List.mem_append.mp hx with hx | hx
                · exact in6 x hx
                · cases List.mem_singleton.mp hx
                  exact lookT_mem ht
              · rw [sn, show (hearT h' (Deed.hear l)).toList = [(l, h')] from rfl, ← List.append_assoc, List.map_append]
                exact nd_snoc nd6 old
            · rw [decide_eq_false same]
              have off7 : Off M H3 (upd H7 M (.dK (dropK hs6 (.inl l)))) := off6.trans off_upd
              refine iteT ⟨off7 _ _ nMa.symm L2.frz, fail _ off7 (off7 _ _ nMa.symm L2.frz) fun ho => same ?_⟩
              have := lookT_of ndT (ho.1 _ here)
              rw [ht] at this
              exact Option.some.inj this
          · rw [hr6.2] at hv
            refine ⟨.str hand, rfl, rfl, _, rfl, iteT ⟨frz6, fail _ off6 frz6 fun ho => ?_⟩⟩
            by_cases old : l ∈ (hearsP (p.take i) ++ hearsR (hand, r.take j)).map (·.1)
            · have n2 := ho.2
              rw [pre', List.map_append, List.map_cons] at n2
              exact (List.nodup_append.mp n2).2.2 _ old _ List.mem_cons_self rfl
            · rw [if_neg old, lookT_of ndT (ho.1 _ here)] at hv
              cases hv
      · rintro σ'' H6 ⟨⟨y3, rfl⟩, off6, ⟨hs6, eM6, hr6⟩, in6, nd6⟩
        have lr : xs.length = r.length := by rw [dl.len, List.length_map]
        rw [lr, List.take_length] at hr6 in6 nd6
        refine ⟨⟨_, _, rfl⟩, off6, ⟨hs6, eM6, ?_⟩, ?_, ?_⟩ <;> rw [hears_snocP hp] <;> assumption
    · rintro σ' H4 ⟨⟨y2, y3, rfl⟩, off4, ⟨hs4, eM4, hr4⟩, in4, nd4⟩
      rw [kl, List.take_length] at in4 nd4
      have frz4 := off4 _ _ nMa.symm L2.frz
      refine ⟨frz4, ?_⟩
      have q' := q _ (L2.sameOff off4 nM0 un1 frz4)
      rw [decide_eq_true (show HeardOnce p from ⟨in4, nd4⟩)] at q'
      exact q'
end
end L2.Fb.Law

/-! The order in which deeds come, as the program finds it: mathematics alone. -/
namespace L2.Fb
open PySem

/-- how far a row runs on, and the letters told then -/
def runL : List Deed → List Int → Nat × List Int
  | [], T => (0, T)
  | .keep :: r, T => ((runL r T).1 + 1, (runL r T).2)
  | .tell l _ :: r, T => ((runL r (T ++ [l])).1 + 1, (runL r (T ++ [l])).2)
  | .hear l :: r, T => if l ∈ T then ((runL r T).1 + 1, (runL r T).2) else (0, T)
structure Od where
  done : Str → Nat
  told : List Int
  order : List Str
def Od.zero : Od := ⟨fun _ => 0, [], []⟩
section
variable (rows : Str → List Deed)
def odStep (st : Od) (h : Str) : Od :=
  ⟨fun x => if x = h then st.done h + (runL ((rows h).drop (st.done h)) st.told).1 else st.done x, (runL ((rows h).drop (st.done h)) st.told).2, st.order ++ List.replicate (runL ((rows h).drop (st.done h)) st.told).1 h⟩
def odPass (hands : List Str) (st : Od) : Od := hands.foldl (odStep rows) st
def odLoop (hands : List Str) : Nat → Od → Od
  | 0, st => st
  | f + 1, st => if (odPass rows hands st).order.length = st.order.length then odPass rows hands st else odLoop hands f (odPass rows hands st)
end
theorem runL_le : ∀ (r : List Deed) (T : List Int), (runL r T).1 ≤ r.length
  | [], _ => Nat.le_refl _
  | .keep :: r, T => Nat.succ_le_succ (runL_le r T)
  | .tell l h :: r, T => Nat.succ_le_succ (runL_le r (T ++ [l]))
  | .hear l :: r, T => by
    unfold runL
    split
    · exact Nat.succ_le_succ (runL_le r T)
    · exact Nat.zero_le _
theorem toldR_keep (r : List Deed) : toldR (.keep :: r) = toldR r := rfl
theorem toldR_tell (l : Int) (h : Str) (r : List Deed) : toldR (.tell l h :: r) = l :: toldR r := rfl
theorem toldR_hear (l : Int) (r : List Deed) : toldR (.hear l :: r) = toldR r := rfl
theorem runL_told : ∀ (r : List Deed) (T : List Int), (runL r T).2 = T ++ toldR (r.take (runL r T).1)
  | [], T => by simp [runL, toldR]
  | .keep :: r, T => by
    show (runL r T).2 = T ++ toldR ((Deed.keep :: r).take ((runL r T).1 + 1))
    rw [List.take_succ_cons, toldR_keep, runL_told r T]
  | .tell l h :: r, T => by
    show (runL r (T ++ [l])).2 = T ++ toldR ((Deed.tell l h :: r).take ((runL r (T ++ [l])).1 + 1))
    rw [List.take_succ_cons, toldR_tell, runL_told r (T ++ [l])]
    simp
  | .hear l :: r, T => by
    unfold runL
    split
    · show (runL r T).2 = T ++ toldR ((Deed.hear l :: r).take ((runL r T).1 + 1))
      rw [List.take_succ_cons, toldR_hear, runL_told r T]
    · simp [toldR]
theorem runL_zero {r : List Deed} {T : List Int} (h : (runL r T).1 = 0) : (runL r T).2 = T := by
  rw [runL_told, h]
  simp [toldR]
/-- where it stops, a letter lacks -/
theorem runL_stop {r : List Deed} {T : List Int} (h : (runL r T).1 = 0) : r = [] ∨ ∃ l r', r = .hear l :: r' ∧ l ∉ T := by
  cases r with
  | nil => exact .inl rfl
  | cons d r =>
    cases d with
    | keep => cases h
    | tell l h' => cases h
    | hear l =>
      unfold runL at h
      split at h
      · cases h
      · exact .inr ⟨l, r, rfl, ‹_›⟩

/-! ### going through -/
abbrev Gone := (Str → Nat) × (Int → Option Str)
def bump (g : Str → Nat) (h : Str) : Str → Nat := fun x => if x = h then g h + 1 else g x
/-- one deed more of a hand: how far each hand is, whom each letter was told -/
def go1 (rows : Str → List Deed) (s : Gone) (h : Str) : Option Gone := match (rows h)[s.1 h]? with
  | none => none
  | some .keep => some (bump s.1 h, s.2)
  | some (.tell l k) => some (bump s.1 h, fun m => if m = l then some k else s.2 m)
  | some (.hear l) => if s.2 l = some h then some (bump s.1 h, s.2) else none
def through (rows : Str → List Deed) (o : List Str) (s : Gone) : Option Gone := o.foldlM (go1 rows) s
theorem through_app (rows : Str → List Deed) (o o' : List Str) (s : Gone) : through rows (o ++ o') s = (through rows o s).bind fun q => through rows o' q := List.foldlM_append ..

/-- whom letters were told, by the deeds done -/
structure Told (rows : Str → List Deed) (hands : List Str) (done : Str → Nat) (T : List Int) (t : Int → Option Str) : Prop where
  mem : ∀ l, l ∈ T ↔ ∃ h ∈ hands, ∃ (j : Nat) (k : Str), j < done h ∧ (rows h)[j]? = some (Deed.tell l k)
  to : ∀ l k, t l = some k → ∃ h ∈ hands, ∃ (j : Nat), (rows h)[j]? = some (Deed.tell l k)
  told : ∀ l, l ∈ T → ∃ k, t l = some k
/-- a hand that runs on goes through -/
theorem run_through {rows : Str → List Deed} {hands : List Str} (uniq : ∀ (l : Int) (h k h' k' : Str) (j j' : Nat), h ∈ hands → h' ∈ hands → (rows h)[j]? = some (Deed.tell l k) → (rows h')[j']? = some (Deed.tell l k') → k = k')
    (heard : ∀ (h : Str) (l : Int) (j : Nat), h ∈ hands → (rows h)[j]? = some (Deed.hear l) → ∃ h' ∈ hands, ∃ (j' : Nat), (rows h')[j']? = some (Deed.tell l h)) {h : Str} (hh : h ∈ hands) :
    ∀ (r : List Deed) (g : Str → Nat) (T : List Int) (t : Int → Option Str), r = (rows h).drop (g h) → Told rows hands g T t →
      ∃ t', through rows (List.replicate (runL r T).1 h) (g, t) = some (fun x => if x = h then g h + (runL r T).1 else g x, t') ∧ Told rows hands (fun x => if x = h then g h + (runL r T).1 else g x) (runL r T).2 t' := by
  have step : ∀ {d : Deed} {r : List Deed} {g : Str → Nat}, d :: r = (rows h).drop (g h) → (rows h)[g h]? = some d ∧ r = (rows h).drop (bump g h h) := by
    intro d r g e
    have e1 : (rows h)[g h]? = some d := by
      have := congrArg (·[0]?) e
      simp only [List.getElem?_drop, Nat.add_zero, List.getElem?_cons_zero] at this
      exact this.symm
    refine ⟨e1, ?_⟩
    have := congrArg List.tail e
    rw [List.tail_drop] at this
    show r = (rows h).drop (if h = h then g h + 1 else g h)
    rw [if_pos rfl]
    exact this
  have grow : ∀ (g : Str → Nat) (n : Nat), (fun x => if x = h then bump g h h + n else bump g h x) = fun x => if x = h then g h + (n + 1) else g x := by
    intro g n
    funext x
    unfold bump
    rw [if_pos rfl]
    by_cases z : x = h
    · rw [if_pos z, if_pos z]
      omega
    · rw [if_neg z, if_neg z, if_neg z]
  have idle : ∀ (g : Str → Nat), (fun x => if x = h then g h + 0 else g x) = g := by
    intro g
    funext x
    by_cases z : x = h
    · rw [if_pos z, z]
      rfl
    · rw [if_neg z]
  -- what is told stays told when a hand goes on by a deed that tells nothing
  have quiet : ∀ {d : Deed} {g : Str → Nat} {T : List Int} {t : Int → Option Str}, (rows h)[g h]? = some d → (∀ l k, d ≠ .tell l k) → Told rows hands g T t → Told rows hands (bump g h) T t := by
    intro d g T t hd no W
    refine ⟨fun l => ⟨fun m => ?_, fun ⟨h', m', j, k, lt, e⟩ => ?_⟩, W.to, W.told⟩
    · obtain ⟨h', m', j, k, lt, e⟩ := (W.mem l).mp m
      refine ⟨h', m', j, k, ?_, e⟩
      unfold bump
      split
      · rename_i z
        rw [z] at lt
        omega
      · exact lt
    · unfold bump at lt
      split at lt
      · rename_i z
        rw [z] at e m'
        by_cases last : j = g h
        · rw [last, hd] at e
          exact absurd (Option.some.inj e) (no l k)
        · exact (W.mem l).mpr ⟨h, m', j, k, by omega, e⟩
      · exact (W.mem l).mpr ⟨h', m', j, k, lt, e⟩
  intro r
  induction r with
  | nil =>
    intro g T t e W
    refine ⟨t, ?_, ?_⟩
    · show some (g, t) = some (fun x => if x = h then g h + 0 else g x, t)
      rw [idle]
    · show Told rows hands (fun x => if x = h then g h + 0 else g x) T t
      rw [idle]
      exact W
  | cons d r ih =>
    intro g T t e W
    obtain ⟨hd, hr⟩ := step e
    cases d with
    | keep =>
      obtain ⟨t', p1, p2⟩ := ih (bump g h) T t hr (quiet hd (fun _ _ z => nomatch z) W)
      rw [grow] at p1 p2
      refine ⟨t', ?_, p2⟩
      show (go1 rows (g, t) h).bind (fun q => through rows (List.replicate (runL r T).1 h) q) = _
      have e1 : go1 rows (g, t) h = some (bump g h, t) := by
        unfold go1
        rw [hd]
      rw [e1]
      exact p1
    | tell l k =>
      have W' : Told rows hands (bump g h) (T ++ [l]) (fun m => if m = l then some k else t m) := by
        refine ⟨fun m => ⟨fun hm => ?_, fun ⟨h', m', j, k', lt, e'⟩ => ?_⟩, fun m k' e' => ?_, fun m hm => ?_⟩
        · rcases List.mem_append.mp hm with hm | hm
          · obtain ⟨h', m', j, k', lt, e'⟩ := (W.mem m).mp hm
            refine ⟨h', m', j, k', ?_, e'⟩
            unfold bump
            split
            · rename_i z
              rw [z] at lt
              omega
            · exact lt
          · rw [List.mem_singleton.mp hm]
            exact ⟨h, hh, g h, k, by unfold bump; rw [if_pos rfl]; omega, hd⟩
        · unfold bump at lt
          split at lt
          · rename_i z
            rw [z] at e' m'
            by_cases last : j = g h
            · rw [last, hd] at e'
              cases Option.some.inj e'
              exact List.mem_append_right _ (List.mem_singleton.mpr rfl)
            · exact List.mem_append_left _ ((W.mem m).mpr ⟨h, m', j, k', by omega, e'⟩)
          · exact List.mem_append_left _ ((W.mem m).mpr ⟨h', m', j, k', lt, e'⟩)
        · have e' : (if m = l then some k else t m) = some k' := e'
          split at e'
          · rename_i z
            cases Option.some.inj e'
            rw [z]
            exact ⟨h, hh, g h, hd⟩
          · exact W.to m k' e'
        · show ∃ k', (if m = l then some k else t m) = some k'
          split
          · exact ⟨k, rfl⟩
          · rename_i z
            rcases List.mem_append.mp hm with hm | hm
            · exact W.told m hm
            · exact absurd (List.mem_singleton.mp hm) z
      obtain ⟨t', p1, p2⟩ := ih (bump g h) (T ++ [l]) _ hr W'
      rw [grow] at p1 p2
      refine ⟨t', ?_, p2⟩
      show (go1 rows (g, t) h).bind (fun q => through rows (List.replicate (runL r (T ++ [l])).1 h) q) = _
      have e1 : go1 rows (g, t) h = some (bump g h, fun m => if m = l then some k else t m) := by
        unfold go1
        rw [hd]
      rw [e1]
      exact p1
    | hear l =>
      by_cases hl : l ∈ T
      · have er : runL (.hear l :: r) T = ((runL r T).1 + 1, (runL r T).2) := if_pos hl
        rw [er]
        obtain ⟨t', p1, p2⟩ := ih (bump g h) T t hr (quiet hd (fun _ _ z => nomatch z) W)
        rw [grow] at p1 p2
        refine ⟨t', ?_, p2⟩
        show (go1 rows (g, t) h).bind (fun q => through rows (List.replicate (runL r T).1 h) q) = _
        have e1 : go1 rows (g, t) h = some (bump g h, t) := by
          obtain ⟨k, hk⟩ := W.told l hl
          obtain ⟨h1, m1, j1, q1⟩ := W.to l k hk
          obtain ⟨h2, m2, j2, q2⟩ := heard h l _ hh hd
          have : k = h := uniq l h1 k h2 h j1 j2 m1 m2 q1 q2
          unfold go1
          rw [hd]
          show (if t l = some h then _ else _) = _
          rw [if_pos (by rw [hk, this])]
        rw [e1]
        exact p1
      · have er : runL (.hear l :: r) T = (0, T) := if_neg hl
        rw [er]
        refine ⟨t, ?_, ?_⟩
        · show some (g, t) = some (fun x => if x = h then g h + 0 else g x, t)
          rw [idle]
        · show Told rows hands (fun x => if x = h then g h + 0 else g x) T t
          rw [idle]
          exact W

/-! ### all goes through -/
/-- what is asked of rows: each letter told to one hand, heard by it -/
structure Fit (rows : Str → List Deed) (hands : List Str) : Prop where
  uniq : ∀ (l : Int) (h k h' k' : Str) (j j' : Nat), h ∈ hands → h' ∈ hands → (rows h)[j]? = some (Deed.tell l k) → (rows h')[j']? = some (Deed.tell l k') → k = k'
  heard : ∀ (h : Str) (l : Int) (j : Nat), h ∈ hands → (rows h)[j]? = some (Deed.hear l) → ∃ h' ∈ hands, ∃ (j' : Nat), (rows h')[j']? = some (Deed.tell l h)
/-- the found order so far -/
structure Sound (rows : Str → List Deed) (hands : List Str) (st : Od) : Prop where
  thr : ∃ t, through rows st.order (fun _ => 0, fun _ => none) = some (st.done, t) ∧ Told rows hands st.done st.told t
  le : ∀ h, st.done h ≤ (rows h).length
  cnt : ∀ h, st.order.count h = st.done h
  ins : ∀ h ∈ st.order, h ∈ hands
theorem sound_zero (rows : Str → List Deed) (hands : List Str) : Sound rows hands Od.zero where
  thr := ⟨_, rfl, ⟨fun l => ⟨fun m => (nomatch m), fun ⟨_, _, _, _, lt, _⟩ => absurd lt (Nat.not_lt_zero _)⟩, fun _ _ e => (nomatch e), fun _ m => (nomatch m)⟩⟩
  le := fun _ => Nat.zero_le _
  cnt := fun _ => rfl
  ins := fun _ m => (nomatch m)
theorem sound_step {rows : Str → List Deed} {hands : List Str} (F : Fit rows hands) {st : Od} {h : Str} (hh : h ∈ hands) (S : Sound rows hands st) : Sound rows hands (odStep rows st h) := by
  obtain ⟨t, p1, W⟩ := S.thr
  obtain ⟨t', p2, W'⟩ := run_through F.uniq F.heard hh _ st.done st.told t rfl W
  have nle := runL_le ((rows h).drop (st.done h)) st.told
  rw [List.length_drop] at nle
  refine ⟨⟨t', ?_, W'⟩, fun x => ?_, fun x => ?_, fun x hx => ?_⟩
  · show through rows (st.order ++ _) _ = _
    rw [through_app, p1]
    exact p2
  · show (if x = h then st.done h + _ else st.done x) ≤ _
    have := S.le h
    split
    · rename_i z
      subst z
      omega
    · exact S.le x
  · show (st.order ++ _).count x = (if x = h then st.done h + _ else st.done x)
    rw [List.count_append, S.cnt x, List.count_replicate]
    by_cases z : x = h
    · subst z
      simp
    · rw [if_neg z, if_neg (by simpa using fun y : h = x => z y.symm)]
      rfl
  · rcases List.mem_append.mp hx with hx | hx
    · exact S.ins x hx
    · rw [List.eq_of_mem_replicate hx]
      exact hh
theorem sound_pass {rows : Str → List Deed} {hands : List Str} (F : Fit rows hands) : ∀ (hs : List Str), (∀ h ∈ hs, h ∈ hands) → ∀ (st : Od), Sound rows hands st → Sound rows hands (hs.foldl (odStep rows) st)
  | [], _, _, S => S
  | h :: hs, m, st, S => sound_pass F hs (fun x hx => m x (List.mem_cons_of_mem _ hx)) _ (sound_step F (m h List.mem_cons_self) S)
theorem sound_loop {rows : Str → List Deed} {hands : List Str} (F : Fit rows hands) : ∀ (f : Nat) (st : Od), Sound rows hands st → Sound rows hands (odLoop rows hands f st)
  | 0, _, S => S
  | f + 1, st, S => by
    unfold odLoop
    have S' := sound_pass F hands (fun _ h => h) st S
    split
    · exact S'
    · exact sound_loop F f _ S'

/-! ### the end: nobody can go on -/
theorem step_grow (rows : Str → List Deed) (st : Od) (h : Str) : st.order.length ≤ (odStep rows st h).order.length := by
  show _ ≤ (st.order ++ _).length
  rw [List.length_append]
  omega
theorem pass_grow (rows : Str → List Deed) : ∀ (hs : List Str) (st : Od), st.order.length ≤ (hs.foldl (odStep rows) st).order.length
  | [], _ => Nat.le_refl _
  | h :: hs, st => Nat.le_trans (step_grow rows st h) (pass_grow rows hs _)
theorem step_same {rows : Str → List Deed} {st : Od} {h : Str} (e : (odStep rows st h).order.length = st.order.length) : odStep rows st h = st ∧ (runL ((rows h).drop (st.done h)) st.told).1 = 0 := by
  have z : (runL ((rows h).drop (st.done h)) st.told).1 = 0 := by
    have e : (st.order ++ List.replicate (runL ((rows h).drop (st.done h)) st.told).1 h).length = st.order.length := e
    rw [List.length_append, List.length_replicate] at e
    omega
  refine ⟨?_, z⟩
  unfold odStep
  rw [runL_zero z, z]
  obtain ⟨d, t, o⟩ := st
  simp only [Nat.add_zero, List.replicate_zero, List.append_nil]
  congr 1
  funext x
  split
  · rename_i q
    rw [q]
  · rfl
theorem pass_same {rows : Str → List Deed} : ∀ (hs : List Str) {st : Od}, (hs.foldl (odStep rows) st).order.length = st.order.length → hs.foldl (odStep rows) st = st ∧ ∀ h ∈ hs, (runL ((rows h).drop (st.done h)) st.told).1 = 0
  | [], _, _ => ⟨rfl, fun _ m => (nomatch m)⟩
  | h :: hs, st, e => by
    have g1 := step_grow rows st h
    have g2 := pass_grow rows hs (odStep rows st h)
    have e : (hs.foldl (odStep rows) (odStep rows st h)).order.length = st.order.length := e
    obtain ⟨s1, z⟩ := step_same (rows := rows) (st := st) (h := h) (by omega)
    rw [s1] at e g2
    obtain ⟨s2, zs⟩ := pass_same hs e
    refine ⟨by show hs.foldl (odStep rows) (odStep rows st h) = st; rw [s1, s2], fun x hx => ?_⟩
    rcases List.mem_cons.mp hx with q | q
    · rw [q]
      exact z
    · exact zs x q

/-! ### how many there are -/
def total (rows : Str → List Deed) (hands : List Str) : Nat := (hands.map fun h => (rows h).length).sum
theorem one_of : ∀ (hands : List Str), hands.Nodup → ∀ x ∈ hands, (hands.map fun h => if h = x then 1 else 0).sum = 1
  | h :: hs, nd, x, m => by
    obtain ⟨n1, n2⟩ := List.nodup_cons.mp nd
    have none : ∀ (l : List Str), x ∉ l → (l.map fun h => if h = x then 1 else 0).sum = 0 := by
      intro l
      induction l with
      | nil => exact fun _ => rfl
      | cons y l ih =>
        intro hn
        rw [List.map_cons, List.sum_cons, if_neg fun z => hn (by rw [z]; exact List.mem_cons_self), ih fun z => hn (List.mem_cons_of_mem _ z)]
    rw [List.map_cons, List.sum_cons]
    by_cases z : h = x
    · rw [if_pos z, none hs (by rw [← z]; exact n1)]
    · rw [if_neg z, one_of hs n2 x ((List.mem_cons.mp m).resolve_left fun y => z y.symm)]
theorem sum_add (f g : Str → Nat) : ∀ (hs : List Str), (hs.map fun h => f h + g h).sum = (hs.map f).sum + (hs.map g).sum
  | [] => rfl
  | h :: hs => by
    rw [List.map_cons, List.map_cons, List.map_cons, List.sum_cons, List.sum_cons, List.sum_cons, sum_add f g hs]
    omega
theorem count_sum {hands : List Str} (nd : hands.Nodup) : ∀ (l : List Str), (∀ x ∈ l, x ∈ hands) → l.length = (hands.map fun h => l.count h).sum
  | [], _ => by
    show 0 = _
    have : ∀ hs : List Str, (hs.map fun h => ([] : List Str).count h).sum = 0 := by
      intro hs
      induction hs with
      | nil => rfl
      | cons h hs ih => rw [List.map_cons, List.sum_cons, ih]; rfl
    exact (this hands).symm
  | x :: l, m => by
    have ih := count_sum nd l fun y hy => m y (List.mem_cons_of_mem _ hy)
    have e : (fun h => (x :: l).count h) = fun h => l.count h + if h = x then 1 else 0 := by
      funext h
      rw [List.count_cons]
      by_cases z : h = x
      · rw [if_pos z, if_pos (by simp [z])]
      · rw [if_neg z, if_neg (by simpa using fun y : x = h => z y.symm)]
    rw [List.length_cons, e, sum_add, one_of hands nd x (m x List.mem_cons_self), ih]
theorem sum_le {f g : Str → Nat} (h : ∀ x, f x ≤ g x) : ∀ (hs : List Str), (hs.map f).sum ≤ (hs.map g).sum
  | [] => Nat.le_refl _
  | x :: hs => by
    rw [List.map_cons, List.map_cons, List.sum_cons, List.sum_cons]
    exact Nat.add_le_add (h x) (sum_le h hs)
theorem sound_length {rows : Str → List Deed} {hands : List Str} (nd : hands.Nodup) {st : Od} (S : Sound rows hands st) : st.order.length = (hands.map st.done).sum := by
  rw [count_sum nd st.order S.ins]
  congr 1
  exact List.map_congr_left fun h _ => S.cnt h
theorem sound_bound {rows : Str → List Deed} {hands : List Str} (nd : hands.Nodup) {st : Od} (S : Sound rows hands st) : st.order.length ≤ total rows hands := by
  rw [sound_length nd S]
  exact sum_le S.le hands
/-- deeds have times: a row's rise, a hearing is later than its telling -/
def Timed (rows : Str → List Deed) (hands : List Str) : Prop := ∃ t : Str → Nat → Nat, (∀ h i j, i < j → j < (rows h).length → t h i < t h j) ∧
  ∀ (h : Str) (l : Int) (j : Nat), h ∈ hands → (rows h)[j]? = some (Deed.hear l) → ∃ h' ∈ hands, ∃ (j' : Nat), (rows h')[j']? = some (Deed.tell l h) ∧ t h' j' < t h j
theorem stuck_done {rows : Str → List Deed} {hands : List Str} (Tm : Timed rows hands) {st : Od} (S : Sound rows hands st) (stuck : ∀ h ∈ hands, (runL ((rows h).drop (st.done h)) st.told).1 = 0) : ∀ h ∈ hands, st.done h = (rows h).length := by
  obtain ⟨t, mono, before⟩ := Tm
  obtain ⟨_, _, W⟩ := S.thr
  have key : ∀ (n : Nat) (h : Str), h ∈ hands → st.done h < (rows h).length → t h (st.done h) = n → False := by
    intro n
    induction n using Nat.strongRecOn with
    | ind n ih =>
      intro h hh lt e
      rcases runL_stop (stuck h hh) with z | ⟨l, r, z, nl⟩
      · have := congrArg List.length z
        rw [List.length_drop, List.length_nil] at this
        omega
      · have e1 : (rows h)[st.done h]? = some (Deed.hear l) := by
          have := congrArg (·[0]?) z
          simpa only [List.getElem?_drop, Nat.add_zero, List.getElem?_cons_zero] using this
        obtain ⟨h', hh', j', e2, lt2⟩ := before h l _ hh e1
        have late : st.done h' ≤ j' := by
          rcases Nat.lt_or_ge j' (st.done h') with y | y
          · exact absurd ((W.mem l).mpr ⟨h', hh', j', h, y, e2⟩) nl
          · exact y
        have jl : j' < (rows h').length := (List.getElem?_eq_some_iff.mp e2).1
        have le2 : t h' (st.done h') ≤ t h' j' := by
          rcases Nat.lt_or_ge (st.done h') j' with y | y
          · exact Nat.le_of_lt (mono h' _ _ y jl)
          · rw [show st.done h' = j' by omega]
            exact Nat.le_refl _
        exact ih (t h' (st.done h')) (by omega) h' hh' (by omega) rfl
  intro h hh
  have := S.le h
  rcases Nat.lt_or_ge (st.done h) (rows h).length with y | y
  · exact (key _ h hh y rfl).elim
  · omega
theorem loop_done {rows : Str → List Deed} {hands : List Str} (nd : hands.Nodup) (F : Fit rows hands) (Tm : Timed rows hands) : ∀ (f : Nat) (st : Od), Sound rows hands st → total rows hands < f + st.order.length → ∀ h ∈ hands, (odLoop rows hands f st).done h = (rows h).length
  | 0, st, S, lt => by
    have := sound_bound nd S
    omega
  | f + 1, st, S, lt => by
    have S' := sound_pass F hands (fun _ h => h) st S
    have g := pass_grow rows hands st
    unfold odLoop
    split
    · rename_i e
      have e : (hands.foldl (odStep rows) st).order.length = st.order.length := e
      obtain ⟨s1, z⟩ := pass_same hands e
      show ∀ h ∈ hands, (hands.foldl (odStep rows) st).done h = _
      rw [s1]
      exact stuck_done Tm S z
    · rename_i e
      refine loop_done nd F Tm f _ S' ?_
      have e : ¬ (hands.foldl (odStep rows) st).order.length = st.order.length := e
      have : (odPass rows hands st).order.length = (hands.foldl (odStep rows) st).order.length := rfl
      omega
/-- the order found, of rows by hands -/
def found (rows : Str → List Deed) (hands : List Str) : Od := odLoop rows hands (total rows hands + 1) Od.zero
theorem found_sound {rows : Str → List Deed} {hands : List Str} (F : Fit rows hands) : Sound rows hands (found rows hands) := sound_loop F _ _ (sound_zero rows hands)
theorem found_done {rows : Str → List Deed} {hands : List Str} (nd : hands.Nodup) (F : Fit rows hands) (Tm : Timed rows hands) : ∀ h ∈ hands, (found rows hands).done h = (rows h).length :=
  loop_done nd F Tm _ _ (sound_zero rows hands) (by show total rows hands < total rows hands + 1 + 0; omega)
theorem found_length {rows : Str → List Deed} {hands : List Str} (nd : hands.Nodup) (F : Fit rows hands) (Tm : Timed rows hands) : (found rows hands).order.length = total rows hands := by
  rw [sound_length nd (found_sound F)]
  unfold total
  congr 1
  exact List.map_congr_left (found_done nd F Tm)

/-! ### sorted names -/
open PyProof.Rows PySem.Spec in
theorem rising_pair : ∀ (l : List Str) (p : Str), risingS p l = true → (∀ x ∈ l, p.cps.toList ≤ x.cps.toList) ∧ l.Pairwise fun a b => a.cps.toList ≤ b.cps.toList
  | [], _, _ => ⟨fun _ m => (nomatch m), List.Pairwise.nil⟩
  | x :: r, p, h => by
    have h : (!ltCps x.cps.toList p.cps.toList && risingS x r) = true := h
    rw [Bool.and_eq_true, ltCps_eq] at h
    obtain ⟨h1, h2⟩ := h
    obtain ⟨a, b⟩ := rising_pair r x h2
    have px : p.cps.toList ≤ x.cps.toList := by simpa using h1
    refine ⟨fun y hy => ?_, List.pairwise_cons.mpr ⟨a, b⟩⟩
    rcases List.mem_cons.mp hy with z | z
    · rw [z]
      exact px
    · exact List.le_trans px (a y z)
open PyProof.Rows PySem.Spec in
theorem sortedS_pair {l : List Str} (h : sortedS l = true) : l.Pairwise fun a b => a.cps.toList ≤ b.cps.toList := by
  cases l with
  | nil => exact List.Pairwise.nil
  | cons x r =>
    obtain ⟨a, b⟩ := rising_pair r x h
    exact List.pairwise_cons.mpr ⟨a, b⟩
open PyProof.Rows PySem.Spec in
theorem sorted_uniq {l m : List Str} (p : l.Perm m) (h1 : sortedS l = true) (h2 : sortedS m = true) : l = m := by
  refine List.Perm.eq_of_pairwise (le := fun a b : Str => a.cps.toList ≤ b.cps.toList) (fun a b _ _ x y => ?_) (sortedS_pair h1) (sortedS_pair h2) p
  have e := List.le_antisymm x y
  obtain ⟨⟨a⟩⟩ := a
  obtain ⟨⟨b⟩⟩ := b
  have e : a = b := e
  rw [e]
theorem putK_same {κ : Type} [DecidableEq κ] {ks : List (κ × V)} {k : κ} {v : V} (h : valV ks k = some v) (y : V) : (putK ks k y).length = ks.length := by
  have q : (ks.any fun kv => decide (kv.1 = k)) = true := by
    rw [valV_any, h]
    rfl
  unfold putK
  rw [if_pos q, List.length_map]
theorem runL_few : ∀ (r : List Deed) (T : List Int), (runL r T).2.length ≤ T.length + (runL r T).1 := fun r T => by
  rw [runL_told, List.length_append]
  have h : (toldR (r.take (runL r T).1)).length ≤ (r.take (runL r T).1).length := List.length_filterMap_le ..
  rw [List.length_take] at h
  omega
def rowsOf (p : Past) (h : Str) : List Deed := (look p h).getD []
theorem rep_flat (h : Str) : ∀ n : Nat, (List.replicate n [V.str h]).flatten = (List.replicate n h).map V.str
  | 0 => rfl
  | n + 1 => by
    rw [List.replicate_succ, List.flatten_cons, rep_flat h n]
    rfl
end L2.Fb

namespace L2.Fb.Law
open PySem PySem.Spec
open PyProof.Rows
section
variable {P : Program} {w : World} {K : PySem.W.Frag} {mg : Str → Option Value} {base : Heap}
theorem sql_off {H H' : Hp} {M b : Addr} {ks : List (Key × V)} {xs : List V} (hM : H M = some (.dK ks)) (off : Off M H H') (h : SqL K H b xs) : SqL K H' b xs := by
  rcases h with (h | ⟨o, h⟩) | h
  · exact .inl (.inl (off _ _ (fun z => by subst z; rw [hM] at h; cases h) h))
  · exact .inl (.inr ⟨o, off _ _ (fun z => by subst z; rw [hM] at h; cases h) h⟩)
  · exact .inr h
theorem sqt_off {H H' : Hp} {M b : Addr} {ks : List (Key × V)} {xs : List V} (hM : H M = some (.dK ks)) (off : Off M H H') (h : SqT K H b xs) : SqT K H' b xs := by
  rcases h with (h | ⟨o, h⟩) | h
  · exact .inl (.inl (off _ _ (fun z => by subst z; rw [hM] at h; cases h) h))
  · exact .inl (.inr ⟨o, off _ _ (fun z => by subst z; rw [hM] at h; cases h) h⟩)
  · exact .inr h
/-! ### _run_on -/
/-- the dict of the letters told -/
def TdAt (T : List Int) (ks : List (Key × V)) : Prop := ks.length ≤ T.length ∧ ∀ l, (valV ks (.inl l)).isSome = decide (l ∈ T)
def sp_run_on (K : PySem.W.Frag) : Sp := fun vs H Q _ => ∃ (b M : Addr) (r : List Deed) (xs : List V) (st : Nat) (T : List Int) (ks : List (Key × V)), vs = [.ref b, .int (st : Int), .ref M] ∧ SqL K H b xs ∧ DaL K H xs (r.map deedD) ∧ st ≤ r.length ∧
  H M = some (.dK ks) ∧ TdAt T ks ∧ T.length + r.length ≤ 50000 ∧
  ∀ H' ks', Off M H H' → H' M = some (.dK ks') → TdAt (runL (r.drop st) T).2 ks' → Q (.int ((st + (runL (r.drop st) T).1 : Nat) : Int)) H'
theorem ok_run_on (D : Dfn K mg "_run_on" s__run_on P__run_on) (T : Txt mg) : Cal P w K mg base CX0 1 "_run_on" s__run_on P__run_on (sp_run_on K) := D.cal fun f fd F => by
  refine F.ok sc__run_on (fun vs H Q E h => ?_) (fun cdv A outer s H vs Q E hr h => ?_)
  · obtain ⟨b, M, r, xs, st, Td, ks, rfl, _⟩ := h
    rfl
  · obtain ⟨b, M, r, xs, st, Td, ks, rfl, sl, dl, hst, hM, td, few, q⟩ := h
    have hu := hu_of hr
    refine ⟨_, (pss_cons (ps_for PassesOwn.never rfl (pi_range2 (by rfl) T.range (pa_cons (pv 1) (pa_cons (pe_callB (call_len_seqK (K := K) rfl) (by rfl) T.len PySem.boot_len (pa_cons (pv 0) pa_nil)) pa_nil))) (pg_name (i := 3) sc__run_on.nd rfl (.inl rfl)) (pss_cons (ps_set (i := 4) sc__run_on.nd rfl (.inl rfl) (pe_ix (ix_listK (K := K) rfl) (pv 0) (pv 3) (fun _ _ => rfl)))
      (pss_cons (ps_if (PW.pt (pw_and (pt_cmpR op_eq (pe_ix (ix_tupK (K := K) rfl) (pv 4) pe_int (fun _ _ => rfl)) pe_str (nomark _)) (pw_and1 (pt_cmp (pc_dnotin hu (pe_ix (ix_tupK (K := K) rfl) (pv 4) pe_int (fun _ _ => rfl)) (pv 2)))))) (pss_one (ps_ret (pv 3))) pss_nil)
      (pss_one (ps_if (pt_cmpR op_eq (pe_ix (ix_tupK (K := K) rfl) (pv 4) pe_int (fun _ _ => rfl)) pe_str (nomark _)) (pss_one (ps_dput hu (pv 2) (pe_ix (ix_tupK (K := K) rfl) (pv 4) pe_int (fun _ _ => rfl)) pe_bl rfl)) pss_nil)))))
      (pss_one (ps_ret (pe_callB (call_len_seqK (K := K) rfl) (by rfl) T.len PySem.boot_len (pa_cons (pv 0) pa_nil))))), ?_⟩
    have lr : xs.length = r.length := by rw [dl.len, List.length_map]
    refine ⟨.int st, rfl, .ref b, rfl, b, _, rfl, .inl sl, st, xs.length, rfl, ⟨by omega, by omega, by omega, by omega⟩, ?_⟩
    have line : 50000 < sizeLine := by decide
    have hn : ((xs.length : Int) - (st : Int)).toNat = r.length - st := by omega
    rw [hn]
    refine for_it walk_range (fun i σ' H' => (∃ y3 y4, σ' = [some (.ref b), some (.int st), some (.ref M), y3, y4]) ∧ Off M H H' ∧ ∃ ks' Ti, H' M = some (.dK ks') ∧ TdAt Ti ks' ∧ Ti.length ≤ Td.length + i ∧
      runL (r.drop st) Td = (i + (runL (r.drop (st + i)) Ti).1, (runL (r.drop (st + i)) Ti).2))
      ⟨⟨none, none, rfl⟩, fun _ _ _ z => z, ks, Td, hM, td, Nat.le_refl _, by simp⟩ (fun _ _ _ _ _ => trivial) ?_ ?_
    · rintro i x σ' H1 H2 hi ⟨⟨y3, y4, rfl⟩, off, ks1, Ti, eM, td1, len1, run⟩ ⟨rfl, rfl⟩
      have ix : st + i < r.length := by omega
      have ed : r[st + i]? = some r[st + i] := List.getElem?_eq_getElem ix
      have ex : xs[st + i]? = some xs[st + i] := List.getElem?_eq_getElem (by omega)
      obtain ⟨d, t, hd, ext, stt⟩ := rows_at dl ex
      have cut : r.drop (st + i) = d :: r.drop (st + (i + 1)) := by
        rw [List.drop_eq_getElem_cons ix]
        rw [ed] at hd
        rw [Option.some.inj hd]
        rfl
      have st1 := sqt_off hM off stt
      have e0 : (st : Int) + ((i : Nat) : Int) = ((st + i : Nat) : Int) := by omega
      rw [cut] at run
      -- deed = row[at]
      refine ⟨.ref b, rfl, .int ((st : Int) + (i : Nat)), rfl, b, _, _, .ref t, rfl, rfl, sql_off hM off sl, at_of e0 (by rw [ex, ext]), ?_⟩
      have le3 : ks1.length < sizeLine := by
        have := td1.1
        omega
      cases d with
      | keep =>
        refine ⟨.ref t, rfl, t, _, 0, _, rfl, rfl, st1, atI_nat (j := 0) rfl, rfl, _, rfl, iteF (iteF ⟨.ref t, rfl, t, _, 0, _, rfl, rfl, st1, atI_nat (j := 0) rfl, rfl, _, rfl, iteF ⟨⟨_, _, rfl⟩, off, ks1, Ti, eM, td1, by omega, ?_⟩⟩)⟩
        rw [run]
        show (i + ((runL (r.drop (st + (i + 1))) Ti).1 + 1), _) = _
        rw [Nat.add_assoc i 1, Nat.add_comm 1]
        rfl
      | tell l h =>
        refine ⟨.ref t, rfl, t, _, 0, _, rfl, rfl, st1, atI_nat (j := 0) rfl, rfl, _, rfl, iteF (iteF ⟨.ref t, rfl, t, _, 0, _, rfl, rfl, st1, atI_nat (j := 0) rfl, rfl, _, rfl, iteT ?_⟩)⟩
        refine ⟨.ref M, rfl, .ref t, rfl, t, _, 1, .int l, rfl, rfl, st1, atI_nat (j := 1) rfl, M, _, rfl, DPut.k (k := Sum.inl l) eM le3, ⟨_, _, rfl⟩, off.trans off_upd, _, Ti ++ [l], upd_same, ⟨?_, fun j => ?_⟩, ?_, ?_⟩
        · have h1 := length_putK ks1 (.inl l : Key) (.bl true)
          have h2 := td1.1
          rw [List.length_append, List.length_singleton]
          omega
        · rw [valV_put]
          by_cases zz : j = l
          · subst zz
            rw [if_pos rfl, decide_eq_true (by simp)]
            rfl
          · rw [if_neg fun y => zz (Sum.inl.inj y), td1.2]
            by_cases yy : j ∈ Ti
            · rw [decide_eq_true yy, decide_eq_true (List.mem_append_left _ yy)]
            · rw [decide_eq_false yy, decide_eq_false fun m => (List.mem_append.mp m).elim yy fun m => zz (List.mem_singleton.mp m)]
        · rw [List.length_append, List.length_singleton]
          omega
        · rw [run]
          show (i + ((runL (r.drop (st + (i + 1))) (Ti ++ [l])).1 + 1), _) = _
          rw [Nat.add_assoc i 1, Nat.add_comm 1]
          rfl
      | hear l =>
        refine ⟨.ref t, rfl, t, _, 0, _, rfl, rfl, st1, atI_nat (j := 0) rfl, rfl, _, rfl, iteT ⟨.ref t, rfl, t, _, 1, .int l, rfl, rfl, st1, atI_nat (j := 1) rfl, .ref M, rfl, M, _, rfl, DGet.k (k := Sum.inl l) eM, _, rfl, ?_⟩⟩
        rw [td1.2]
        by_cases hl : l ∈ Ti
        · rw [decide_eq_true hl]
          refine iteF ⟨.ref t, rfl, t, _, 0, _, rfl, rfl, st1, atI_nat (j := 0) rfl, rfl, _, rfl, iteF ⟨⟨_, _, rfl⟩, off, ks1, Ti, eM, td1, by omega, ?_⟩⟩
          rw [run, show runL (.hear l :: r.drop (st + (i + 1))) Ti = ((runL (r.drop (st + (i + 1))) Ti).1 + 1, (runL (r.drop (st + (i + 1))) Ti).2) from if_pos hl]
          show (i + ((runL (r.drop (st + (i + 1))) Ti).1 + 1), _) = _
          rw [Nat.add_assoc i 1, Nat.add_comm 1]
        · rw [decide_eq_false hl]
          rw [show runL (.hear l :: r.drop (st + (i + 1))) Ti = (0, Ti) from if_neg hl] at run
          refine iteT ⟨.int ((st : Int) + (i : Nat)), rfl, ?_⟩
          have q' := q H2 ks1 off eM (by rw [run]; exact td1)
          rw [run] at q'
          rw [e0]
          exact q'
    · rintro σ' H1 ⟨⟨y3, y4, rfl⟩, off, ks1, Ti, eM, td1, len1, run⟩
      have none0 : r.drop (st + (r.length - st)) = [] := List.drop_eq_nil_of_le (by omega)
      rw [none0] at run
      have run : runL (r.drop st) Td = (r.length - st + 0, Ti) := run
      refine ⟨.ref b, rfl, b, _, rfl, .inl (sql_off hM off sl), ?_⟩
      have q' := q H1 ks1 off eM (by rw [run]; exact td1)
      rw [run] at q'
      have e1 : st + (r.length - st + 0) = xs.length := by omega
      have q' : Q (.int ((st + (r.length - st + 0) : Nat) : Int)) H1 := q'
      rw [e1] at q'
      exact q'

/-! ### _order_found -/
theorem same_of_off {H Hc H' : Hp} {M : Addr} (s : Same H Hc) (off : Off M Hc H') (n : H M = none) : Same H H' := fun b u e => off b u (fun z => by subst z; rw [n] at e; cases e) (s _ _ e)
/-- the search's state: the hands, how far each is, the letters told, the order -/
structure OdAt (H H' : Hp) (h1 h2 h3 h4 : Addr) (ys : List Str) (st : Od) : Prop where
  sm : Same H H'
  hands : H' h1 = some (.lst (ys.map V.str))
  done : ∃ ds, H' h2 = some (.dK ds) ∧ ds.length ≤ 64 ∧ ∀ h ∈ ys, valV ds (.inr h) = some (.int ((st.done h : Nat) : Int))
  told : ∃ ts, H' h3 = some (.dK ts) ∧ TdAt st.told ts
  order : H' h4 = some (.lst (st.order.map V.str))
  few : st.told.length ≤ st.order.length
def sp_order_found (K : PySem.W.Frag) : Sp := fun vs H Q _ => ∃ v p, vs = [v] ∧ Da K H v (pastD p) ∧ (p.map (·.1)).Nodup ∧ p.length < 64 ∧ Fit (rowsOf p) (p.map (·.1)) ∧ total (rowsOf p) (p.map (·.1)) ≤ 20000 ∧
  ∀ ys, ys.Perm (p.map (·.1)) → PyProof.Rows.sortedS ys = true → ∀ H' o, Same H H' → H o = none → H' o = some (.lst ((found (rowsOf p) ys).order.map V.str)) → Q (.ref o) H'
theorem ok_order_found (D : Dfn K mg "_order_found" s__order_found P__order_found) (T : Txt mg) (C__run_on : Cal P w K mg base CX0 1 "_run_on" s__run_on P__run_on (sp_run_on K)) :
    Cal P w K mg base CX0 2 "_order_found" s__order_found P__order_found (sp_order_found K) := D.cal fun f fd F => by
  refine F.ok sc__order_found (fun vs H Q E h => ?_) (fun cdv A outer s H vs Q E hr h => ?_)
  · obtain ⟨v, p, rfl, _⟩ := h
    rfl
  · obtain ⟨v, p, rfl, hd, nd, few, fit, tot, q⟩ := h
    have hu := hu_of hr
    refine ⟨_, (pss_cons (ps_set (i := 1) sc__order_found.nd rfl (.inl rfl) (pe_callB (call_sortedD rfl) (by rfl) T.sorted (by decide +kernel) (pa_cons (pv 0) pa_nil)))
      (pss_cons (ps_setDc (i := 2) (own := [("hand", 6)]) (g := (gName 6)) (by rfl) sc__order_found.nd rfl rfl (in_frame rfl rfl rfl (by decide +kernel)) (pi_listK (K := K) rfl (pv 1)) (blkOk_by (own := [("hand", 6)]) (N := N__order_found) (sc := defScope s__order_found) (by decide +kernel)) (fun _ _ _ _ _ => pg_name (i := 6) sc__order_found.nd rfl (.inl rfl)) (fun _ _ _ _ _ => pts_nil) (fun _ _ _ _ _ => (pv 6)) (fun _ _ _ _ _ => pe_int))
      (pss_cons (ps_set (i := 3) sc__order_found.nd rfl (.inl rfl) pe_dnewK)
      (pss_cons (ps_set (i := 4) sc__order_found.nd rfl (.inl rfl) (pe_lst pa_nil))
      (pss_cons (ps_set (i := 5) sc__order_found.nd rfl (.inl rfl) pe_bl)
      (pss_cons (ps_while PassesOwn.never (pt_val (pv 5)) (pss_cons (ps_set (i := 5) sc__order_found.nd rfl (.inl rfl) pe_bl)
      (pss_one (ps_for PassesOwn.never rfl (pi_listK (K := K) rfl (pv 1)) (pg_name (i := 6) sc__order_found.nd rfl (.inl rfl)) (pss_cons (ps_set (i := 7) sc__order_found.nd rfl (.inl rfl) (pe_callC C__run_on (hr.mono (by decide)) rfl pass0 (pa_cons (pe_dget hu (pv 0) (pv 6) (fun _ _ => rfl)) (pa_cons (pe_dget hu (pv 2) (pv 6) (fun _ _ => rfl)) (pa_cons (pv 3) pa_nil)))))
      (pss_one (ps_if (pt_cmpR op_gt (pv 7) (pe_dget hu (pv 2) (pv 6) (fun _ _ => rfl)) (nomark _)) (pss_cons (ps_expr (pe_bmK (K := K) rfl PySem.F.plainAttrs_list PySem.F.slot_list_extend PySem.F.type_list_extend mt_extend (pv 4) (pa_cons (pe_op op_rep (pe_lst (pa_cons (pv 6) pa_nil)) (pe_op op_sub (pv 7) (pe_dget hu (pv 2) (pv 6) (fun _ _ => rfl)))) pa_nil)))
      (pss_cons (ps_dput hu (pv 2) (pv 6) (pv 7) rfl)
      (pss_one (ps_set (i := 5) sc__order_found.nd rfl (.inl rfl) pe_bl)))) pss_nil)))))))
      (pss_one (ps_ret (pv 4))))))))), ?_⟩
    obtain ⟨a, ks, rfl, rd, dk⟩ := past_at hd
    refine ⟨.ref a, rfl, a, ks, p.map (·.1), rfl, rd, by rw [past_keys dk, List.map_map]; rfl, by rw [List.length_map]; exact few, fun ys h1 perm srt n1 => ?_⟩
    have s1 : Same H (upd H h1 (.lst (ys.map V.str))) := same_new n1
    have ndY : ys.Nodup := perm.nodup_iff.mpr nd
    -- done = {hand: 0 for hand in hands}
    refine ⟨.ref h1, rfl, h1, rfl, ⟨_, .inl (.inl upd_same)⟩, fun h2 n2 => ?_⟩
    have ne21 : h2 ≠ h1 := fun z => by
      subst z
      rw [upd_same] at n2
      cases n2
    generalize eA : upd H h1 (.lst (ys.map V.str)) = HA at n2 s1
    have a1 : HA h1 = some (.lst (ys.map V.str)) := by rw [← eA]; exact upd_same
    refine dc_it walk_list (fun i H' => Same HA H' ∧ ∃ ds, H' h2 = some (.dK ds) ∧ ds.length ≤ i ∧ ∀ h ∈ ys.take i, valV ds (.inr h) = some (.int 0)) ⟨same_new n2, [], upd_same, Nat.zero_le _, by simp⟩ (fun i H' _ pv => .inl (.inl (pv.1 _ _ a1))) ?_ ?_
    · rintro i x H2 H3 hi ⟨sm, ds, eD, len, dn⟩ ⟨rfl, hx⟩
      rw [List.length_map] at hi
      rw [List.getElem?_map, List.getElem?_eq_getElem hi] at hx
      cases Option.some.inj hx
      have line : 4000 < sizeLine := by decide
      have ly : ys.length < 64 := by rw [perm.length_eq, List.length_map]; exact few
      refine ⟨rfl, yes_on ⟨_, rfl, ds, .inr ys[i], rfl, eD, by omega, same_mut sm n2, _, upd_same, ?_, fun h hh => ?_⟩⟩
      · have := length_putK ds (.inr ys[i] : Key) (.int 0)
        omega
      · rw [valV_put]
        by_cases z : h = ys[i]
        · rw [if_pos (by rw [z])]
        · rw [if_neg fun y => z (Sum.inr.inj y)]
          rw [take_snoc (List.getElem?_eq_getElem hi)] at hh
          exact dn h ((List.mem_append.mp hh).resolve_right fun m => z (List.mem_singleton.mp m))
    rintro H2 ⟨sm2, ds, e2, len2, dn2⟩
    rw [List.length_map] at len2
    rw [List.length_map, List.take_length] at dn2
    have b1 := sm2 _ _ a1
    have s2 : Same H H2 := s1.trans sm2
    have n2H : H h2 = Option.none := s1.free n2
    -- told = {}; order = []; came = True
    intro h3 n3
    refine ⟨Nat.zero_le _, fun h4 n4 => ?_⟩
    have ne34 : h4 ≠ h3 := fun z => by
      subst z
      rw [upd_same] at n4
      cases n4
    rw [upd_ne ne34] at n4
    have ne31 : h1 ≠ h3 := ne_of_none b1 n3
    have ne32 : h2 ≠ h3 := ne_of_none e2 n3
    have ne41 : h1 ≠ h4 := ne_of_none b1 n4
    have ne42 : h2 ≠ h4 := ne_of_none e2 n4
    have ly : ys.length < 64 := by rw [perm.length_eq, List.length_map]; exact few
    have n3H : H h3 = Option.none := s2.free n3
    have n4H : H h4 = Option.none := s2.free n4
    have n1H : H h1 = Option.none := n1
    have fitY : Fit (rowsOf p) ys := ⟨fun l h k h' k' j j' m m' => fit.uniq l h k h' k' j j' (perm.mem_iff.mp m) (perm.mem_iff.mp m'), fun h l j m e => by
      obtain ⟨h', m', z⟩ := fit.heard h l j (perm.mem_iff.mp m) e
      exact ⟨h', perm.mem_iff.mpr m', z⟩⟩
    have totY : total (rowsOf p) ys ≤ 20000 := by
      have e : total (rowsOf p) ys = total (rowsOf p) (p.map (·.1)) := (perm.map fun h => (rowsOf p h).length).sum_nat
      omega
    have z0 : OdAt H (upd (upd H2 h3 (.dK [])) h4 (.lst [])) h1 h2 h3 h4 ys Od.zero := by
      refine ⟨fun b u e => ?_, ?_, ⟨ds, ?_, by omega, dn2⟩, ⟨[], ?_, Nat.le_refl _, fun l => by simp [valV_nil, Od.zero]⟩, upd_same, Nat.le_refl _⟩
      · rw [upd_ne (ne_of_none (s2 _ _ e) n4), upd_ne (ne_of_none (s2 _ _ e) n3)]
        exact s2 _ _ e
      · rw [upd_ne ne41, upd_ne ne31]
        exact b1
      · rw [upd_ne ne42, upd_ne ne32]
        exact e2
      · rw [upd_ne ne34.symm, upd_same]
    have goal : ∀ H' st, OdAt H H' h1 h2 h3 h4 ys st → st.order = (found (rowsOf p) ys).order → Q (.ref h4) H' := fun H' st o e => q ys perm srt H' h4 o.sm n4H (by rw [o.order, e])
    refine ⟨fun m σ' H' => ∃ st c y6 y7, σ' = [some (.ref a), some (.ref h1), some (.ref h2), some (.ref h3), some (.ref h4), some (.bl c), y6, y7] ∧ OdAt H H' h1 h2 h3 h4 ys st ∧ Sound (rowsOf p) ys st ∧
      (if c = true then ∃ f, m = f + 1 ∧ total (rowsOf p) ys < f + st.order.length ∧ (odLoop (rowsOf p) ys f st).order = (found (rowsOf p) ys).order else st.order = (found (rowsOf p) ys).order),
      ⟨total (rowsOf p) ys + 2, Od.zero, true, Option.none, Option.none, rfl, z0, sound_zero _ _, iteT ⟨_, rfl, by show _ < _ + 0; omega, rfl⟩⟩, ?_⟩
    rintro m σ' H5 ⟨st, c, y6, y7, rfl, o, S, mc⟩
    refine ⟨.bl c, rfl, c, rfl, ?_⟩
    cases c with
    | false =>
      have mc : st.order = (found (rowsOf p) ys).order := by simpa using mc
      exact iteF ⟨.ref h4, rfl, goal H5 st o mc⟩
    | true =>
    have mc : ∃ f, m = f + 1 ∧ total (rowsOf p) ys < f + st.order.length ∧ (odLoop (rowsOf p) ys f st).order = (found (rowsOf p) ys).order := by simpa using mc
    obtain ⟨f0, rfl, big, res⟩ := mc
    have bnd := sound_bound ndY S
    obtain ⟨f, rfl⟩ : ∃ f, f0 = f + 1 := ⟨f0 - 1, by omega⟩
    refine iteT ⟨_, fun σ2 H6 w => w, ?_⟩
    -- a pass over the hands
    refine ⟨.ref h1, rfl, h1, rfl, ⟨_, .inl (.inl o.hands)⟩, ?_⟩
    refine for_it walk_list (fun i σ' H' => ∃ c y6 y7, σ' = [some (.ref a), some (.ref h1), some (.ref h2), some (.ref h3), some (.ref h4), some (.bl c), y6, y7] ∧ OdAt H H' h1 h2 h3 h4 ys ((ys.take i).foldl (odStep (rowsOf p)) st) ∧ Sound (rowsOf p) ys ((ys.take i).foldl (odStep (rowsOf p)) st) ∧
      c = !decide (((ys.take i).foldl (odStep (rowsOf p)) st).order.length = st.order.length)) ⟨false, y6, y7, rfl, o, S, by simp⟩ (fun i σ' H' _ ⟨_, _, _, _, o, _⟩ => .inl (.inl o.hands)) ?_ ?_
    · rintro i x σ' H6 H7 hi ⟨c, y6, y7, rfl, o, S, ec⟩ ⟨rfl, hx⟩
      rw [List.length_map] at hi
      rw [List.getElem?_map, List.getElem?_eq_getElem hi] at hx
      cases Option.some.inj hx
      generalize eh : ys[i] = hand at *
      have hm : hand ∈ ys := by rw [← eh]; exact List.getElem_mem hi
      have tk : ys.take (i + 1) = ys.take i ++ [hand] := by rw [take_snoc (List.getElem?_eq_getElem hi), eh]
      have nx : (ys.take (i + 1)).foldl (odStep (rowsOf p)) st = odStep (rowsOf p) ((ys.take i).foldl (odStep (rowsOf p)) st) hand := by rw [tk, List.foldl_append]; rfl
      have grow := pass_grow (rowsOf p) (ys.take i) st
      rw [nx]
      generalize (ys.take i).foldl (odStep (rowsOf p)) st = s at *
      have S' := sound_step fitY hm S
      -- the row
      obtain ⟨⟨hd', r⟩, mp, rfl⟩ := List.mem_map.mp (perm.mem_iff.mp hm)
      have lk := look_of nd mp
      have er : rowsOf p hd' = r := by unfold rowsOf; rw [lk]; rfl
      obtain ⟨v', hv', da'⟩ := past_look dk r lk
      obtain ⟨b, xs, rfl, sl, dl⟩ := row_at da'
      obtain ⟨ds6, eD6, len6, dn6⟩ := o.done
      obtain ⟨ts6, eT6, td6⟩ := o.told
      have le6 := S.le hd'
      rw [er] at le6
      have tot1 : r.length ≤ 20000 := by
        have h1 : r.length = (rowsOf p hd').length := by rw [er]
        have h2 : ∀ (l : List Str), hd' ∈ l → (rowsOf p hd').length ≤ total (rowsOf p) l := by
          intro l
          induction l with
          | nil => exact fun m => (nomatch m)
          | cons y l ih =>
            intro m
            show _ ≤ ((y :: l).map _).sum
            rw [List.map_cons, List.sum_cons]
            rcases List.mem_cons.mp m with z | z
            · rw [z]
              omega
            · have := ih z
              unfold total at this
              omega
        have := h2 ys hm
        omega
      have tot2 := sound_bound ndY S
      have fewT := o.few
      refine ⟨.ref a, rfl, .str hd', rfl, a, .ref b, rfl, .inl ⟨ks, .inr hd', rd_same o.sm rd, rfl, hv'.symm⟩, .ref h2, rfl, .str hd', rfl, h2, _, rfl, .inl ⟨ds6, .inr hd', .inl eD6, rfl, (dn6 hd' hm).symm⟩, .ref h3, rfl, ?_⟩
      refine ⟨b, h3, r, xs, s.done hd', s.told, ts6, rfl, o.sm.seq sl, DaL.same o.sm _ dl, le6, eT6, td6, by omega, fun H8 ts8 off8 eT8 td8 => ?_⟩
      have a8 : H8 h1 = some (.lst (ys.map V.str)) := off8 _ _ ne31 o.hands
      have d8 : H8 h2 = some (.dK ds6) := off8 _ _ ne32 eD6
      have o8 : H8 h4 = some (.lst (s.order.map V.str)) := off8 _ _ ne34 o.order
      have sm8 : Same H H8 := same_of_off o.sm off8 n3H
      refine ⟨_, rfl, .ref h2, rfl, .str hd', rfl, h2, _, rfl, .inl ⟨ds6, .inr hd', .inl d8, rfl, (dn6 hd' hm).symm⟩, _, _, rfl, rfl, _, rfl, ?_⟩
      have odDone : ∀ h, (odStep (rowsOf p) s hd').done h = if h = hd' then s.done hd' + (runL (r.drop (s.done hd')) s.told).1 else s.done h := fun h => by show (if h = hd' then s.done hd' + (runL ((rowsOf p hd').drop (s.done hd')) s.told).1 else _) = _; rw [er]
      have odTold : (odStep (rowsOf p) s hd').told = (runL (r.drop (s.done hd')) s.told).2 := by show (runL ((rowsOf p hd').drop (s.done hd')) s.told).2 = _; rw [er]
      have odOrder : (odStep (rowsOf p) s hd').order = s.order ++ List.replicate (runL (r.drop (s.done hd')) s.told).1 hd' := by show s.order ++ List.replicate (runL ((rowsOf p hd').drop (s.done hd')) s.told).1 hd' = _; rw [er]
      have fewR := runL_few (r.drop (s.done hd')) s.told
      generalize hn : (runL (r.drop (s.done hd')) s.told).1 = n at *
      by_cases n0 : n = 0
      · rw [decide_eq_false (show ¬ ((s.done hd' : Nat) : Int) < ((s.done hd' + n : Nat) : Int) by omega)]
        have stay : odStep (rowsOf p) s hd' = s := by
          refine (step_same (rows := rowsOf p) (st := s) (h := hd') ?_).1
          rw [odOrder, n0]
          simp
        refine iteF ⟨c, _, _, rfl, ?_, by rw [stay]; exact S, by rw [stay]; exact ec⟩
        rw [stay]
        rw [runL_zero (by rw [hn, n0])] at td8
        exact ⟨sm8, a8, ⟨ds6, d8, len6, dn6⟩, ⟨ts8, eT8, td8⟩, o8, o.few⟩
      · rw [decide_eq_true (show ((s.done hd' : Nat) : Int) < ((s.done hd' + n : Nat) : Int) by omega)]
        have bnd' := sound_bound ndY S'
        rw [odOrder, List.length_append, List.length_replicate] at bnd'
        have line : 50000 < sizeLine := by decide
        -- order.extend([hand] * (end - done[hand]))
        refine iteT ⟨.ref h4, rfl, .inl ⟨rfl, _, .inl (.inl o8)⟩, .str hd', rfl, (by show 1 ≤ sizeLine; omega), fun h5 n5 => ?_⟩
        have ne52 : h2 ≠ h5 := ne_of_none d8 n5
        refine ⟨_, rfl, .ref h2, rfl, .str hd', rfl, h2, _, rfl, .inl ⟨ds6, .inr hd', .inl (by rw [upd_ne ne52]; exact d8), rfl, (dn6 hd' hm).symm⟩, _, _, rfl, rfl, ?_⟩
        have diff : ((s.done hd' + n : Nat) : Int) - ((s.done hd' : Nat) : Int) = (n : Int) := by omega
        refine ⟨h5, (n : Int), [V.str hd'], rfl, congrArg V.int diff, upd_same, by omega, by omega, by simp; omega, fun h6 n6 => ?_⟩
        have eRep : (List.replicate ((n : Int)).toNat [V.str hd']).flatten = (List.replicate n hd').map V.str := by rw [Int.toNat_natCast, rep_flat]
        rw [eRep]
        have ne56 : h5 ≠ h6 := fun z => by
          subst z
          rw [upd_same] at n6
          cases n6
        have n6' : H8 h6 = Option.none := by rwa [upd_ne ne56.symm] at n6
        have ne54 : h4 ≠ h5 := ne_of_none o8 n5
        have ne64 : h4 ≠ h6 := ne_of_none o8 n6'
        refine ⟨h4, h6, _, _, rfl, rfl, by rw [upd_ne ne64, upd_ne ne54]; exact o8, upd_same, by rw [List.length_map, List.length_map, List.length_replicate]; omega, ?_⟩
        -- done[hand] = end; came = True
        have ne62 : h2 ≠ h6 := ne_of_none d8 n6'
        refine ⟨_, rfl, .ref h2, rfl, .str hd', rfl, h2, _, rfl, DPut.k (k := Sum.inr hd') (by rw [upd_ne ne42, upd_ne ne62, upd_ne ne52]; exact d8) (by omega), ?_⟩
        have ne53 : h3 ≠ h5 := ne_of_none eT8 n5
        have ne63 : h3 ≠ h6 := ne_of_none eT8 n6'
        have ne51 : h1 ≠ h5 := ne_of_none a8 n5
        have ne61 : h1 ≠ h6 := ne_of_none a8 n6'
        refine ⟨true, _, _, rfl, ⟨fun b u e => ?_, ?_, ⟨_, upd_same, ?_, fun h hh => ?_⟩, ⟨ts8, ?_, by rw [odTold]; exact td8⟩, ?_, ?_⟩, S', ?_⟩
        · have nb2 : b ≠ h2 := ne_of_none e n2H
          have nb4 : b ≠ h4 := ne_of_none e n4H
          rw [upd_ne nb2, upd_ne nb4, upd_ne (ne_of_none (sm8 _ _ e) n6'), upd_ne (ne_of_none (sm8 _ _ e) n5)]
          exact sm8 _ _ e
        · rw [upd_ne ne21.symm, upd_ne ne41, upd_ne ne61, upd_ne ne51]
          exact a8
        · rw [putK_same (dn6 hd' hm)]
          exact len6
        · rw [valV_put, odDone]
          by_cases z : h = hd'
          · rw [if_pos (by rw [z]), if_pos z]
          · rw [if_neg fun y => z (Sum.inr.inj y), if_neg z]
            exact dn6 h hh
        · rw [upd_ne ne32.symm, upd_ne ne34.symm, upd_ne ne63, upd_ne ne53]
          exact eT8
        · rw [upd_ne ne42.symm, upd_same, odOrder, List.map_append]
        · rw [odTold, odOrder, List.length_append, List.length_replicate]
          omega
        · rw [odOrder, List.length_append, List.length_replicate, decide_eq_false (by omega)]
          rfl
    · rintro σ' H6 ⟨c, y6, y7, rfl, o, S, ec⟩
      rw [List.length_map, List.take_length] at o S ec
      have e1 : odPass (rowsOf p) ys st = ys.foldl (odStep (rowsOf p)) st := rfl
      have grow := pass_grow (rowsOf p) ys st
      refine ⟨f + 1, by omega, ys.foldl (odStep (rowsOf p)) st, c, y6, y7, rfl, o, S, ?_⟩
      have res' : (if (odPass (rowsOf p) ys st).order.length = st.order.length then odPass (rowsOf p) ys st else odLoop (rowsOf p) ys f (odPass (rowsOf p) ys st)).order = (found (rowsOf p) ys).order := res
      rw [e1] at res'
      by_cases z : (ys.foldl (odStep (rowsOf p)) st).order.length = st.order.length
      · rw [if_pos z] at res'
        rw [ec, decide_eq_true z]
        exact iteF res'
      · rw [if_neg z] at res'
        rw [ec, decide_eq_false z]
        exact iteT ⟨f, rfl, by omega, res'⟩
end
end L2.Fb.Law

namespace L2.Fb.Law
open PySem PySem.Spec
open PyProof.Rows
section
variable {P : Program} {w : World} {K : PySem.W.Frag} {mg : Str → Option Value} {base : Heap}
/-! ### _can_have_come -/
theorem rowsOf_mem {p : Past} (nd : (p.map (·.1)).Nodup) {q : Str × List Deed} (m : q ∈ p) : rowsOf p q.1 = q.2 := by
  unfold rowsOf
  rw [look_of nd m]
  rfl
theorem total_past {p : Past} (nd : (p.map (·.1)).Nodup) : total (rowsOf p) (p.map (·.1)) = (p.map fun q => q.2.length).sum := by
  unfold total
  rw [List.map_map]
  congr 1
  exact List.map_congr_left fun q m => by show (rowsOf p q.1).length = _; rw [rowsOf_mem nd m]
theorem int_sum : ∀ (l : List Nat), (l.map fun n : Nat => (n : Int)).sum = ((l.sum : Nat) : Int)
  | [] => rfl
  | n :: l => by
    rw [List.map_cons, List.sum_cons, List.sum_cons, int_sum l]
    omega
def sp_can_have_come (K : PySem.W.Frag) : Sp := fun vs H Q _ => ∃ v p, vs = [v] ∧ Da K H v (pastD p) ∧ (p.map (·.1)).Nodup ∧ p.length < 64 ∧ Fit (rowsOf p) (p.map (·.1)) ∧ total (rowsOf p) (p.map (·.1)) ≤ 20000 ∧
  ∀ ys, ys.Perm (p.map (·.1)) → PyProof.Rows.sortedS ys = true → ∀ H', Same H H' → Q (.bl (decide ((found (rowsOf p) ys).order.length = total (rowsOf p) (p.map (·.1))))) H'
theorem ok_can_have_come (D : Dfn K mg "_can_have_come" s__can_have_come P__can_have_come) (T : Txt mg) (C__order_found : Cal P w K mg base CX0 2 "_order_found" s__order_found P__order_found (sp_order_found K)) :
    Cal P w K mg base CX0 3 "_can_have_come" s__can_have_come P__can_have_come (sp_can_have_come K) := D.cal fun f fd F => by
  refine F.ok sc__can_have_come (fun vs H Q E h => ?_) (fun cdv A outer s H vs Q E hr h => ?_)
  · obtain ⟨v, p, rfl, _⟩ := h
    rfl
  · obtain ⟨v, p, rfl, hd, nd, few, fit, tot, q⟩ := h
    have hu := hu_of hr
    refine ⟨_, (pss_one (ps_ret (pe_cmpR op_eq (pe_callB (call_len_seqK (K := K) rfl) (by rfl) T.len PySem.boot_len (pa_cons (pe_callC C__order_found (hr.mono (by decide)) rfl pass0 (pa_cons (pv 0) pa_nil)) pa_nil)) (pe_callB (cr_sum rfl) (by rfl) T.sum (by decide +kernel) (pa_cons (pe_lockO (pe_lc (own := [("hand", 1)]) (g := (gName 1)) rfl sc__can_have_come.nd (pi_keys (pv 0)) (blkOk_by (own := [("hand", 1)]) (N := N__can_have_come) (sc := defScope s__can_have_come) (by decide +kernel)) (fun _ _ _ _ _ => pg_name (i := 1) sc__can_have_come.nd rfl (.inl rfl)) (fun _ _ _ _ _ => pts_nil) (fun _ _ _ _ _ => (pe_callB (call_len_seqK (K := K) rfl) (by rfl) T.len PySem.boot_len (pa_cons (pe_dget hu (pv 0) (pv 1) (fun _ _ => rfl)) pa_nil))))) pa_nil)) (nomark _)))), ?_⟩
    refine ⟨v, rfl, v, p, rfl, hd, nd, few, fit, tot, fun ys perm srt H1 o s1 n1 e1 => ?_⟩
    refine ⟨o, _, rfl, .inl (.inl (.inl e1)), ?_⟩
    obtain ⟨a, ks, rfl, rd, dk⟩ := past_at hd
    refine ⟨a, ks, rd_same s1 rd, fun od un H2 L => ⟨.ref a, rfl, a, od, rfl, .inl ⟨ks, L.frz, fun M nM => ?_⟩⟩⟩
    have dk2 := DaK.le L.le _ (DaK.same s1 _ dk)
    refine lc_fm walk_keys p (fun q => some ((q.2.length : Nat) : Int)) (fun t y _ => y = .int t) nM (past_len dk) (by rw [past_len dk]; omega) (fun H' sm => sm _ _ L.frz) (fun _ _ _ _ _ r => r) ?_ ?_
    · rintro i q x H3 H4 hi sm - ⟨rfl, k, v, hk, rfl⟩ KK NN kk -
      obtain ⟨q', hp, rfl, da⟩ := past_ix dk2 i k v hk
      rw [hi] at hp
      cases Option.some.inj hp
      obtain ⟨v', hv', da'⟩ := past_look dk2 q.2 (look_of nd (List.mem_of_getElem? hi))
      obtain ⟨b, xs, rfl, sl, dl⟩ := row_at da'
      have lr : xs.length = q.2.length := by rw [dl.len, List.length_map]
      refine ⟨rfl, yes_go ⟨.ref a, rfl, .str q.1, rfl, a, .ref b, rfl, .inl ⟨ks, .inr q.1, rd_same sm (L.le _ _ (rd_same s1 rd)), rfl, hv'.symm⟩, b, _, rfl, .inl (sm.seq sl), kk _ _ _ rfl (.refl _) (by rw [lr])⟩⟩
    · intro H3 zs sm eM pr
      refine ⟨sm _ _ L.frz, ?_⟩
      have e2 := paired_map pr
      rw [List.filterMap_eq_map'] at e2
      have eM' := (L.new nM eM).2
      refine ⟨M, _, rfl, .inl (.inl (by rw [eM', e2])), rfl, ?_⟩
      rw [eq_num]
      have es : (List.map (fun q : Str × List Deed => ((q.2.length : Nat) : Int)) p).sum = ((total (rowsOf p) (p.map (·.1)) : Nat) : Int) := by
        rw [total_past nd, ← int_sum, List.map_map]
        rfl
      rw [es, List.length_map]
      have q' := q ys perm srt _ (s1.trans (L.same sm))
      have ev : decide ((((found (rowsOf p) ys).order.length : Nat) : Int) = ((total (rowsOf p) (p.map (·.1)) : Nat) : Int)) = decide ((found (rowsOf p) ys).order.length = total (rowsOf p) (p.map (·.1))) := by
        by_cases z : (found (rowsOf p) ys).order.length = total (rowsOf p) (p.map (·.1))
        · rw [decide_eq_true z, decide_eq_true (by omega)]
        · rw [decide_eq_false z, decide_eq_false (by omega)]
      rw [ev]
      exact q'

/-! ### which data are pasts -/
def DeedGood (names : List Str) (hand : Str) : Deed → Prop
  | .keep => True
  | .tell l h => 0 ≤ l ∧ nameOk h = true ∧ h ∈ names ∧ h ≠ hand
  | .hear l => 0 ≤ l
def CanCome (p : Past) : Prop := ∀ ys, ys.Perm (p.map (·.1)) → PyProof.Rows.sortedS ys = true → (found (rowsOf p) ys).order.length = total (rowsOf p) (p.map (·.1))
structure GoodP (p : Past) : Prop where
  some : 1 ≤ p.length
  few : p.length ≤ 40
  nd : (p.map (·.1)).Nodup
  names : ∀ q ∈ p, nameOk q.1 = true
  deeds : ∀ q ∈ p, ∀ x ∈ q.2, DeedGood (p.map (·.1)) q.1 x
  told : (toldP p).Nodup
  heard : HeardOnce p
  come : CanCome p
def PastD (d : PyData) : Prop := ∃ p, d = pastD p ∧ GoodP p
theorem letterD_iff {d : PyData} : letterD d = true ↔ ∃ l, d = .int l ∧ 0 ≤ l := by
  cases d with
  | int i => exact ⟨fun h => ⟨i, rfl, of_decide_eq_true h⟩, fun ⟨l, e, h⟩ => by cases e; exact decide_eq_true h⟩
  | _ => exact ⟨fun h => (nomatch h), fun ⟨l, e, h⟩ => (nomatch e)⟩
section
variable {ks : List (Key × V)} {names : List Str} {hand : Str}
theorem otherD_iff (hk : ∀ x, (valV ks (.inr x)).isSome = decide (x ∈ names)) {d : PyData} : otherD ks hand d = true ↔ ∃ x, d = .str x ∧ nameOk x = true ∧ x ∈ names ∧ x ≠ hand := by
  cases d with
  | str x =>
    show (nameOk x && (valV ks (.inr x)).isSome && !decide (x = hand)) = true ↔ _
    rw [hk]
    simp only [Bool.and_eq_true, decide_eq_true_eq, Bool.not_eq_true', decide_eq_false_iff_not]
    exact ⟨fun h => ⟨x, rfl, h.1.1, h.1.2, h.2⟩, fun ⟨y, e, h1, h2, h3⟩ => by cases e; exact ⟨⟨h1, h2⟩, h3⟩⟩
  | _ => exact ⟨fun h => (nomatch h), fun ⟨x, e, _⟩ => (nomatch e)⟩
theorem deedOk_iff (hk : ∀ x, (valV ks (.inr x)).isSome = decide (x ∈ names)) {e : PyData} : deedOk ks hand e = true ↔ ∃ d, e = deedD d ∧ DeedGood names hand d := by
  constructor
  · intro h
    match e, h with
    | .tuple (.str w :: r), h =>
      have h : (if w = "keep" then decide (r.length = 0) else if w = "hear" then hearOk r else if w = "tell" then tellOk ks hand r else false) = true := h
      by_cases c1 : w = "keep"
      · rw [if_pos c1] at h
        have z : r = [] := List.length_eq_zero_iff.mp (of_decide_eq_true h)
        rw [c1, z]
        exact ⟨.keep, rfl, trivial⟩
      rw [if_neg c1] at h
      by_cases c2 : w = "hear"
      · rw [if_pos c2] at h
        by_cases len : r.length = 1
        · obtain ⟨d, rfl⟩ := len1 len
          obtain ⟨l, rfl, hl⟩ := letterD_iff.mp h
          rw [c2]
          exact ⟨.hear l, rfl, hl⟩
        · rw [hear_no len] at h
          cases h
      rw [if_neg c2] at h
      by_cases c3 : w = "tell"
      · rw [if_pos c3] at h
        by_cases len : r.length = 2
        · obtain ⟨d, d', rfl⟩ := len2 len
          have h : (letterD d && otherD ks hand d') = true := h
          rw [Bool.and_eq_true] at h
          obtain ⟨l, rfl, hl⟩ := letterD_iff.mp h.1
          obtain ⟨x, rfl, hx⟩ := (otherD_iff hk).mp h.2
          rw [c3]
          exact ⟨.tell l x, rfl, hl, hx⟩
        · rw [tell_no len] at h
          cases h
      rw [if_neg c3] at h
      cases h
  · rintro ⟨d, rfl, g⟩
    cases d with
    | keep => rfl
    | tell l h =>
      show (if ("tell" : Str) = "keep" then decide (([.int l, .str h] : List PyData).length = 0) else if ("tell" : Str) = "hear" then hearOk [.int l, .str h] else if ("tell" : Str) = "tell" then tellOk ks hand [.int l, .str h] else false) = true
      rw [if_neg (by decide +kernel), if_neg (by decide +kernel), if_pos rfl]
      show (letterD (.int l) && otherD ks hand (.str h)) = true
      rw [Bool.and_eq_true]
      exact ⟨letterD_iff.mpr ⟨l, rfl, g.1⟩, (otherD_iff hk).mpr ⟨h, rfl, g.2⟩⟩
    | hear l =>
      show (if ("hear" : Str) = "keep" then decide (([.int l] : List PyData).length = 0) else if ("hear" : Str) = "hear" then hearOk [.int l] else if ("hear" : Str) = "tell" then tellOk ks hand [.int l] else false) = true
      rw [if_neg (by decide +kernel), if_pos rfl]
      exact letterD_iff.mpr ⟨l, rfl, g⟩
theorem rowOk_iff (hk : ∀ x, (valV ks (.inr x)).isSome = decide (x ∈ names)) {d : PyData} : rowOk ks hand d = true ↔ ∃ r, d = rowD r ∧ ∀ x ∈ r, DeedGood names hand x := by
  constructor
  · intro h
    match d, h with
    | .list ds, h =>
      have h : ds.all (deedOk ks hand) = true := h
      have : ∃ r : List Deed, ds = r.map deedD ∧ ∀ x ∈ r, DeedGood names hand x := by
        induction ds with
        | nil => exact ⟨[], rfl, fun _ m => (nomatch m)⟩
        | cons e ds ih =>
          rw [List.all_cons, Bool.and_eq_true] at h
          obtain ⟨x, rfl, g⟩ := (deedOk_iff hk).mp h.1
          obtain ⟨r, rfl, gs⟩ := ih h.2 h.2
          exact ⟨x :: r, rfl, fun y m => (List.mem_cons.mp m).elim (fun z => by rw [z]; exact g) (gs y)⟩
      obtain ⟨r, rfl, g⟩ := this
      exact ⟨r, rfl, g⟩
  · rintro ⟨r, rfl, g⟩
    show (r.map deedD).all _ = true
    rw [List.all_map, List.all_eq_true]
    exact fun x m => (deedOk_iff hk).mpr ⟨x, rfl, g x m⟩
end
/-- told once, heard once: the rows fit -/
theorem mem_tells {p : Past} (nd : (p.map (·.1)).Nodup) {l : Int} {k : Str} : (l, k) ∈ tellsP p ↔ ∃ h ∈ p.map (·.1), ∃ (j : Nat), (rowsOf p h)[j]? = some (Deed.tell l k) := by
  unfold tellsP
  rw [List.mem_flatMap]
  constructor
  · rintro ⟨q, m, h⟩
    obtain ⟨d, md, e⟩ := List.mem_filterMap.mp h
    obtain ⟨j, ej⟩ := List.mem_iff_getElem?.mp md
    cases d with
    | tell l' k' =>
      cases e
      exact ⟨q.1, List.mem_map.mpr ⟨q, m, rfl⟩, j, by rw [rowsOf_mem nd m]; exact ej⟩
    | keep => cases e
    | hear _ => cases e
  · rintro ⟨h, m, j, e⟩
    obtain ⟨q, mq, rfl⟩ := List.mem_map.mp m
    rw [rowsOf_mem nd mq] at e
    exact ⟨q, mq, List.mem_filterMap.mpr ⟨_, List.mem_of_getElem? e, rfl⟩⟩
theorem fit_of {p : Past} (nd : (p.map (·.1)).Nodup) (once : (toldP p).Nodup) (ho : HeardOnce p) : Fit (rowsOf p) (p.map (·.1)) := by
  have ndT : ((tellsP p).map (·.1)).Nodup := by rw [tells_fst]; exact once
  refine ⟨fun l h k h' k' j j' m m' e e' => ?_, fun h l j m e => ?_⟩
  · have h1 := lookT_of ndT ((mem_tells nd).mpr ⟨h, m, j, e⟩)
    have h2 := lookT_of ndT ((mem_tells nd).mpr ⟨h', m', j', e'⟩)
    rw [h1] at h2
    exact Option.some.inj h2
  · obtain ⟨q, mq, rfl⟩ := List.mem_map.mp m
    rw [rowsOf_mem nd mq] at e
    have : (l, q.1) ∈ hearsP p := List.mem_flatMap.mpr ⟨q, mq, List.mem_filterMap.mpr ⟨_, List.mem_of_getElem? e, rfl⟩⟩
    exact (mem_tells nd).mp (ho.1 _ this)

/-! ### is_past -/
def rowLen : PyData → Nat | .list ds => ds.length | _ => 0
/-- not too great to be looked at -/
structure SmallKv (kvs : List (PyData × PyData)) : Prop where
  keys : ∀ q ∈ kvs, Sized 50000 q.1
  deeds : ∀ q ∈ kvs, ∀ ds, q.2 = .list ds → ∀ e ∈ ds, Sized2 50000 e
  all : (kvs.map fun q => rowLen q.2).sum ≤ 4000
def SmallD (d : PyData) : Prop := ∀ kvs, d = .dict kvs → SmallKv kvs
theorem DaK.at {H : Hp} : ∀ {ks : List (Key × V)} {ds : List (PyData × PyData)}, DaK K H ks ds → ∀ (i : Nat) (k : Key) (v : V), ks[i]? = some (k, v) → ∃ d, ds[i]? = some (kD k, d) ∧ Da K H v d
  | _, _, .nil, _, _, _, e => by simp at e
  | _, _, .cons h _, 0, k, v, e => by
    cases (Option.some.inj (show some _ = some (k, v) from e))
    exact ⟨_, rfl, h⟩
  | _, _, .cons _ h, i + 1, k, v, e => DaK.at h i k v e
theorem DaK.of {H : Hp} : ∀ {ks : List (Key × V)} {ds : List (PyData × PyData)}, DaK K H ks ds → ∀ (i : Nat) (q : PyData × PyData), ds[i]? = some q → ∃ k v, ks[i]? = some (k, v) ∧ q.1 = kD k ∧ Da K H v q.2
  | _, _, .nil, _, _, e => by simp at e
  | _, _, .cons h _, 0, q, e => by
    cases (Option.some.inj (show some _ = some q from e))
    exact ⟨_, _, rfl, rfl, h⟩
  | _, _, .cons _ h, i + 1, q, e => DaK.of h i q e
theorem kV_da {H : Hp} (k : Key) : Da K H (kV k) (kD k) := by
  cases k with
  | inl i => exact .int i
  | inr x => exact .str x
theorem valV_nodup {κ : Type} [DecidableEq κ] : ∀ {ks : List (κ × V)} (nd : (ks.map (·.1)).Nodup) {i : Nat} {k : κ} {v : V}, ks[i]? = some (k, v) → valV ks k = some v
  | q :: ks, nd, 0, k, v, e => by
    cases (Option.some.inj (show some _ = some (k, v) from e))
    exact valV_pos rfl
  | q :: ks, nd, i + 1, k, v, e => by
    have nd : (q.1 :: ks.map (·.1)).Nodup := nd
    obtain ⟨n1, n2⟩ := List.nodup_cons.mp nd
    have e : ks[i]? = some (k, v) := e
    rw [valV_neg fun z => n1 (by rw [z]; exact List.mem_map.mpr ⟨(k, v), List.mem_of_getElem? e, rfl⟩)]
    exact valV_nodup n2 e
def nameOf : PyData → Str | .str x => x | _ => ""
def keyNames (ks : List (Key × V)) : List Str := ks.filterMap fun q => match q.1 with | .inr x => some x | .inl _ => none
theorem keyNames_has (ks : List (Key × V)) (x : Str) : (valV ks (.inr x)).isSome = decide (x ∈ keyNames ks) := by
  rw [← valV_any]
  by_cases h : x ∈ keyNames ks
  · rw [decide_eq_true h]
    obtain ⟨q, m, e⟩ := List.mem_filterMap.mp h
    refine List.any_eq_true.mpr ⟨q, m, decide_eq_true ?_⟩
    obtain ⟨k, v⟩ := q
    cases k with
    | inl i => cases e
    | inr y =>
      cases e
      rfl
  · rw [decide_eq_false h]
    refine List.any_eq_false.mpr fun q m => ?_
    rw [decide_eq_true_eq]
    exact fun z => h (List.mem_filterMap.mpr ⟨q, m, by rw [z]⟩)
theorem keyNames_past {H : Hp} {p : Past} {ks : List (Key × V)} (h : DaK K H ks (pastKv p)) : keyNames ks = p.map (·.1) := by
  have e := past_keys h
  have : keyNames ks = (ks.map (·.1)).filterMap fun k => match k with | Sum.inr x => some x | Sum.inl _ => none := by
    unfold keyNames
    rw [List.filterMap_map]
    rfl
  rw [this, e, List.filterMap_map]
  show (p.filterMap fun q => some q.1) = _
  rw [List.filterMap_eq_map']
theorem mem_le_sum {α : Type} (f : α → Nat) : ∀ (l : List α) (x : α), x ∈ l → f x ≤ (l.map f).sum
  | y :: l, x, m => by
    rw [List.map_cons, List.sum_cons]
    rcases List.mem_cons.mp m with z | z
    · rw [z]
      omega
    · have := mem_le_sum f l x z
      omega
theorem pastKv_inj : ∀ {p q : Past}, pastKv p = pastKv q → p = q
  | [], [], _ => rfl
  | [], _ :: _, e => by cases e
  | _ :: _, [], e => by cases e
  | (h, r) :: p, (h', r') :: q, e => by
    have e : (PyData.str h, rowD r) :: pastKv p = (PyData.str h', rowD r') :: pastKv q := e
    injection e with e1 e2
    have eh : h = h' := by
      injection e1 with a b
      injection a
    have er : r = r' := by
      injection e1 with a b
      injection b with b
      have inj : ∀ (x y : List Deed), x.map deedD = y.map deedD → x = y := by
        intro x
        induction x with
        | nil => exact fun y z => by cases y with | nil => rfl | cons _ _ => cases z
        | cons d x ih =>
          intro y z
          cases y with
          | nil => cases z
          | cons d' y =>
            rw [List.map_cons, List.map_cons] at z
            injection z with z1 z2
            have : d = d' := by cases d <;> cases d' <;> simp_all [deedD]
            rw [this, ih y z2]
      exact inj r r' b
    rw [eh, er, pastKv_inj e2]
theorem typed_of {ks : List (Key × V)} : ∀ {kvs : List (PyData × PyData)}, (∀ q ∈ kvs, nameD q.1 = true ∧ rowOk ks (nameOf q.1) q.2 = true) → ∃ p : Past, kvs = pastKv p ∧ ∀ q ∈ p, nameOk q.1 = true ∧ ∀ x ∈ q.2, DeedGood (keyNames ks) q.1 x
  | [], _ => ⟨[], rfl, fun _ m => (nomatch m)⟩
  | (k, d) :: kvs, h => by
    obtain ⟨h1, h2⟩ := h _ List.mem_cons_self
    obtain ⟨p, rfl, hp⟩ := typed_of fun q m => h q (List.mem_cons_of_mem _ m)
    obtain ⟨x, rfl⟩ : ∃ x, k = .str x := by cases k <;> first | exact ⟨_, rfl⟩ | cases h1
    obtain ⟨r, rfl, g⟩ := (rowOk_iff (keyNames_has ks)).mp h2
    exact ⟨(x, r) :: p, rfl, fun q m => (List.mem_cons.mp m).elim (fun z => by rw [z]; exact ⟨h1, g⟩) (hp q)⟩
theorem row_lens (p : Past) : (pastKv p).map (fun q => rowLen q.2) = p.map fun q => q.2.length := by
  unfold pastKv
  rw [List.map_map]
  exact List.map_congr_left fun q _ => by show (q.2.map deedD).length = _; rw [List.length_map]
theorem told_le (p : Past) : (toldP p).length ≤ (p.map fun q => q.2.length).sum := by
  induction p with
  | nil => exact Nat.le_refl _
  | cons q p ih =>
    have e : toldP (q :: p) = toldR q.2 ++ toldP p := rfl
    have h : (toldR q.2).length ≤ q.2.length := List.length_filterMap_le ..
    rw [e, List.length_append, List.map_cons, List.sum_cons]
    omega
def sp_is_past (K : PySem.W.Frag) : Sp := fun vs H Q _ => ∃ v d, vs = [v] ∧ Da K H v d ∧ SmallD d ∧ ∀ H' c, Same H H' → (c = true ↔ PastD d) → Q (.bl c) H'
theorem ok_is_past (D : Dfn K mg "is_past" s_is_past P_is_past) (T : Txt mg) (C_is_name : Cal P w K mg base CX0 1 "is_name" s_is_name P_is_name (sp_is_name K)) (C__is_row : Cal P w K mg base CX0 5 "_is_row" s__is_row P__is_row (sp_is_row K))
    (C__told_once : Cal P w K mg base CX0 1 "_told_once" s__told_once P__told_once (sp_told_once K)) (C__heard_once : Cal P w K mg base CX0 2 "_heard_once" s__heard_once P__heard_once (sp_heard_once K))
    (C__can_have_come : Cal P w K mg base CX0 3 "_can_have_come" s__can_have_come P__can_have_come (sp_can_have_come K)) : Cal P w K mg base CX0 6 "is_past" s_is_past P_is_past (sp_is_past K) := D.cal fun f fd F => by
  refine F.ok sc_is_past (fun vs H Q E h => ?_) (fun cdv A outer s H vs Q E hr h => ?_)
  · obtain ⟨v, d, rfl, _⟩ := h
    rfl
  · obtain ⟨v, d, rfl, hd, small, q⟩ := h
    have hu := hu_of hr
    obtain ⟨t40, g_MOST_HANDS⟩ := T.g_MOST_HANDS
    refine ⟨_, (pss_cons (ps_if (PW.pt (pw_or (pt_not (pt_val (pe_callB (call_isiKK (K := K) rfl) (by rfl) T.isinstance (by decide +kernel) (pa_cons (pv 0) (pa_cons (pe_bltn (v := .ty "dict") (by rfl) T.dict (by decide +kernel) rfl) pa_nil))))) (pw_or1 (pt_not (pt_chain op_le op_le pe_int (pe_callB call_lenDN (by rfl) T.len PySem.boot_len (pa_cons (pv 0) pa_nil)) (pe_glob (v := .int 40) rfl g_MOST_HANDS ⟨_, rfl⟩)))))) (pss_one (ps_ret pe_bl)) pss_nil)
      (pss_cons (ps_if (pt_not (pt_val (pe_callB (cr_all rfl) (by rfl) T.all (by decide +kernel) (pa_cons (pe_lockO (pe_lc (own := [("hand", 1)]) (g := (gName 1)) rfl sc_is_past.nd (pi_keys (pv 0)) (blkOk_by (own := [("hand", 1)]) (N := N_is_past) (sc := defScope s_is_past) (by decide +kernel)) (fun _ _ _ _ _ => pg_name (i := 1) sc_is_past.nd rfl (.inl rfl)) (fun _ _ _ _ _ => pts_nil) (fun _ _ _ _ _ => (pe_callC C_is_name (hr.mono (by decide)) rfl pass0 (pa_cons (pv 1) pa_nil))))) pa_nil)))) (pss_one (ps_ret pe_bl)) pss_nil)
      (pss_cons (ps_if (pt_not (pt_val (pe_callB (cr_all rfl) (by rfl) T.all (by decide +kernel) (pa_cons (pe_lockO (pe_lc (own := [("hand", 1)]) (g := (gName 1)) rfl sc_is_past.nd (pi_keys (pv 0)) (blkOk_by (own := [("hand", 1)]) (N := N_is_past) (sc := defScope s_is_past) (by decide +kernel)) (fun _ _ _ _ _ => pg_name (i := 1) sc_is_past.nd rfl (.inl rfl)) (fun _ _ _ _ _ => pts_nil) (fun _ _ _ _ _ => (pe_callC C__is_row (hr.mono (by decide)) rfl pass0 (pa_cons (pv 0) (pa_cons (pv 1) pa_nil)))))) pa_nil)))) (pss_one (ps_ret pe_bl)) pss_nil)
      (pss_one (ps_ret (pe_and (pe_callC C__told_once (hr.mono (by decide)) rfl pass0 (pa_cons (pv 0) pa_nil)) (pe_and (pe_callC C__heard_once (hr.mono (by decide)) rfl pass0 (pa_cons (pv 0) pa_nil)) (pe_one (pe_callC C__can_have_come (hr.mono (by decide)) rfl pass0 (pa_cons (pv 0) pa_nil)))))))))), ?_⟩
    refine ⟨v, rfl, v, .ty "dict", _, _, _, rfl, .ty _, hd.ty, kit_ty (kit_dict d), _, rfl, ?_⟩
    cases e : isDict d with
    | false =>
      refine iteT (iteT (q H false (.refl H) ⟨fun z => (nomatch z), ?_⟩))
      rintro ⟨p, rfl, _⟩
      cases e
    | true =>
    obtain ⟨kvs, rfl⟩ : ∃ kvs, d = .dict kvs := by cases d <;> first | exact ⟨_, rfl⟩ | cases e
    have sm := small kvs rfl
    cases hd with
    | dct rd dk =>
    rename_i a ks
    have kl := dk.len
    have no : ∀ H', Same H H' → ¬ PastD (.dict kvs) → Q (.bl false) H' := fun H' s n => q H' false s ⟨fun z => (nomatch z), fun z => (n z).elim⟩
    refine iteF ⟨.ref a, rfl, a, ks, rfl, rd, fun nd => ⟨1, ks.length, rfl, rfl, _, rfl, ?_⟩⟩
    by_cases h1 : (1 : Int) ≤ ks.length
    · rw [decide_eq_true h1]
      refine iteT ⟨_, 40, rfl, rfl, _, rfl, ?_⟩
      by_cases h40 : (ks.length : Int) ≤ 40
      · rw [decide_eq_true h40]
        refine iteF ?_
        -- all are names
        refine ⟨a, ks, rd, fun od un H1 L => ⟨.ref a, rfl, a, od, rfl, .inl ⟨ks, L.frz, fun M nM => ?_⟩⟩⟩
        have dk1 := DaK.le L.le _ dk
        refine lc_fm walk_keys kvs (fun q => some (nameD q.1)) (fun t y _ => y = .bl t) nM kl (by omega) (fun H' s => s _ _ L.frz) (fun _ _ _ _ _ r => r) ?_ ?_
        · rintro i q x H3 H4 hi s3 - ⟨rfl, k, v, hk, rfl⟩ KK NN kk -
          obtain ⟨d, ed, da⟩ := DaK.at dk1 i k v hk
          rw [hi] at ed
          cases Option.some.inj ed
          exact ⟨rfl, yes_go ⟨_, rfl, kV k, kD k, rfl, kV_da k, sm.keys _ (List.mem_of_getElem? hi), fun H' s' => kk _ _ _ rfl s' rfl⟩⟩
        intro H3 zs s3 eM pr
        have e2 := paired_map pr
        rw [List.filterMap_eq_map'] at e2
        obtain ⟨nM0, eM'⟩ := L.new nM eM
        have u1 := L.same s3
        refine ⟨s3 _ _ L.frz, M, _, rfl, .inl (.inl (by rw [eM', e2])), _, rfl, ?_⟩
        cases b1 : (kvs.map fun q => nameD q.1).all id with
        | false =>
          refine iteT (no _ u1 ?_)
          rintro ⟨p, ep, g⟩
          have ep : kvs = pastKv p := by cases ep; rfl
          subst ep
          have : ((pastKv p).map fun q => nameD q.1).all id = true := by
            rw [List.all_map, List.all_eq_true]
            intro q m
            obtain ⟨q', m', rfl⟩ := List.mem_map.mp m
            exact g.names q' m'
          rw [this] at b1
          cases b1
        | true =>
        rw [List.all_map, List.all_eq_true] at b1
        refine iteF ?_
        generalize hHc : un H3 = Hc at u1
        -- all are rows
        refine ⟨a, ks, rd_same u1 rd, fun od2 un2 H5 L2 => ⟨.ref a, rfl, a, od2, rfl, .inl ⟨ks, L2.frz, fun M2 nM2 => ?_⟩⟩⟩
        have dk5 := DaK.le L2.le _ (DaK.same u1 _ dk)
        refine lc_fm walk_keys kvs (fun q => some (rowOk ks (nameOf q.1) q.2)) (fun t y _ => y = .bl t) nM2 kl (by omega) (fun H' s => s _ _ L2.frz) (fun _ _ _ _ _ r => r) ?_ ?_
        · rintro i q x H6 H7 hi s6 - ⟨rfl, k, v, hk, rfl⟩ KK NN kk -
          obtain ⟨d, ed, da⟩ := DaK.at dk5 i k v hk
          rw [hi] at ed
          cases Option.some.inj ed
          have hm := List.mem_of_getElem? hi
          have hn : nameD (kD k) = true := b1 _ hm
          obtain ⟨x, rfl⟩ : ∃ x, k = .inr x := by cases k <;> first | exact ⟨_, rfl⟩ | cases hn
          refine ⟨rfl, yes_go ⟨.ref a, rfl, .str x, rfl, a, ks, x, v, d, rfl, rd_same s6 (L2.le _ _ (rd_same u1 rd)), valV_nodup nd hk, Da.same s6 d da, fun ds ed => ⟨?_, sm.deeds _ hm ds ed⟩, fun H' s' => kk _ _ _ rfl s' rfl⟩⟩
          have h1 := mem_le_sum (fun q : PyData × PyData => rowLen q.2) kvs _ hm
          have h2 := sm.all
          subst ed
          have h1 : ds.length ≤ _ := h1
          omega
        intro H6 zs2 s6 eM2 pr2
        have e4 := paired_map pr2
        rw [List.filterMap_eq_map'] at e4
        obtain ⟨nM20, eM2'⟩ := L2.new nM2 eM2
        have u2 := u1.trans (L2.same s6)
        refine ⟨s6 _ _ L2.frz, M2, _, rfl, .inl (.inl (by rw [eM2', e4])), _, rfl, ?_⟩
        cases b2 : (kvs.map fun q => rowOk ks (nameOf q.1) q.2).all id with
        | false =>
          refine iteT (no _ u2 ?_)
          rintro ⟨p, ep, g⟩
          have ep : kvs = pastKv p := by cases ep; rfl
          subst ep
          have : ((pastKv p).map fun q => rowOk ks (nameOf q.1) q.2).all id = true := by
            rw [List.all_map, List.all_eq_true]
            intro q m
            obtain ⟨q', m', rfl⟩ := List.mem_map.mp m
            refine (rowOk_iff (keyNames_has ks)).mpr ⟨q'.2, rfl, ?_⟩
            rw [keyNames_past dk]
            exact g.deeds q' m'
          rw [this] at b2
          cases b2
        | true =>
        rw [List.all_map, List.all_eq_true] at b2
        refine iteF ?_
        obtain ⟨p, rfl, typed⟩ := typed_of fun q m => ⟨b1 q m, b2 q m⟩
        rw [keyNames_past dk] at typed
        generalize hHe : un2 H6 = He at u2
        have da := Da.same u2 _ (Da.dct (K := K) rd dk)
        have ndp : (p.map (·.1)).Nodup := by
          rw [past_keys dk] at nd
          exact (List.pairwise_map.mp nd |> fun h => List.pairwise_map.mpr (h.imp fun h z => h (by rw [z])))
        have lp : ks.length = p.length := past_len dk
        have sums := sm.all
        rw [row_lens] at sums
        have tl := told_le p
        have no2 : ∀ H', Same H H' → ¬ GoodP p → Q (.bl false) H' := fun H' s n => no H' s fun ⟨p', e, g⟩ => n (by
          have e : pastKv p = pastKv p' := PyData.dict.inj e
          rw [pastKv_inj e]
          exact g)
        refine ⟨.ref a, rfl, .ref a, p, rfl, da, ndp, by omega, by omega, fun H8 s8 => ⟨_, rfl, ?_⟩⟩
        by_cases c1 : (toldP p).Nodup
        · rw [decide_eq_true c1]
          refine iteT ⟨.ref a, rfl, .ref a, p, rfl, Da.same s8 _ da, ndp, c1, by omega, fun H9 s9 => ⟨_, rfl, ?_⟩⟩
          by_cases c2 : HeardOnce p
          · rw [decide_eq_true c2]
            have tot : total (rowsOf p) (p.map (·.1)) ≤ 20000 := by
              rw [total_past ndp]
              omega
            refine iteT ⟨.ref a, rfl, .ref a, p, rfl, Da.same s9 _ (Da.same s8 _ da), ndp, by omega, fit_of ndp c1 c2, tot, fun ys perm srt H10 s10 => ?_⟩
            refine q H10 _ (u2.trans (s8.trans (s9.trans s10))) ⟨fun h => ⟨p, rfl, by omega, by omega, ndp, fun q m => (typed q m).1, fun q m => (typed q m).2, c1, c2, fun ys' perm' srt' => ?_⟩, fun ⟨p', e, g⟩ => ?_⟩
            · rw [sorted_uniq (perm'.trans perm.symm) srt' srt]
              exact of_decide_eq_true h
            · have e : pastKv p = pastKv p' := PyData.dict.inj e
              have e := pastKv_inj e
              subst e
              exact decide_eq_true (g.come ys perm srt)
          · rw [decide_eq_false c2]
            exact iteF (no2 H9 (u2.trans (s8.trans s9)) fun g => c2 g.heard)
        · rw [decide_eq_false c1]
          exact iteF (no2 H8 (u2.trans s8) fun g => c1 g.told)
      · rw [decide_eq_false h40]
        refine iteT (no H (.refl H) ?_)
        rintro ⟨p, ep, g⟩
        have ep : kvs = pastKv p := by cases ep; rfl
        have := g.few
        rw [kl, ep] at h40
        unfold pastKv at h40
        rw [List.length_map] at h40
        omega
    · rw [decide_eq_false h1]
      refine iteF ⟨_, rfl, iteT (no H (.refl H) ?_)⟩
      rintro ⟨p, ep, g⟩
      have ep : kvs = pastKv p := by cases ep; rfl
      have := g.some
      rw [kl, ep] at h1
      unfold pastKv at h1
      rw [List.length_map] at h1
      omega

/-! ### check_past, order_of: of what is a past -/
theorem small_past {p : Past} (g : GoodP p) (few : (p.map fun q => q.2.length).sum ≤ 4000) : SmallD (pastD p) := by
  have len8 : ∀ x, nameOk x = true → x.length ≤ 50000 := fun x h => by
    unfold nameOk at h
    rw [Bool.and_eq_true, Bool.and_eq_true] at h
    have := of_decide_eq_true h.1.2
    omega
  intro kvs e
  have e : kvs = pastKv p := (PyData.dict.inj e).symm
  subst e
  refine ⟨fun q m x ex => ?_, fun q m ds ed e me => ?_, by rw [row_lens]; exact few⟩
  · obtain ⟨q', m', rfl⟩ := List.mem_map.mp m
    cases ex
    exact len8 _ (g.names q' m')
  · obtain ⟨q', m', rfl⟩ := List.mem_map.mp m
    have ed : ds = q'.2.map deedD := (PyData.list.inj ed).symm
    subst ed
    obtain ⟨x, mx, rfl⟩ := List.mem_map.mp me
    have gx := g.deeds q' m' x mx
    intro es ee y my z ez
    subst ez
    have lt : ∀ w : Str, w = "keep" ∨ w = "tell" ∨ w = "hear" → w.length ≤ 50000 := by
      rintro w (h | h | h) <;> rw [h] <;> decide +kernel
    cases x with
    | keep =>
      cases ee
      cases List.mem_singleton.mp my
      exact lt _ (.inl rfl)
    | tell l h =>
      cases ee
      rcases List.mem_cons.mp my with q | my
      · cases q
        exact lt _ (.inr (.inl rfl))
      rcases List.mem_cons.mp my with q | my
      · cases q
      cases List.mem_singleton.mp my
      exact len8 _ gx.2.1
    | hear l =>
      cases ee
      rcases List.mem_cons.mp my with q | my
      · cases q
        exact lt _ (.inr (.inr rfl))
      cases List.mem_singleton.mp my
def sp_check_past (K : PySem.W.Frag) : Sp := fun vs H Q _ => ∃ v p, vs = [v] ∧ Da K H v (pastD p) ∧ GoodP p ∧ (p.map fun q => q.2.length).sum ≤ 4000 ∧ ∀ H', Same H H' → Q .non H'
theorem ok_check_past (D : Dfn K mg "check_past" s_check_past P_check_past) (C_is_past : Cal P w K mg base CX0 6 "is_past" s_is_past P_is_past (sp_is_past K)) : Cal P w K mg base CX0 7 "check_past" s_check_past P_check_past (sp_check_past K) := D.cal fun f fd F => by
  refine F.ok sc_check_past (fun vs H Q E h => ?_) (fun cdv A outer s H vs Q E hr h => ?_)
  · obtain ⟨v, p, rfl, _⟩ := h
    rfl
  · obtain ⟨v, p, rfl, hd, g, few, q⟩ := h
    refine ⟨_, (pss_one (ps_if (pt_not (pt_val (pe_callC C_is_past (hr.mono (by decide)) rfl pass0 (pa_cons (pv 0) pa_nil)))) (pss_one ps_never) pss_nil)), ?_⟩
    refine ⟨v, rfl, v, pastD p, rfl, hd, small_past g few, fun H1 c s1 hc => ⟨c, rfl, ?_⟩⟩
    rw [hc.mpr ⟨p, rfl, g⟩]
    exact iteF (q H1 s1)
end
end L2.Fb.Law

namespace L2.Fb.Law
open PySem PySem.Spec
open PyProof.Rows
abbrev s__law_pot : Stmt := topS 32
abbrev N__law_pot : List Str := ["script", "k", "cell"]
abbrev P__law_pot : List Str := ["script", "k"]
theorem sc__law_pot : FnScope N__law_pot P__law_pot (defScope s__law_pot) := ⟨rfl, rfl, rfl, by decide +kernel, rfl, by decide +kernel, by decide +kernel⟩
abbrev s__law_dip : Stmt := topS 33
abbrev N__law_dip : List Str := ["pot", "many", "found", "mixed"]
abbrev P__law_dip : List Str := ["pot", "many"]
theorem sc__law_dip : FnScope N__law_dip P__law_dip (defScope s__law_dip) := ⟨rfl, rfl, rfl, by decide +kernel, rfl, by decide +kernel, by decide +kernel⟩
abbrev s__law_names : Stmt := topS 34
abbrev N__law_names : List Str := ["pot", "many", "pool", "sign", "turn"]
abbrev P__law_names : List Str := ["pot", "many"]
theorem sc__law_names : FnScope N__law_names P__law_names (defScope s__law_names) := ⟨rfl, rfl, rfl, by decide +kernel, rfl, by decide +kernel, by decide +kernel⟩
structure TxtL (mg : Str → Option Value) : Prop extends Txt mg where
  max : mg "max" = none
  min : mg "min" = none
  repr : mg "repr" = none
section
variable {P : Program} {w : World} {K : PySem.W.Frag} {mg : Str → Option Value} {base : Heap}
/-! ### the pot -/
/-- a pot at p from which n more may be drawn -/
def PotAt (H : Hp) (p : Addr) (n : Nat) : Prop := ∃ a b c : Int, H p = some (.lst [.int a, .int b, .int c]) ∧ 0 ≤ a ∧ 0 ≤ b ∧ b < 2 ^ 200 ∧ 0 ≤ c ∧ c + n ≤ 1000000
theorem PotAt.off {H H' : Hp} {p : Addr} {n : Nat} (h : PotAt H p n) (e : ∀ u, H p = some u → H' p = some u) : PotAt H' p n := by
  obtain ⟨a, b, c, h1, h2⟩ := h
  exact ⟨a, b, c, e _ h1, h2⟩
theorem PotAt.less {H : Hp} {p : Addr} {n m : Nat} (h : PotAt H p n) (le : m ≤ n) : PotAt H p m := by
  obtain ⟨a, b, c, h1, h2, h3, h4, h5, h6⟩ := h
  exact ⟨a, b, c, h1, h2, h3, h4, h5, by omega⟩
theorem pow18 : (10 : Int) ^ ((18 : Int).toNat) = 1000000000000000000 := by decide +kernel
theorem pow45 : (10 : Int) ^ ((45 : Int).toNat) = 1000000000000000000000000000000000000000000000 := by decide +kernel
theorem pow41 : (10 : Int) ^ ((41 : Int).toNat) = 100000000000000000000000000000000000000000 := by decide +kernel
theorem pow42 : (10 : Int) ^ ((42 : Int).toNat) = 1000000000000000000000000000000000000000000 := by decide +kernel
theorem two200 : (2 : Int) ^ 200 = 1606938044258990275541962092341162602522202993782792835301376 := by decide +kernel
theorem two201 : (2 : Int) ^ 201 = 3213876088517980551083924184682325205044405987565585670602752 := by decide +kernel
theorem fmod_lt {i j : Int} (h : 0 < j) : 0 ≤ i.fmod j ∧ i.fmod j < j := by
  rw [Int.fmod_eq_emod_of_nonneg i (by omega)]
  exact ⟨Int.emod_nonneg i (by omega), Int.emod_lt_of_pos i h⟩
theorem fdiv_nn {i j : Int} (h : 0 ≤ i) (hj : 0 < j) : 0 ≤ i.fdiv j := by
  rw [Int.fdiv_eq_ediv_of_nonneg i (by omega)]
  exact Int.ediv_nonneg h (by omega)
theorem small_pow {i : Int} {n : Nat} {j : Int} (h0 : 0 ≤ i) (h1 : i < 2 ^ n) (hn : 0 < n) (hj : 0 ≤ j) (hz : (n : Int) * j ≤ 1000000) : CPowW i j := by
  refine ⟨hj, n, ?_, hn, hz⟩
  have e : ((2 ^ n : Nat) : Int) = 2 ^ n := by norm_cast
  omega
def sp_pot (K : PySem.W.Frag) : Sp := fun vs H Q _ => ∃ (a : Addr) (ns : List Int) (k : Nat), vs = [.ref a, .int (k : Int)] ∧ SqL K H a (ns.map V.int) ∧ k ≤ 1000 ∧ ∀ H' p, Same H H' → H p = none → PotAt H' p 1000000 → Q (.ref p) H'
theorem ok_pot (D : Dfn K mg "_law_pot" s__law_pot P__law_pot) (T : TxtL mg) : Cal P w K mg base CX0 1 "_law_pot" s__law_pot P__law_pot (sp_pot K) := D.cal fun f fd F => by
  refine F.ok sc__law_pot (fun vs H Q E h => ?_) (fun cdv A outer s H vs Q E hr h => ?_)
  · obtain ⟨a, ns, k, rfl, _⟩ := h
    rfl
  · obtain ⟨a, ns, k, rfl, hS, hk, q⟩ := h
    refine ⟨_, (pss_cons (ps_set (i := 2) sc__law_pot.nd rfl (.inl rfl) pe_int)
      (pss_cons (ps_if (pt_cmpR op_lt (pv 1) (pe_callB (call_len_seqK (K := K) rfl) (by rfl) T.len PySem.boot_len (pa_cons (pv 0) pa_nil)) (nomark _)) (pss_one (ps_set (i := 2) sc__law_pot.nd rfl (.inl rfl) (pe_ix (ix_listK (K := K) rfl) (pv 0) (pv 1) (fun _ _ => rfl)))) pss_nil)
      (pss_one (ps_ret (pe_lst (pa_cons (pe_callB (call_max2 rfl) (by rfl) T.max (by decide +kernel) (pa_cons pe_int (pa_cons (pe_op op_sub (pv 2) (pe_op op_powW pe_int pe_int)) pa_nil))) (pa_cons (pe_op op_add (pe_op op_add (pe_op op_mul (pe_op op_modN (pv 2) (pe_op op_add (pe_op op_powW pe_int pe_int) pe_int)) pe_int) (pe_op op_mul pe_int (pv 1))) pe_int) (pa_cons pe_int pa_nil)))))))), ?_⟩
    have fin : ∀ cell : Int, ∀ p, H p = none → Q (.ref p) (upd H p (.lst [.int (if cell - 10 ^ (18 : Int).toNat > 0 then cell - 10 ^ (18 : Int).toNat else 0), .int (cell.fmod (10 ^ (45 : Int).toNat + 9) * 512 + 5 * k + 1), .int 0])) := by
      intro cell p np
      refine q _ p (same_new np) np ⟨_, _, _, upd_same, ?_, ?_, ?_, by omega, by omega⟩
      · split <;> omega
      · have := fmod_lt (i := cell) (j := 10 ^ (45 : Int).toNat + 9) (by rw [pow45]; omega)
        omega
      · have := fmod_lt (i := cell) (j := 10 ^ (45 : Int).toNat + 9) (by rw [pow45]; omega)
        rw [two200]
        rw [pow45] at this ⊢
        omega
    refine ⟨_, rfl, .ref a, rfl, a, _, rfl, .inl hS, _, _, rfl, rfl, _, rfl, ?_⟩
    have p18 : CPowW 10 18 := small_pow (n := 4) (by omega) (by omega) (by omega) (by omega) (by omega)
    have p45 : CPowW 10 45 := small_pow (n := 4) (by omega) (by omega) (by omega) (by omega) (by omega)
    have j0 : (10 : Int) ^ (45 : Int).toNat + 9 ≠ 0 := by rw [pow45]; omega

    show (if decide ((k : Int) < ((ns.map V.int).length : Int)) = true then _ else _)
    by_cases lt : k < ns.length
    · rw [decide_eq_true (by rw [List.length_map]; omega)]
      refine iteT ?_
      have hx : (ns.map V.int)[k]? = some (.int (ns[k]'lt)) := by rw [List.getElem?_map, List.getElem?_eq_getElem lt]; rfl
      refine ⟨.ref a, rfl, .int k, rfl, a, _, k, _, rfl, rfl, hS, atI_nat (j := k) hx, ?_⟩
      generalize ns[k]'lt = cell
      refine ⟨.int cell, rfl, 10, 18, rfl, rfl, p18, cell, _, rfl, rfl, 0, _, rfl, ?_⟩
      refine ⟨.int cell, rfl, 10, 45, rfl, rfl, p45, _, _, rfl, rfl, _, _, rfl, rfl, j0, _, _, rfl, rfl, .inr ?_, .int k, rfl, 5, k, rfl, rfl, ?_, _, _, rfl, rfl, _, _, rfl, rfl, ?_⟩
      · exact ⟨by omega, by omega⟩
      · exact .inl ⟨by omega, by omega⟩
      · exact ⟨(by show 3 ≤ sizeLine; decide), fun p np => fin cell p np⟩
    · rw [decide_eq_false (by rw [List.length_map]; omega)]
      refine iteF ?_
      refine ⟨.int 0, rfl, 10, 18, rfl, rfl, p18, 0, _, rfl, rfl, 0, _, rfl, ?_⟩
      refine ⟨.int 0, rfl, 10, 45, rfl, rfl, p45, _, _, rfl, rfl, _, _, rfl, rfl, j0, _, _, rfl, rfl, .inr ?_, .int k, rfl, 5, k, rfl, rfl, ?_, _, _, rfl, rfl, _, _, rfl, rfl, ?_⟩
      · exact ⟨by omega, by omega⟩
      · exact .inl ⟨by omega, by omega⟩
      · exact ⟨(by show 3 ≤ sizeLine; decide), fun p np => fin 0 p np⟩
def sp_dip (K : PySem.W.Frag) : Sp := fun vs H Q _ => ∃ (p : Addr) (many : Int) (n : Nat), vs = [.ref p, .int many] ∧ 0 < many ∧ many < 1073741824 ∧ PotAt H p (n + 1) ∧ ∀ H' r, Off p H H' → PotAt H' p n → 0 ≤ r → r < many → Q (.int r) H'
theorem ok_dip (D : Dfn K mg "_law_dip" s__law_dip P__law_dip) (T : TxtL mg) : Cal P w K mg base CX0 1 "_law_dip" s__law_dip P__law_dip (sp_dip K) := D.cal fun f fd F => by
  refine F.ok sc__law_dip (fun vs H Q E h => ?_) (fun cdv A outer s H vs Q E hr h => ?_)
  · obtain ⟨p, many, n, rfl, _⟩ := h
    rfl
  · obtain ⟨p, many, n, rfl, hm, hm2, ⟨a, b, c, e0, ha, hb, hb2, hc, hc2⟩, q⟩ := h
    refine ⟨_, (pss_cons (ps_if (pt_cmpR op_gt (pe_ix (ix_listK (K := K) rfl) (pv 0) pe_int (fun _ _ => rfl)) pe_int (nomark _)) (pss_cons (ps_set (i := 2) sc__law_dip.nd rfl (.inl rfl) (pe_op op_modN (pe_ix (ix_listK (K := K) rfl) (pv 0) pe_int (fun _ _ => rfl)) (pv 1)))
      (pss_cons (ps_asg (pe_op op_fdivN (pe_ix (ix_listK (K := K) rfl) (pv 0) pe_int (fun _ _ => rfl)) (pv 1)) (pg_sub (pv 0) pe_int set_list))
      (pss_one (ps_ret (pv 2))))) pss_nil)
      (pss_cons (ps_asg (pe_op op_add (pe_ix (ix_listK (K := K) rfl) (pv 0) pe_int (fun _ _ => rfl)) pe_int) (pg_sub (pv 0) pe_int set_list))
      (pss_cons (ps_set (i := 3) sc__law_dip.nd rfl (.inl rfl) (pe_op op_modN (pe_op op_powW (pe_op op_add (pe_ix (ix_listK (K := K) rfl) (pv 0) pe_int (fun _ _ => rfl)) (pe_op op_mul pe_int (pe_ix (ix_listK (K := K) rfl) (pv 0) pe_int (fun _ _ => rfl)))) pe_int) (pe_op op_add (pe_op op_powW pe_int pe_int) pe_int)))
      (pss_cons (ps_set (i := 3) sc__law_dip.nd rfl (.inl rfl) (pe_op op_modN (pe_op op_powW (pe_op op_add (pv 3) (pe_op op_mul pe_int (pe_ix (ix_listK (K := K) rfl) (pv 0) pe_int (fun _ _ => rfl)))) pe_int) (pe_op op_add (pe_op op_powW pe_int pe_int) pe_int)))
      (pss_one (ps_ret (pe_op op_modN (pe_op op_fdivN (pv 3) pe_int) (pv 1)))))))), ?_⟩
    have sl : SqL K H p [.int a, .int b, .int c] := .inl (.inl e0)
    have mz : many ≠ 0 := by omega
    refine ⟨.ref p, rfl, p, _, 0, _, rfl, rfl, sl, atI_nat (j := 0) rfl, a, 0, rfl, rfl, _, rfl, ?_⟩
    by_cases z : 0 < a
    · rw [decide_eq_true z]
      refine iteT ⟨.ref p, rfl, p, _, 0, _, rfl, rfl, sl, atI_nat (j := 0) rfl, .int many, rfl, a, many, rfl, rfl, mz, ?_⟩
      refine ⟨.ref p, rfl, p, _, 0, _, rfl, rfl, sl, atI_nat (j := 0) rfl, .int many, rfl, a, many, rfl, rfl, ⟨mz, by omega⟩, ?_⟩
      refine ⟨.ref p, rfl, p, _, 0, _, rfl, rfl, e0, rfl, ?_⟩
      refine ⟨_, rfl, ?_⟩
      obtain ⟨f0, f1⟩ := fmod_lt (i := a) hm
      exact q _ _ off_upd ⟨_, b, c, upd_same, fdiv_nn ha hm, hb, hb2, hc, by omega⟩ f0 f1
    · rw [decide_eq_false z]
      refine iteF ?_
      refine ⟨.ref p, rfl, p, _, 2, _, rfl, rfl, sl, atI_nat (j := 2) rfl, c, 1, rfl, rfl, ?_⟩
      refine ⟨.ref p, rfl, p, _, 2, _, rfl, rfl, e0, rfl, ?_⟩
      have e1 : upd H p (.lst [.int a, .int b, .int (c + 1)]) p = some (.lst [.int a, .int b, .int (c + 1)]) := upd_same
      have sl1 : SqL K (upd H p (.lst [.int a, .int b, .int (c + 1)])) p [.int a, .int b, .int (c + 1)] := .inl (.inl e1)
      have c1 : CMul 701408733 (c + 1) := .inl ⟨by omega, by omega⟩
      have c2 : CMul 512927357 (c + 1) := .inl ⟨by omega, by omega⟩
      have t41 : CPowW 10 41 := small_pow (n := 4) (by omega) (by omega) (by omega) (by omega) (by omega)
      have t42 : CPowW 10 42 := small_pow (n := 4) (by omega) (by omega) (by omega) (by omega) (by omega)
      have n41 : (10 : Int) ^ (41 : Int).toNat + 37 ≠ 0 := by rw [pow41]; omega
      have n42 : (10 : Int) ^ (42 : Int).toNat + 63 ≠ 0 := by rw [pow42]; omega
      have w3 : CPowW (b + 701408733 * (c + 1)) 3 := by
        rw [two200] at hb2
        exact small_pow (n := 201) (by omega) (by rw [two201]; omega) (by omega) (by omega) (by omega)
      refine ⟨.ref p, rfl, p, _, 1, _, rfl, rfl, sl1, atI_nat (j := 1) rfl, .ref p, rfl, p, _, 2, _, rfl, rfl, sl1, atI_nat (j := 2) rfl, _, _, rfl, rfl, c1, _, _, rfl, rfl, _, _, rfl, rfl, w3, _, _, rfl, rfl, t41, _, _, rfl, rfl, _, _, rfl, rfl, n41, ?_⟩
      have bx := fmod_lt (i := (b + 701408733 * (c + 1)) ^ (3 : Int).toNat) (j := 10 ^ (41 : Int).toNat + 37) (by rw [pow41]; omega)
      have w5 : CPowW (((b + 701408733 * (c + 1)) ^ (3 : Int).toNat).fmod (10 ^ (41 : Int).toNat + 37) + 512927357 * (c + 1)) 5 := by
        generalize ((b + 701408733 * (c + 1)) ^ (3 : Int).toNat).fmod (10 ^ (41 : Int).toNat + 37) = x at bx
        rw [pow41] at bx
        exact small_pow (n := 201) (by omega) (by rw [two201]; omega) (by omega) (by omega) (by omega)
      refine ⟨_, rfl, .ref p, rfl, p, _, 2, _, rfl, rfl, sl1, atI_nat (j := 2) rfl, _, _, rfl, rfl, c2, _, _, rfl, rfl, _, _, rfl, rfl, w5, _, _, rfl, rfl, t42, _, _, rfl, rfl, _, _, rfl, rfl, n42, ?_⟩
      refine ⟨_, rfl, _, _, rfl, rfl, ⟨by decide, by decide⟩, .int many, rfl, _, _, rfl, rfl, mz, ?_⟩
      obtain ⟨f0, f1⟩ := fmod_lt (i := (((((b + 701408733 * (c + 1)) ^ (3 : Int).toNat).fmod (10 ^ (41 : Int).toNat + 37) + 512927357 * (c + 1)) ^ (5 : Int).toNat).fmod (10 ^ (42 : Int).toNat + 63)).fdiv 131071) hm
      exact q _ _ off_upd ⟨a, b, _, e1, ha, hb, hb2, by omega, by omega⟩ f0 f1
end
end L2.Fb.Law

namespace L2.Fb.Law
open PySem PySem.Spec
open PyProof.Rows
section
variable {P : Program} {w : World} {K : PySem.W.Frag} {mg : Str → Option Value} {base : Heap}
theorem seqIdx {k n : Nat} (h : k < n) : seqIndex? (k : Int) n = some k := by
  unfold seqIndex?
  simp
  omega
def pool40 : List Str := (["an", "bo", "cy", "di", "a", "ab", "keep", "tell", "hear", "net", "none", "abcdefgh", "abcdefgi"] : List Str) ++ (["zzzzzzzz"] : List Str) ++ (("abcdefghijklmnopqrstuvwxyz" : Str).cps.toList.map fun c => ("h" : Str) ++ ⟨#[c]⟩)
theorem pool_len : pool40.length = 40 := by decide +kernel
theorem pool_ok : pool40.Nodup ∧ ∀ x ∈ pool40, nameOk x = true := by decide +kernel
theorem paired_eq {α β : Type} {f : α → β} : ∀ {xs : List α} {ys : List β}, Paired (fun x y => y = f x) xs ys → ys = xs.map f
  | _, _, .nil => rfl
  | _, _, .cons a b => by rw [a, paired_eq b]; rfl
theorem erase_perm {α : Type} : ∀ {l : List α} {k : Nat} (h : k < l.length), (l[k]'h :: l.eraseIdx k).Perm l
  | a :: l, 0, _ => .refl _
  | a :: l, k + 1, h => (List.Perm.swap ..).trans ((erase_perm (l := l) (k := k) (by simpa using h)).cons a)
theorem erase_map {α β : Type} (f : α → β) : ∀ (l : List α) (k : Nat), (l.map f).eraseIdx k = (l.eraseIdx k).map f
  | [], _ => rfl
  | _ :: _, 0 => rfl
  | a :: l, k + 1 => congrArg (f a :: ·) (erase_map f l k)
def sp_names (K : PySem.W.Frag) : Sp := fun vs H Q _ => ∃ (p : Addr) (many n : Nat), vs = [.ref p, .int (many : Int)] ∧ many ≤ 40 ∧ PotAt H p (n + many) ∧
  ∀ H' l (ns : List Str), Off p H H' → PotAt H' p n → H l = none → H' l = some (.lst (ns.map V.str)) → ns.length = many → ns.Nodup → (∀ x ∈ ns, nameOk x = true) → Q (.ref l) H'
theorem ok_names (D : Dfn K mg "_law_names" s__law_names P__law_names) (T : TxtL mg) (C__law_dip : Cal P w K mg base CX0 1 "_law_dip" s__law_dip P__law_dip (sp_dip K)) : Cal P w K mg base CX0 2 "_law_names" s__law_names P__law_names (sp_names K) := D.cal fun f fd F => by
  refine F.ok sc__law_names (fun vs H Q E h => ?_) (fun cdv A outer s H vs Q E hr h => ?_)
  · obtain ⟨p, many, n, rfl, _⟩ := h
    rfl
  · obtain ⟨p, many, n, rfl, hm, hP, q⟩ := h
    refine ⟨_, (pss_cons (ps_set (i := 2) sc__law_names.nd rfl (.inr rfl) (pe_lst (pa_cons pe_str (pa_cons pe_str (pa_cons pe_str (pa_cons pe_str (pa_cons pe_str (pa_cons pe_str (pa_cons pe_str (pa_cons pe_str (pa_cons pe_str (pa_cons pe_str (pa_cons pe_str (pa_cons pe_str (pa_cons pe_str pa_nil)))))))))))))))
      (pss_cons (ps_set (i := 2) sc__law_names.nd rfl (.inr rfl) (pe_op op_cat (pe_op op_cat (pv 2) (pe_lst (pa_cons pe_str pa_nil))) (pe_lc (own := [("sign", 3)]) (g := (gName 3)) rfl sc__law_names.nd (pi_str pe_str) (blkOk_by (own := [("sign", 3)]) (N := N__law_names) (sc := defScope s__law_names) (by decide +kernel)) (fun _ _ _ _ _ => pg_name (i := 3) sc__law_names.nd rfl (.inl rfl)) (fun _ _ _ _ _ => pts_nil) (fun _ _ _ _ _ => (pe_op op_add_str pe_str (pv 3))))))
      (pss_one (ps_ret (pe_lc (own := [("turn", 4)]) (g := (gName 4)) rfl sc__law_names.nd (pi_range1 (by rfl) T.range (pa_cons (pv 1) pa_nil)) (blkOk_by (own := [("turn", 4)]) (N := N__law_names) (sc := defScope s__law_names) (by decide +kernel)) (fun _ _ _ _ _ => pg_name (i := 4) sc__law_names.nd rfl (.inl rfl)) (fun _ _ _ _ _ => pts_nil) (fun _ _ _ _ _ => (pe_bmK (K := K) rfl PySem.F.plainAttrs_list PySem.F.slot_list_pop PySem.F.type_list_pop mt_popAt (pv 2) (pa_cons (pe_callC C__law_dip (hr.mono (by decide)) rfl pass0 (pa_cons (pv 0) (pa_cons (pe_callB (call_len_seqK (K := K) rfl) (by rfl) T.len PySem.boot_len (pa_cons (pv 2) pa_nil)) pa_nil))) pa_nil)))))))), ?_⟩
    refine ⟨by show 13 ≤ sizeLine; decide, fun a0 n0 => ?_⟩
    refine ⟨.ref a0, rfl, by show 1 ≤ sizeLine; decide, fun a1 n1 => ⟨a0, a1, _, _, rfl, rfl, (same_new n1) _ _ upd_same, upd_same, by show 14 ≤ sizeLine; decide, fun a2 n2 => ?_⟩⟩
    refine ⟨_, rfl, fun D nD => ?_⟩
    refine lc_fm walk_str ("abcdefghijklmnopqrstuvwxyz" : Str).cps.toList (fun c => some (("h" : Str) ++ ⟨#[c]⟩)) (fun x y _ => y = .str x) nD (by decide +kernel) (by decide +kernel) (fun _ _ => trivial) (fun _ _ _ _ _ r => r) ?_ ?_
    · rintro i c y H1 H2 hc sm ⟨zs, eD⟩ ⟨rfl, c', hc', rfl⟩ KK NN k n
      have ec : c' = c := by
        rw [← Array.getElem?_toList, hc] at hc'
        exact (Option.some.inj hc').symm
      subst ec
      refine ⟨rfl, yes_go ⟨_, rfl, _, _, rfl, rfl, by show 2 ≤ sizeLine; decide, k _ _ _ rfl (.refl _) rfl⟩⟩
    · intro H1 ys sm eD pr
      have e1 := paired_eq pr
      rw [List.filterMap_eq_map'] at e1
      refine ⟨a2, D, _, _, rfl, rfl, sm _ _ upd_same, eD, ?_, fun a3 n3 => ?_⟩
      · rw [e1, List.length_map, List.length_map]
        show 14 + 26 ≤ sizeLine
        decide
      have eP : ([V.str "an", V.str "bo", V.str "cy", V.str "di", V.str "a", V.str "ab", V.str "keep", V.str "tell", V.str "hear", V.str "net", V.str "none", V.str "abcdefgh", V.str "abcdefgi"] ++ [V.str "zzzzzzzz"]) ++ ys = pool40.map V.str := by
        rw [e1, pool40, List.map_append]
        rfl
      have s4 : Same H (upd H1 a3 (.lst (pool40.map V.str))) := ((((same_new n0).trans (same_new n1)).trans (same_new n2)).trans sm).trans (same_new n3)
      have f3 : H a3 = none := (((same_new n0).trans (same_new n1)).trans (same_new n2)).trans sm |>.free n3
      have e3 : upd H1 a3 (.lst (pool40.map V.str)) a3 = some (.lst (pool40.map V.str)) := upd_same
      rw [eP]
      generalize upd H1 a3 (.lst (pool40.map V.str)) = H4 at s4 e3
      refine ⟨.int many, rfl, many, rfl, by omega, by omega, fun M nM => ?_⟩
      have fM : H M = none := s4.free nM
      have hP4 : PotAt H4 p (n + many) := hP.off fun u q => s4 _ _ q
      obtain ⟨x0, y0, z0, pe, _⟩ := hP
      have p3 : p ≠ a3 := fun z => by rw [z, f3] at pe; cases pe
      have pM : p ≠ M := fun z => by rw [z, fM] at pe; cases pe
      have a3M : a3 ≠ M := fun z => by rw [z, nM] at e3; cases e3
      refine lc_it walk_range (fun i H' => ∃ made rest : List Str, made.length = i ∧ (made ++ rest).Perm pool40 ∧ H' M = some (.lst (made.map V.str)) ∧ H' a3 = some (.lst (rest.map V.str)) ∧ PotAt H' p (n + (many - i)) ∧ ∀ b u, b ≠ p → H b = some u → H' b = some u) ?_ (fun _ _ _ _ => trivial) ?_ ?_
      · exact ⟨[], pool40, rfl, .refl _, upd_same, by rw [upd_ne a3M]; exact e3, hP4.off fun u q => by rw [upd_ne pM]; exact q, fun b u z q => by rw [upd_ne fun z => by rw [z, fM] at q; cases q]; exact s4 _ _ q⟩
      · rintro i x H' H'' hi ⟨made, rest, ml, perm, eM, eR, pot, off⟩ y
        have lr : rest.length = 40 - i := by
          have := perm.length_eq
          rw [List.length_append, pool_len] at this
          omega
        obtain ⟨rfl, rfl⟩ := y
        refine ⟨rfl, yes_go ⟨.ref a3, rfl, .inl ⟨rfl, _, .inl (.inl eR)⟩, .ref p, rfl, .ref a3, rfl, a3, _, rfl, .inl (.inl (.inl eR)), p, _, n + (many - (i + 1)), rfl, ?_, ?_, ?_, fun H2 r o pot2 r0 r1 => ?_⟩⟩
        · rw [List.length_map]
          omega
        · rw [List.length_map]
          omega
        · exact pot.less (by omega)
        rw [List.length_map] at r1
        obtain ⟨k, rfl⟩ := Int.eq_ofNat_of_zero_le r0
        have hk : k < rest.length := by omega
        have e3' := o _ _ p3.symm eR
        have eM' := o _ _ pM.symm eM
        refine ⟨a3, _, _, k, .str (rest[k]'hk), rfl, rfl, e3', by omega, by omega, by rw [List.length_map]; exact seqIdx hk, by rw [List.getElem?_map, List.getElem?_eq_getElem hk]; rfl, made.map V.str, by rw [upd_ne a3M.symm]; exact eM', ?_, made ++ [rest[k]'hk], rest.eraseIdx k, by rw [List.length_append, ml]; rfl, ?_, ?_, ?_, ?_, ?_⟩
        · rw [List.length_map, ml]
          have : 50000 < sizeLine := by decide
          omega
        · refine .trans ?_ perm
          rw [List.append_assoc]
          exact List.Perm.append_left _ (erase_perm hk)
        · rw [List.map_append]
          exact upd_same
        · rw [upd_ne a3M, upd_same, erase_map]
        · exact pot2.off fun u q => by rw [upd_ne pM, upd_ne p3]; exact q
        · intro b u z q
          rw [upd_ne (fun z => by rw [z, fM] at q; cases q), upd_ne (fun z => by rw [z, f3] at q; cases q)]
          exact o _ _ z (off _ _ z q)
      · rintro H' ⟨made, rest, ml, perm, eM, eR, pot, off⟩
        have nd := perm.nodup_iff.mpr pool_ok.1
        exact q H' M made off (pot.less (by omega)) fM eM ml (List.nodup_append.mp nd).1 fun x m => pool_ok.2 x (perm.mem_iff.mp (List.mem_append_left _ m))
end
end L2.Fb.Law

namespace L2.Fb.Law
open PySem PySem.Spec
open PyProof.Rows
/-! ### a past grown deed by deed -/
def addD : Past → Nat → Deed → Past
  | [], _, _ => []
  | (h, r) :: p, 0, d => (h, r ++ [d]) :: p
  | q :: p, k + 1, d => q :: addD p k d
theorem addD_names : ∀ (p : Past) (k : Nat) (d : Deed), (addD p k d).map (·.1) = p.map (·.1)
  | [], _, _ => rfl
  | (h, r) :: p, 0, d => rfl
  | q :: p, k + 1, d => congrArg (q.1 :: ·) (addD_names p k d)
theorem addD_flat {β : Type} {f : Str × List Deed → List β} {g : Str → Deed → List β} (hf : ∀ h r d, f (h, r ++ [d]) = f (h, r) ++ g h d) : ∀ {p : Past} {k : Nat} {d : Deed} {q : Str × List Deed}, p[k]? = some q → ((addD p k d).flatMap f).Perm (p.flatMap f ++ g q.1 d)
  | [], _, _, _, e => by simp at e
  | (h, r) :: p, 0, d, q, e => by
    cases (Option.some.inj (show some _ = some q from e))
    show (f (h, r ++ [d]) ++ p.flatMap f).Perm (f (h, r) ++ p.flatMap f ++ g h d)
    rw [hf, List.append_assoc, List.append_assoc]
    exact List.Perm.append_left _ List.perm_append_comm
  | x :: p, k + 1, d, q, e => by
    have ih := addD_flat hf (p := p) (k := k) (d := d) (q := q) (show p[k]? = some q from e)
    show (f x ++ (addD p k d).flatMap f).Perm (f x ++ p.flatMap f ++ g q.1 d)
    rw [List.append_assoc]
    exact List.Perm.append_left _ ih
theorem addD_told {p : Past} {k : Nat} {d : Deed} {q : Str × List Deed} (e : p[k]? = some q) : (toldP (addD p k d)).Perm (toldP p ++ (tellL d).toList) :=
  addD_flat (f := fun q => toldR q.2) (g := fun _ d => (tellL d).toList) (fun h r d => by
    show (r ++ [d]).filterMap tellL = r.filterMap tellL ++ _
    rw [List.filterMap_append]
    cases d <;> rfl) e
theorem addD_tells {p : Past} {k : Nat} {d : Deed} {q : Str × List Deed} (e : p[k]? = some q) : (tellsP (addD p k d)).Perm (tellsP p ++ (tellT d).toList) :=
  addD_flat (f := fun q => q.2.filterMap tellT) (g := fun _ d => (tellT d).toList) (fun h r d => by
    show (r ++ [d]).filterMap tellT = r.filterMap tellT ++ _
    rw [List.filterMap_append]
    cases d <;> rfl) e
theorem addD_hears {p : Past} {k : Nat} {d : Deed} {q : Str × List Deed} (e : p[k]? = some q) : (hearsP (addD p k d)).Perm (hearsP p ++ (hearT q.1 d).toList) :=
  addD_flat (f := hearsR) (g := fun h d => (hearT h d).toList) (fun h r d => by
    show (r ++ [d]).filterMap (hearT h) = r.filterMap (hearT h) ++ _
    rw [List.filterMap_append]
    cases d <;> rfl) e
theorem addD_sum : ∀ (p : Past) (k : Nat) (d : Deed), ((addD p k d).map fun q => q.2.length).sum ≤ (p.map fun q => q.2.length).sum + 1
  | [], _, _ => by simp [addD]
  | (h, r) :: p, 0, d => by
    show ((h, r ++ [d]) :: p |>.map fun q => q.2.length).sum ≤ _
    simp only [List.map_cons, List.sum_cons, List.length_append, List.length_singleton]
    omega
  | q :: p, k + 1, d => by
    have := addD_sum p k d
    show (q :: addD p k d |>.map fun q => q.2.length).sum ≤ _
    simp only [List.map_cons, List.sum_cons]
    omega
theorem addD_mem : ∀ {p : Past} {k : Nat} {d : Deed} {q x : Str × List Deed}, p[k]? = some q → x ∈ addD p k d → ∀ y ∈ x.2, (∃ x' ∈ p, x'.1 = x.1 ∧ y ∈ x'.2) ∨ (x.1 = q.1 ∧ y = d)
  | [], _, _, _, _, e, _, _, _ => by simp at e
  | (h, r) :: p, 0, d, q, x, e, m, y, my => by
    cases (Option.some.inj (show some _ = some q from e))
    rcases List.mem_cons.mp m with rfl | m
    · rcases List.mem_append.mp my with a | a
      · exact .inl ⟨(h, r), List.mem_cons_self .., rfl, a⟩
      · exact .inr ⟨rfl, List.mem_singleton.mp a⟩
    · exact .inl ⟨x, List.mem_cons_of_mem _ m, rfl, my⟩
  | z :: p, k + 1, d, q, x, e, m, y, my => by
    rcases List.mem_cons.mp m with xz | m
    · exact .inl ⟨z, List.mem_cons_self .., by rw [xz], by rw [xz] at my; exact my⟩
    · rcases addD_mem (p := p) (k := k) (show p[k]? = some q from e) m y my with ⟨a, b, c⟩ | c
      · exact .inl ⟨a, List.mem_cons_of_mem _ b, c⟩
      · exact .inr c
theorem addD_at : ∀ {p : Past} {k : Nat} {d : Deed} {q : Str × List Deed}, p[k]? = some q → (addD p k d)[k]? = some (q.1, q.2 ++ [d])
  | [], _, _, _, e => by simp at e
  | (h, r) :: p, 0, d, q, e => by
    cases (Option.some.inj (show some _ = some q from e))
    rfl
  | z :: p, k + 1, d, q, e => addD_at (p := p) (k := k) (show p[k]? = some q from e)
theorem addD_ne : ∀ {p : Past} {k i : Nat} {d : Deed}, i ≠ k → (addD p k d)[i]? = p[i]?
  | [], _, _, _, _ => rfl
  | (h, r) :: p, 0, 0, d, e => absurd rfl e
  | (h, r) :: p, 0, i + 1, d, e => rfl
  | z :: p, k + 1, 0, d, e => rfl
  | z :: p, k + 1, i + 1, d, e => addD_ne (p := p) (k := k) (i := i) fun h => e (by rw [h])
theorem addD_rows {p : Past} (nd : (p.map (·.1)).Nodup) {k : Nat} {d : Deed} {q : Str × List Deed} (e : p[k]? = some q) (h : Str) : rowsOf (addD p k d) h = if h = q.1 then rowsOf p h ++ [d] else rowsOf p h := by
  have nd' : ((addD p k d).map (·.1)).Nodup := by rw [addD_names]; exact nd
  by_cases z : h = q.1
  · rw [if_pos z, z]
    have m := List.mem_of_getElem? (addD_at (d := d) e)
    have h1 := rowsOf_mem nd' m
    have h2 := rowsOf_mem nd (List.mem_of_getElem? e)
    rw [h1, h2]
  · rw [if_neg z]
    by_cases mh : h ∈ p.map (·.1)
    · obtain ⟨x, mx, rfl⟩ := List.mem_map.mp mh
      obtain ⟨i, hi⟩ := List.mem_iff_getElem?.mp mx
      have ne : i ≠ k := fun y => by
        rw [y, e] at hi
        cases Option.some.inj hi
        exact z rfl
      have m' : x ∈ addD p k d := List.mem_of_getElem? (by rw [addD_ne ne]; exact hi)
      rw [rowsOf_mem nd' m', rowsOf_mem nd mx]
    · have no : ∀ {p' : Past}, h ∉ p'.map (·.1) → rowsOf p' h = [] := fun {p'} hn => by
        unfold rowsOf look
        have : (p'.find? fun q => decide (q.1 = h)) = none := by
          rw [List.find?_eq_none]
          intro x mx
          simp only [decide_eq_true_eq]
          exact fun y => hn (List.mem_map.mpr ⟨x, mx, y⟩)
        rw [this]
        rfl
      rw [no mh, no (by rw [addD_names]; exact mh)]
/-- what stands after n turns: L tells the letters of turns -/
structure Grow (ns : List Str) (L : Nat → Int) (n : Nat) (pa : Past) (ly : List (Int × Str)) : Prop where
  names : pa.map (·.1) = ns
  deeds : ∀ q ∈ pa, ∀ x ∈ q.2, DeedGood ns q.1 x
  told : (toldP pa).Nodup
  from_ : ∀ l ∈ toldP pa, ∃ j, j < n ∧ l = L j
  lying : (hearsP pa ++ ly).Perm (tellsP pa)
  few : (pa.map fun q => q.2.length).sum ≤ n
  timed : ∃ t : Str → Nat → Nat, (∀ h i, i < (rowsOf pa h).length → t h i < n) ∧ (∀ h i j, i < j → j < (rowsOf pa h).length → t h i < t h j) ∧
    ∀ (h : Str) (l : Int) (j : Nat), h ∈ ns → (rowsOf pa h)[j]? = some (Deed.hear l) → ∃ h' ∈ ns, ∃ (j' : Nat), (rowsOf pa h')[j']? = some (Deed.tell l h) ∧ t h' j' < t h j
variable {ns : List Str} {L : Nat → Int} {n : Nat} {pa : Past} {ly : List (Int × Str)}
theorem Grow.skip (G : Grow ns L n pa ly) : Grow ns L (n + 1) pa ly where
  names := G.names
  deeds := G.deeds
  told := G.told
  from_ := fun l m => let ⟨j, h, e⟩ := G.from_ l m; ⟨j, by omega, e⟩
  lying := G.lying
  few := by have := G.few; omega
  timed := let ⟨t, a, b, c⟩ := G.timed; ⟨t, fun h i q => by have := a h i q; omega, b, c⟩
/-- one deed more, its time n -/
theorem Grow.times (G : Grow ns L n pa ly) (nd : ns.Nodup) {k : Nat} {d : Deed} {q : Str × List Deed} (e : pa[k]? = some q) (hq : ∀ l, d = .hear l → (l, q.1) ∈ tellsP pa) :
    ∃ t : Str → Nat → Nat, (∀ h i, i < (rowsOf (addD pa k d) h).length → t h i < n + 1) ∧ (∀ h i j, i < j → j < (rowsOf (addD pa k d) h).length → t h i < t h j) ∧
    ∀ (h : Str) (l : Int) (j : Nat), h ∈ ns → (rowsOf (addD pa k d) h)[j]? = some (Deed.hear l) → ∃ h' ∈ ns, ∃ (j' : Nat), (rowsOf (addD pa k d) h')[j']? = some (Deed.tell l h) ∧ t h' j' < t h j := by
  obtain ⟨t, a, b, c⟩ := G.timed
  have nd' : (pa.map (·.1)).Nodup := by rw [G.names]; exact nd
  have R := fun h => addD_rows nd' (d := d) e h
  have old : ∀ {h i x}, (rowsOf pa h)[i]? = some x → (rowsOf (addD pa k d) h)[i]? = some x ∧ i < (rowsOf pa h).length := fun {h i x} hx => by
    have lt : i < (rowsOf pa h).length := (List.getElem?_eq_some_iff.mp hx).1
    refine ⟨?_, lt⟩
    rw [R]
    split
    · rw [List.getElem?_append_left lt]
      exact hx
    · exact hx
  refine ⟨fun h i => if i < (rowsOf pa h).length then t h i else n, fun h i q => ?_, fun h i j lt q => ?_, fun h l j m hx => ?_⟩
  · show (if _ then _ else _) < n + 1
    split
    · rename_i z
      have := a h i z
      omega
    · omega
  · show (if _ then _ else _) < (if _ then _ else _)
    have len : (rowsOf (addD pa k d) h).length ≤ (rowsOf pa h).length + 1 := by
      rw [R]
      split <;> simp
    by_cases z : j < (rowsOf pa h).length
    · rw [if_pos z, if_pos (by omega)]
      exact b h i j lt z
    · rw [if_neg z, if_pos (by omega)]
      exact a h i (by omega)
  · by_cases z : j < (rowsOf pa h).length
    · have hx' : (rowsOf pa h)[j]? = some (.hear l) := by
        rw [R] at hx
        by_cases y : h = q.1
        · rw [if_pos y, List.getElem?_append_left z] at hx
          exact hx
        · rw [if_neg y] at hx
          exact hx
      obtain ⟨h', m', j', e', lt⟩ := c h l j m hx'
      obtain ⟨o1, o2⟩ := old e'
      refine ⟨h', m', j', o1, ?_⟩
      show (if _ then _ else _) < (if _ then _ else _)
      rw [if_pos z, if_pos o2]
      exact lt
    · have y : h = q.1 := by
        by_cases y : h = q.1
        · exact y
        · rw [R, if_neg y] at hx
          exact absurd (List.getElem?_eq_some_iff.mp hx).1 z
      rw [R, if_pos y, List.getElem?_append_right (by omega)] at hx
      have dl : d = .hear l := by
        have := List.mem_of_getElem? hx
        exact (List.mem_singleton.mp this).symm
      obtain ⟨h', m', j', e'⟩ := (mem_tells nd').mp (hq l dl)
      obtain ⟨o1, o2⟩ := old e'
      refine ⟨h', by rw [← G.names]; exact m', j', by rw [y]; exact o1, ?_⟩
      show (if _ then _ else _) < (if _ then _ else _)
      rw [if_neg z, if_pos o2]
      exact a h' j' o2
theorem Grow.keep (G : Grow ns L n pa ly) (nd : ns.Nodup) {k : Nat} {q : Str × List Deed} (e : pa[k]? = some q) : Grow ns L (n + 1) (addD pa k .keep) ly where
  names := by rw [addD_names]; exact G.names
  deeds := fun x m y my => (addD_mem e m y my).elim (fun ⟨x', m', e1, m2⟩ => e1 ▸ G.deeds x' m' y m2) fun ⟨_, e2⟩ => by rw [e2]; trivial
  told := ((addD_told e).trans (by rw [show (tellL .keep).toList = [] from rfl, List.append_nil])).nodup_iff.mpr G.told
  from_ := fun l m => by
    have m := (addD_told e).mem_iff.mp m
    rw [show (tellL .keep).toList = [] from rfl, List.append_nil] at m
    obtain ⟨j, h, e⟩ := G.from_ l m
    exact ⟨j, by omega, e⟩
  lying := by
    have h1 := addD_hears (d := .keep) e
    have h2 := addD_tells (d := .keep) e
    rw [show (hearT q.1 .keep).toList = [] from rfl, List.append_nil] at h1
    rw [show (tellT .keep).toList = [] from rfl, List.append_nil] at h2
    exact ((h1.append_right ly).trans G.lying).trans h2.symm
  few := by have := G.few; have := addD_sum pa k .keep; omega
  timed := G.times nd e fun l z => by cases z
theorem Grow.hear (G : Grow ns L n pa ly) (nd : ns.Nodup) {k i : Nat} {l : Int} {q : Str × List Deed} (e : pa[k]? = some q) (hi : i < ly.length) (hl : ly[i]'hi = (l, q.1)) : Grow ns L (n + 1) (addD pa k (.hear l)) (ly.eraseIdx i) := by
  have ml : (l, q.1) ∈ tellsP pa := G.lying.mem_iff.mp (List.mem_append_right _ (by rw [← hl]; exact List.getElem_mem hi))
  have l0 : 0 ≤ l := by
    obtain ⟨x, mx, hx⟩ := List.mem_flatMap.mp ml
    obtain ⟨d, md, ed⟩ := List.mem_filterMap.mp hx
    have g := G.deeds x mx d md
    cases d with
    | keep => cases ed
    | hear _ => cases ed
    | tell l' h' =>
      cases ed
      exact g.1
  refine ⟨by rw [addD_names]; exact G.names, fun x m y my => (addD_mem e m y my).elim (fun ⟨x', m', e1, m2⟩ => e1 ▸ G.deeds x' m' y m2) fun ⟨_, e2⟩ => by rw [e2]; exact l0, ?_, fun l' m => ?_, ?_, by have := G.few; have := addD_sum pa k (.hear l); omega, G.times nd e fun l' z => by cases z; exact ml⟩
  · have h1 := addD_told (d := .hear l) e
    rw [show (tellL (.hear l)).toList = [] from rfl, List.append_nil] at h1
    exact h1.nodup_iff.mpr G.told
  · have h1 := addD_told (d := .hear l) e
    rw [show (tellL (.hear l)).toList = [] from rfl, List.append_nil] at h1
    obtain ⟨j, h, e⟩ := G.from_ l' (h1.mem_iff.mp m)
    exact ⟨j, by omega, e⟩
  · have h1 := addD_hears (d := .hear l) e
    have h2 := addD_tells (d := .hear l) e
    rw [show (tellT (.hear l)).toList = [] from rfl, List.append_nil] at h2
    refine .trans ?_ (G.lying.trans h2.symm)
    refine (h1.append_right _).trans ?_
    rw [List.append_assoc]
    refine List.Perm.append_left _ ?_
    have := erase_perm hi
    rw [hl] at this
    exact this
theorem Grow.tell (G : Grow ns L n pa ly) (nd : ns.Nodup) {k : Nat} {o : Str} {q : Str × List Deed} (e : pa[k]? = some q) (l0 : 0 ≤ L n) (fresh : ∀ j, j < n → L j ≠ L n) (ok : nameOk o = true) (mo : o ∈ ns) (ne : o ≠ q.1) : Grow ns L (n + 1) (addD pa k (.tell (L n) o)) (ly ++ [(L n, o)]) := by
  have h1 := addD_told (d := .tell (L n) o) e
  refine ⟨by rw [addD_names]; exact G.names, fun x m y my => (addD_mem e m y my).elim (fun ⟨x', m', e1, m2⟩ => e1 ▸ G.deeds x' m' y m2) fun ⟨e1, e2⟩ => by rw [e2]; exact ⟨l0, ok, mo, by rw [e1]; exact ne⟩, ?_, fun l' m => ?_, ?_, by have := G.few; have := addD_sum pa k (.tell (L n) o); omega, G.times nd e fun l' z => by cases z⟩
  · refine h1.nodup_iff.mpr ?_
    rw [List.nodup_append]
    refine ⟨G.told, by simp [tellL], fun a ma b mb => ?_⟩
    cases (List.mem_singleton.mp mb)
    obtain ⟨j, lt, e⟩ := G.from_ a ma
    rw [e]
    exact fresh j lt
  · rcases List.mem_append.mp (h1.mem_iff.mp m) with m | m
    · obtain ⟨j, h, e⟩ := G.from_ l' m
      exact ⟨j, by omega, e⟩
    · exact ⟨n, by omega, List.mem_singleton.mp m⟩
  · have h1 := addD_hears (d := .tell (L n) o) e
    have h2 := addD_tells (d := .tell (L n) o) e
    rw [show (hearT q.1 (.tell (L n) o)).toList = [] from rfl, List.append_nil] at h1
    refine .trans ?_ h2.symm
    rw [← List.append_assoc]
    exact List.Perm.append_right _ ((h1.append_right _).trans G.lying)
theorem total_perm (rows : Str → List Deed) {xs ys : List Str} (h : xs.Perm ys) : total rows xs = total rows ys := by
  unfold total
  induction h with
  | nil => rfl
  | cons x _ ih => simp only [List.map_cons, List.sum_cons, ih]
  | swap x y l => simp only [List.map_cons, List.sum_cons]; omega
  | trans _ _ a b => exact a.trans b
theorem Grow.good (G : Grow ns L n pa ly) (nd : ns.Nodup) (some : 1 ≤ ns.length) (few : ns.length ≤ 40) (ok : ∀ x ∈ ns, nameOk x = true) : GoodP pa := by
  have len : pa.length = ns.length := by rw [← G.names, List.length_map]
  have nd' : (pa.map (·.1)).Nodup := by rw [G.names]; exact nd
  have ho : HeardOnce pa := by
    refine ⟨fun x m => G.lying.mem_iff.mp (List.mem_append_left _ m), ?_⟩
    have h1 : ((hearsP pa ++ ly).map (·.1)).Nodup := (G.lying.map _).nodup_iff.mpr (by rw [tells_fst]; exact G.told)
    rw [List.map_append] at h1
    exact (List.nodup_append.mp h1).1
  refine ⟨by omega, by omega, nd', fun q m => ok _ (by rw [← G.names]; exact List.mem_map.mpr ⟨q, m, rfl⟩), by rw [G.names]; exact G.deeds, G.told, ho, fun ys perm srt => ?_⟩
  have F := fit_of nd' G.told ho
  have F' : Fit (rowsOf pa) ys := ⟨fun l h k h' k' j j' m m' => F.1 l h k h' k' j j' (perm.mem_iff.mp m) (perm.mem_iff.mp m'), fun h l j m e => let ⟨a, b, c⟩ := F.2 h l j (perm.mem_iff.mp m) e; ⟨a, perm.mem_iff.mpr b, c⟩⟩
  have T' : Timed (rowsOf pa) ys := by
    obtain ⟨t, a, b, c⟩ := G.timed
    rw [G.names] at perm
    exact ⟨t, b, fun h l j m e => let ⟨x, y, z⟩ := c h l j (perm.mem_iff.mp m) e; ⟨x, perm.mem_iff.mpr y, z⟩⟩
  rw [found_length (perm.nodup_iff.mpr nd') F' T']
  exact total_perm _ perm
theorem Grow.zero (ns : List Str) (L : Nat → Int) : Grow ns L 0 (ns.map fun x => (x, [])) [] := by
  have nil : ∀ {β : Type} (f : Str × List Deed → List β), (∀ x, f (x, []) = []) → (ns.map fun x => ((x, []) : Str × List Deed)).flatMap f = [] := fun f hf => by
    rw [List.flatMap_map]
    exact List.flatMap_eq_nil_iff.mpr fun x _ => hf x
  have nl : toldP (ns.map fun x => (x, [])) = [] := nil _ fun _ => rfl
  have rw0 : ∀ h, rowsOf (ns.map fun x => ((x, []) : Str × List Deed)) h = [] := fun h => by
    unfold rowsOf look
    cases e : (ns.map fun x => ((x, []) : Str × List Deed)).find? fun q => decide (q.1 = h) with
    | none => rfl
    | some q =>
      obtain ⟨x, _, rfl⟩ := List.mem_map.mp (List.mem_of_find?_eq_some e)
      rfl
  refine ⟨?_, fun q m x mx => ?_, ?_, fun l m => ?_, ?_, ?_, fun _ _ => 0, fun h i q => ?_, fun h i j _ q => ?_, fun h l j _ e => ?_⟩
  · rw [List.map_map]
    exact List.map_id _
  · obtain ⟨y, _, rfl⟩ := List.mem_map.mp m
    cases mx
  · rw [nl]; exact .nil
  · rw [nl] at m; cases m
  · rw [show hearsP (ns.map fun x => (x, [])) = [] from nil _ fun _ => rfl, show tellsP (ns.map fun x => (x, [])) = [] from nil _ fun _ => rfl]
    exact .refl _
  · rw [List.map_map]
    have : ∀ (l : List Str), (l.map ((fun q : Str × List Deed => q.2.length) ∘ fun x => (x, []))).sum = 0 := by
      intro l
      induction l with
      | nil => rfl
      | cons a l ih => rw [List.map_cons, List.sum_cons, ih]; rfl
    rw [this]
    omega
  · rw [rw0] at q; cases q
  · rw [rw0] at q; cases q
  · rw [rw0] at e; cases e
end L2.Fb.Law

namespace L2.Fb.Law
open PySem PySem.Spec
open PyProof.Rows
/-! ### rows of one's own, that are changed -/
variable {K : PySem.W.Frag} {H H' : Hp}
def kvN : List Str → List Addr → List (Key × V)
  | x :: xs, b :: bs => (.inr x, .ref b) :: kvN xs bs
  | _, _ => []
/-- each deed a tuple that is tracked -/
inductive AllT (H : Hp) : List V → List Deed → Prop
  | nil : AllT H [] []
  | cons {t : Addr} {xs : List V} {d : Deed} {r : List Deed} : H t = some (.tup (deedV d)) → AllT H xs r → AllT H (.ref t :: xs) (d :: r)
structure RowX (K : PySem.W.Frag) (H : Hp) (xs : List V) (r : List Deed) : Prop where
  dl : DaL K H xs (r.map deedD)
  ex : AllT H xs r
inductive RowsA (K : PySem.W.Frag) (H : Hp) : List Addr → Past → Prop
  | nil : RowsA K H [] []
  | cons {b : Addr} {bs : List Addr} {h : Str} {r : List Deed} {p : Past} {xs : List V} : H b = some (.lst xs) → RowX K H xs r → RowsA K H bs p → RowsA K H (b :: bs) ((h, r) :: p)
structure RowsAt (K : PySem.W.Frag) (H : Hp) (r : Addr) (bs : List Addr) (pa : Past) : Prop where
  dict : H r = some (.dK (kvN (pa.map (·.1)) bs))
  nd : bs.Nodup
  rows : RowsA K H bs pa
theorem kvN_keys : ∀ {ns : List Str} {bs : List Addr}, ns.length = bs.length → (kvN ns bs).map (·.1) = ns.map Sum.inr
  | [], [], _ => rfl
  | x :: ns, b :: bs, h => congrArg (Sum.inr x :: ·) (kvN_keys (by simpa using h))
theorem kvN_at : ∀ {ns : List Str} {bs : List Addr} {k : Nat} {x : Str} {b : Addr}, ns[k]? = some x → bs[k]? = some b → (kvN ns bs)[k]? = some (.inr x, .ref b)
  | [], _, _, _, _, h, _ => by simp at h
  | _ :: _, [], _, _, _, _, h => by simp at h
  | y :: ns, c :: bs, 0, x, b, h, h' => by
    cases (Option.some.inj (show some _ = some x from h))
    cases (Option.some.inj (show some _ = some b from h'))
    rfl
  | y :: ns, c :: bs, k + 1, x, b, h, h' => kvN_at (ns := ns) (bs := bs) (k := k) h h'
theorem kvN_val {ns : List Str} {bs : List Addr} (nd : ns.Nodup) (len : ns.length = bs.length) {k : Nat} {x : Str} {b : Addr} (h : ns[k]? = some x) (h' : bs[k]? = some b) : valV (kvN ns bs) (.inr x) = some (.ref b) :=
  valV_nodup (by rw [kvN_keys len]; exact List.Pairwise.map _ (fun a b h e => h (by injection e)) nd) (kvN_at h h')
theorem mergeK_new : ∀ (ks acc : List (Key × V)), (acc ++ ks |>.map (·.1)).Nodup → mergeK acc ks = acc ++ ks
  | [], acc, _ => (List.append_nil acc).symm
  | (k, v) :: ks, acc, nd => by
    have nin : (acc.any fun kv => decide (kv.1 = k)) = false := by
      rw [List.any_eq_false]
      intro x mx
      simp only [decide_eq_true_eq]
      intro e
      rw [List.map_append, List.nodup_append] at nd
      exact nd.2.2 _ (List.mem_map.mpr ⟨x, mx, rfl⟩) k (List.mem_cons_self ..) e
    show mergeK (putK acc k v) ks = _
    have e : putK acc k v = acc ++ [(k, v)] := by
      unfold putK
      rw [if_neg (by rw [nin]; exact Bool.false_ne_true)]
    rw [e, mergeK_new ks _ (by rw [List.append_assoc]; exact nd), List.append_assoc]
    rfl
theorem mergeK_kvN {ns : List Str} {bs : List Addr} (nd : ns.Nodup) (len : ns.length = bs.length) : mergeK [] (kvN ns bs) = kvN ns bs :=
  mergeK_new _ [] (by rw [List.nil_append, kvN_keys len]; exact List.Pairwise.map _ (fun a b h e => h (by injection e)) nd)
theorem sqt_offl {p t : Addr} {zs ys : List V} (hp : H p = some (.lst zs)) (o : Off p H H') (h : SqT K H t ys) : SqT K H' t ys := by
  rcases h with (h | ⟨od, h⟩) | h
  · exact .inl (.inl (o _ _ (fun z => by rw [z, hp] at h; cases h) h))
  · exact .inl (.inr ⟨od, o _ _ (fun z => by rw [z, hp] at h; cases h) h⟩)
  · exact .inr h
theorem deed_off {p : Addr} {zs : List V} (hp : H p = some (.lst zs)) (o : Off p H H') {v : V} {d : Deed} (h : Da K H v (deedD d)) : Da K H' v (deedD d) := by
  obtain ⟨t, rfl, s⟩ := deed_at h
  exact deed_da (sqt_offl hp o s)
theorem deeds_off {p : Addr} {zs : List V} (hp : H p = some (.lst zs)) (o : Off p H H') : ∀ {xs : List V} {r : List Deed}, DaL K H xs (r.map deedD) → DaL K H' xs (r.map deedD)
  | _, [], h => by cases h; exact .nil
  | _, d :: r, h => by
    have h : DaL K H _ (deedD d :: r.map deedD) := h
    cases h with
    | cons a b => exact .cons (deed_off hp o a) (deeds_off hp o b)
theorem AllT.off {p : Addr} {zs : List V} (hp : H p = some (.lst zs)) (o : Off p H H') : ∀ {xs : List V} {r : List Deed}, AllT H xs r → AllT H' xs r
  | _, _, .nil => .nil
  | _, _, .cons q h => .cons (o _ _ (fun z => by rw [z, hp] at q; cases q) q) (h.off hp o)
theorem AllT.same (o : Same H H') : ∀ {xs : List V} {r : List Deed}, AllT H xs r → AllT H' xs r
  | _, _, .nil => .nil
  | _, _, .cons q h => .cons (o _ _ q) (h.same o)
theorem AllT.snoc {t : Addr} {d : Deed} (e : H t = some (.tup (deedV d))) : ∀ {xs : List V} {r : List Deed}, AllT H xs r → AllT H (xs ++ [.ref t]) (r ++ [d])
  | _, _, .nil => .cons e .nil
  | _, _, .cons q h => .cons q (h.snoc e)
theorem RowX.off {p : Addr} {zs : List V} (hp : H p = some (.lst zs)) (o : Off p H H') {xs : List V} {r : List Deed} (h : RowX K H xs r) : RowX K H' xs r := ⟨deeds_off hp o h.dl, h.ex.off hp o⟩
theorem RowX.same (o : Same H H') {xs : List V} {r : List Deed} (h : RowX K H xs r) : RowX K H' xs r := ⟨DaL.same o _ h.dl, h.ex.same o⟩
theorem daL_snoc : ∀ {xs : List V} {ds : List PyData} {v : V} {d : PyData}, DaL K H xs ds → Da K H v d → DaL K H (xs ++ [v]) (ds ++ [d])
  | _, _, _, _, .nil, h => .cons h .nil
  | _, _, _, _, .cons a b, h => .cons a (daL_snoc b h)
theorem RowsA.len : ∀ {bs : List Addr} {pa : Past}, RowsA K H bs pa → bs.length = pa.length
  | _, _, .nil => rfl
  | _, _, .cons _ _ h => congrArg (· + 1) h.len
theorem RowsA.off {p : Addr} {zs : List V} (hp : H p = some (.lst zs)) (o : Off p H H') : ∀ {bs : List Addr} {pa : Past}, p ∉ bs → RowsA K H bs pa → RowsA K H' bs pa
  | _, _, _, .nil => .nil
  | _, _, n, .cons a b h => .cons (o _ _ (fun z => n (by rw [z]; exact List.mem_cons_self ..)) a) (b.off hp o) (RowsA.off hp o (fun m => n (List.mem_cons_of_mem _ m)) h)
theorem RowsA.same (o : Same H H') : ∀ {bs : List Addr} {pa : Past}, RowsA K H bs pa → RowsA K H' bs pa
  | _, _, .nil => .nil
  | _, _, .cons a b h => .cons (o _ _ a) (b.same o) (h.same o)
theorem RowsA.get : ∀ {bs : List Addr} {pa : Past}, RowsA K H bs pa → ∀ {k : Nat} {q : Str × List Deed}, pa[k]? = some q → ∃ b xs, bs[k]? = some b ∧ H b = some (.lst xs) ∧ RowX K H xs q.2
  | _, _, .nil, _, _, e => by simp at e
  | _, _, .cons a b h, 0, q, e => by
    cases (Option.some.inj (show some _ = some q from e))
    exact ⟨_, _, rfl, a, b⟩
  | _, _, .cons a b h, k + 1, q, e => h.get (k := k) e
theorem RowsA.add {d : Deed} {v : V} : ∀ {bs : List Addr} {pa : Past}, RowsA K H bs pa → bs.Nodup → ∀ {k : Nat} {b : Addr} {xs : List V}, bs[k]? = some b → H b = some (.lst xs) → Off b H H' → H' b = some (.lst (xs ++ [v])) → (∃ t, v = .ref t ∧ H' t = some (.tup (deedV d))) → RowsA K H' bs (addD pa k d)
  | _, _, .nil, _, _, _, _, e, _, _, _, _ => by simp at e
  | _, _, .cons a c h, nd, 0, b, xs, e, hb, o, hb', hv => by
    cases (Option.some.inj (show some _ = some b from e))
    rw [a] at hb
    cases hb
    obtain ⟨t, rfl, ht⟩ := hv
    refine .cons hb' ⟨?_, (c.ex.off a o).snoc ht⟩ (RowsA.off a o (List.nodup_cons.mp nd).1 h)
    rw [List.map_append]
    exact daL_snoc (deeds_off a o c.dl) (deed_da (.inl (.inl ht)))
  | _, _, .cons a c h, nd, k + 1, b, xs, e, hb, o, hb', hv => by
    have e : _ = some b := e
    refine .cons (o _ _ (fun z => (List.nodup_cons.mp nd).1 (by rw [z]; exact List.mem_of_getElem? e)) a) (c.off hb o) (RowsA.add h (List.nodup_cons.mp nd).2 (k := k) e hb o hb' hv)
theorem RowsA.daK : ∀ {bs : List Addr} {pa : Past}, RowsA K H bs pa → DaK K H (kvN (pa.map (·.1)) bs) (pastKv pa)
  | _, _, .nil => .nil
  | _, _, .cons a b h => .cons (k := .inr _) (.lst (.inl (.inl a)) b.dl) h.daK
theorem RowsAt.da {r : Addr} {bs : List Addr} {pa : Past} (h : RowsAt K H r bs pa) : Da K H (.ref r) (pastD pa) := .dct (.inl h.dict) h.rows.daK
theorem RowsAt.same (o : Same H H') {r : Addr} {bs : List Addr} {pa : Past} (h : RowsAt K H r bs pa) : RowsAt K H' r bs pa := ⟨o _ _ h.dict, h.nd, h.rows.same o⟩
theorem RowsAt.off {p : Addr} {zs : List V} (hp : H p = some (.lst zs)) (o : Off p H H') {r : Addr} {bs : List Addr} {pa : Past} (n : p ∉ bs) (h : RowsAt K H r bs pa) : RowsAt K H' r bs pa :=
  ⟨o _ _ (fun z => by have := h.dict; rw [z, hp] at this; cases this) h.dict, h.nd, h.rows.off hp o n⟩
theorem RowsAt.add {d : Deed} {v : V} {r : Addr} {bs : List Addr} {pa : Past} (h : RowsAt K H r bs pa) {k : Nat} {b : Addr} {xs : List V} (e : bs[k]? = some b) (hb : H b = some (.lst xs)) (o : Off b H H') (hb' : H' b = some (.lst (xs ++ [v]))) (hv : ∃ t, v = .ref t ∧ H' t = some (.tup (deedV d))) : RowsAt K H' r bs (addD pa k d) :=
  ⟨by rw [addD_names]; exact o _ _ (fun z => by have := h.dict; rw [z, hb] at this; cases this) h.dict, h.nd, h.rows.add h.nd e hb o hb' hv⟩
end L2.Fb.Law

namespace L2.Fb
open PySem PySem.Spec
open PyProof.Rows
/-! ### three names at once -/
def tPar3 (i j k : Nat) (ta : TA) : TS := fun D σ H => tTup ta σ H fun v H1 => ∃ p x y z, v = .ref p ∧ H1 p = some (.tup [x, y, z]) ∧ D.nx (((σ.set k (some z)).set j (some y)).set i (some x)) H1
theorem vals3 {x y z : V} {us : List Value} (h : Vals [x, y, z] us) : ∃ a b c, us = [a, b, c] ∧ RelV x a ∧ RelV y b ∧ RelV z c := by
  cases h with
  | cons a h => cases h with
    | cons b h => cases h with
      | cons c h => cases h; exact ⟨_, _, _, rfl, a, b, c⟩
theorem ps_par3 {X : Cx} {pos : Pos} {i j k : Nat} {x y z : Str} {a b c : Expr} {ta : TA} {px py pz pt pt2 : Pos} {kt k2 : Nat} (hc : X.calm = true) (nd : X.N.Nodup) (hi : X.N[i]? = some x) (hj : X.N[j]? = some y) (hk : X.N[k]? = some z)
    (lx : X.env.scope.names.lookup x = some .local) (ly : X.env.scope.names.lookup y = some .local) (lz : X.env.scope.names.lookup z = some .local) (h : PA X [a, b, c] ta)
    (sw : swappedStores [.Tuple [.Name x px, .Name y py, .Name z pz] kt pt] (.Tuple [a, b, c] k2 pt2) X.env = pure (some [x, y, z]))
    (ss : swapsWithSole [.Tuple [.Name x px, .Name y py, .Name z pz] kt pt] (.Tuple [a, b, c] k2 pt2) pos.line X.env = pure false := by rfl) :
    PS X (.Assign [.Tuple [.Name x px, .Name y py, .Name z pz] kt pt] (.Tuple [a, b, c] k2 pt2) pos) (tPar3 i j k ta) := by
  refine ⟨fun pins s σ H D I hw => ?_⟩
  refine Assign_Tuple_swapped ?_ ss sw
  refine thn ((pe_tup h).run pins s σ H _ I hw) fun u s1 q => ?_
  obtain ⟨v, H1, I1, rv, p, vx, vy, vz, rfl, e, nx⟩ := q
  cases rv
  obtain ⟨us, vv, it, _⟩ := I1.tuple (.inl (.inl e))
  obtain ⟨a1, b1, c1, rfl, r1, r2, r3⟩ := vals3 vv
  refine unpackItems_tuple (items := [a1, b1, c1].toArray) (I1.ok.hd hc) it fun h' eb => ?_
  have I2 := I1.kept (h' := h') (t' := s1.toks) fun b u hb => eb b u (Nat.ne_of_lt (Heap.lt_size hb)) hb
  refine assignInOrder_cons (wpAny_bindName (store_ok I2 nd hk (.inl lz) r3 (fun s3 I3 => ?_) (.inr lz)))
  refine assignInOrder_cons (wpAny_bindName (store_ok I3 nd hj (.inl ly) r2 (fun s4 I4 => ?_) (.inr ly)))
  refine assignInOrder_cons (wpAny_bindName (store_ok I4 nd hi (.inl lx) r1 (fun s5 I5 => ?_) (.inr lx)))
  exact assignInOrder_nil ⟨_, H1, I5, nx⟩
/-! ### a list, the empty list -/
theorem hu64_of {A : Around} {k : Nat} (h : Room k A) : A.units + 64 < cLine := by
  have := h.un
  omega
theorem layAll : ∀ {ds : List PyData}, (∀ d ∈ ds, d.canLay0 = true ∧ d.depth ≤ 60) → PyData.canLayAll0 ds = true ∧ PyData.depthAll ds ≤ 60
  | [], _ => ⟨rfl, Nat.zero_le _⟩
  | d :: ds, h => by
    obtain ⟨a, b⟩ := layAll (ds := ds) fun x m => h x (List.mem_cons_of_mem _ m)
    obtain ⟨c, e⟩ := h d (List.mem_cons_self ..)
    constructor
    · unfold PyData.canLayAll0
      rw [c, a]
      rfl
    · unfold PyData.depthAll
      omega
theorem shaped_lst {ds : List PyData} (h : ∀ d ∈ ds, d.canLay0 = true ∧ d.depth ≤ 60) : SeqAt.shaped (.list ds) = true := by
  obtain ⟨a, b⟩ := layAll h
  unfold SeqAt.shaped PyData.canLay0 PyData.depth
  rw [a, decide_eq_true (by omega)]
  rfl
theorem eqv_nil (ds : List PyData) : (PyData.list ds).eqv (.list []) = decide (ds = []) := by
  cases ds with
  | nil => rfl
  | cons d ds => rfl
theorem DpAll.len {K : PySem.W.Frag} {H : Hp} : ∀ {xs : List V} {ds : List PyData}, DpAll K H xs ds → xs.length = ds.length
  | _, _, .nil => rfl
  | _, _, .cons _ h => congrArg (· + 1) (DpAll.len h)
theorem ne_nil {K : PySem.W.Frag} {H : Hp} {a b : Addr} {xs : List V} {ds : List PyData} {Q : VK} (h : SqL K H a xs) (hd : DpAll K H xs ds) (sh : ∀ d ∈ ds, d.canLay0 = true ∧ d.depth ≤ 60) (e : SqL K H b []) (q : Q (.bl (!decide (ds = []))) H) :
    rNeD K (.ref a) (.ref b) H Q := ⟨.list ds, .list [], .lst h hd, .lst e .nil, shaped_lst sh, shaped_lst (fun _ m => nomatch m), by rw [eqv_nil]; exact q⟩
theorem eq_nil {K : PySem.W.Frag} {H : Hp} {a b : Addr} {xs : List V} {ds : List PyData} {Q : VK} (h : SqL K H a xs) (hd : DpAll K H xs ds) (sh : ∀ d ∈ ds, d.canLay0 = true ∧ d.depth ≤ 60) (e : SqL K H b []) (q : Q (.bl (decide (ds = []))) H) :
    rEqD K (.ref a) (.ref b) H Q := ⟨.list ds, .list [], .lst h hd, .lst e .nil, shaped_lst sh, shaped_lst (fun _ m => nomatch m), by rw [eqv_nil]; exact q⟩
theorem dp_strs {K : PySem.W.Frag} {H : Hp} : ∀ (xs : List Str), DpAll K H (xs.map V.str) (xs.map PyData.str)
  | [] => .nil
  | x :: xs => .cons (.str x) (dp_strs xs)
theorem sh_str {x : Str} (h : PyData.strOk x = true) : (PyData.str x).canLay0 = true ∧ (PyData.str x).depth ≤ 60 := ⟨by unfold PyData.canLay0; exact h, by unfold PyData.depth; omega⟩
theorem sh_strs {xs : List Str} (h : ∀ x ∈ xs, PyData.strOk x = true) : ∀ d ∈ xs.map PyData.str, d.canLay0 = true ∧ d.depth ≤ 60 := fun d m => by
  obtain ⟨x, mx, rfl⟩ := List.mem_map.mp m
  exact sh_str (h x mx)
theorem sh_pair {l : Int} {x : Str} (h : PyData.strOk x = true) : (PyData.tuple [.int l, .str x]).canLay0 = true ∧ (PyData.tuple [.int l, .str x]).depth ≤ 60 :=
  ⟨by simpa [PyData.canLay0, PyData.canLayAll0] using h, by simp [PyData.depth, PyData.depthAll]⟩
end L2.Fb

namespace L2.Fb.Law
open PySem PySem.Spec
open PyProof.Rows
abbrev s__law_past : Stmt := topS 35
abbrev N__law_past : List Str := ["pot", "most", "long", "hands", "rows", "lying", "style", "keeps", "turn", "hand", "way", "others", "letter", "other", "one"]
abbrev P__law_past : List Str := ["pot", "most", "long"]
theorem sc__law_past : FnScope N__law_past P__law_past (defScope s__law_past) := ⟨rfl, rfl, rfl, by decide +kernel, rfl, by decide +kernel, by decide +kernel⟩
section
variable {P : Program} {w : World} {K : PySem.W.Frag} {mg : Str → Option Value} {base : Heap}
theorem RowsA.snoc {H : Hp} {b : Addr} {h : Str} : ∀ {bs : List Addr} {pa : Past}, RowsA K H bs pa → H b = some (.lst []) → RowsA K H (bs ++ [b]) (pa ++ [(h, [])])
  | _, _, .nil, e => .cons e ⟨.nil, .nil⟩ .nil
  | _, _, .cons a c r, e => .cons a c (RowsA.snoc r e)
theorem kvN_snoc : ∀ {ns : List Str} {bs : List Addr} {x : Str} {b : Addr}, ns.length = bs.length → kvN (ns ++ [x]) (bs ++ [b]) = kvN ns bs ++ [(.inr x, .ref b)]
  | [], [], _, _, _ => rfl
  | y :: ns, c :: bs, x, b, h => congrArg (((Sum.inr y, V.ref c) : Key × V) :: ·) (kvN_snoc (by simpa using h))
theorem RowsA.has {H : Hp} : ∀ {bs : List Addr} {pa : Past}, RowsA K H bs pa → ∀ b ∈ bs, ∃ xs, H b = some (.lst xs)
  | _, _, .cons a _ r, b, m => (List.mem_cons.mp m).elim (fun e => ⟨_, e ▸ a⟩) (r.has b)
/-- where the loop stands -/
structure LA (K : PySem.W.Frag) (p l r ly : Addr) (bs : List Addr) (ns : List Str) (H : Hp) (pa : Past) (lyi : List (Int × Str)) (N : Nat) : Prop where
  rows : RowsAt K H r bs pa
  lying : ∃ lts : List Addr, H ly = some (.lst (lts.map V.ref)) ∧ Paired (fun t (x : Int × Str) => SqT K H t [.int x.1, .str x.2]) lts lyi
  pot : PotAt H p N
  hands : H l = some (.lst (ns.map V.str))
structure Dis (p l r ly : Addr) (bs : List Addr) : Prop where
  pb : p ∉ bs
  lb : l ∉ bs
  yb : ly ∉ bs
  pl : p ≠ l
  py : p ≠ ly
  yl : ly ≠ l
section
variable {p l r ly : Addr} {bs : List Addr} {ns : List Str} {H H' : Hp} {pa : Past} {lyi : List (Int × Str)} {N M : Nat}
theorem LA.same (h : LA K p l r ly bs ns H pa lyi N) (s : Same H H') : LA K p l r ly bs ns H' pa lyi N where
  rows := h.rows.same s
  lying := let ⟨lts, a, b⟩ := h.lying; ⟨lts, s _ _ a, Paired.mapP b fun t x q => sqt_same s q⟩
  pot := h.pot.off fun u q => s _ _ q
  hands := s _ _ h.hands
theorem LA.dip (h : LA K p l r ly bs ns H pa lyi N) (d : Dis p l r ly bs) (o : Off p H H') (q : PotAt H' p M) : LA K p l r ly bs ns H' pa lyi M := by
  obtain ⟨a, b, c, e, _⟩ := h.pot
  obtain ⟨lts, f, g⟩ := h.lying
  exact ⟨h.rows.off e o d.pb, ⟨lts, o _ _ d.py.symm f, Paired.mapP g fun t x z => sqt_offl e o z⟩, q, o _ _ d.pl.symm h.hands⟩
theorem LA.add (h : LA K p l r ly bs ns H pa lyi N) (d : Dis p l r ly bs) {k : Nat} {b : Addr} {xs : List V} {x : Deed} {v : V} (e : bs[k]? = some b) (hb : H b = some (.lst xs)) (hv : ∃ t, v = .ref t ∧ upd H b (.lst (xs ++ [v])) t = some (.tup (deedV x))) :
    LA K p l r ly bs ns (upd H b (.lst (xs ++ [v]))) (addD pa k x) lyi N := by
  obtain ⟨lts, f, g⟩ := h.lying
  have mb : b ∈ bs := List.mem_of_getElem? e
  have o : Off b H (upd H b (.lst (xs ++ [v]))) := off_upd
  exact ⟨h.rows.add e hb o upd_same hv, ⟨lts, o _ _ (fun z => d.yb (z ▸ mb)) f, Paired.mapP g fun t x z => sqt_offl hb o z⟩, h.pot.off fun u q => o _ _ (fun z => d.pb (z ▸ mb)) q, o _ _ (fun z => d.lb (z ▸ mb)) h.hands⟩
theorem LA.lie (h : LA K p l r ly bs ns H pa lyi N) (d : Dis p l r ly bs) {us : List Addr} {lyj : List (Int × Str)} (e : Paired (fun t (x : Int × Str) => SqT K H t [.int x.1, .str x.2]) us lyj) : LA K p l r ly bs ns (upd H ly (.lst (us.map V.ref))) pa lyj N := by
  obtain ⟨lts, f, g⟩ := h.lying
  have o : Off ly H (upd H ly (.lst (us.map V.ref))) := off_upd
  exact ⟨h.rows.off f o d.yb, ⟨us, upd_same, Paired.mapP e fun t x z => sqt_offl f o z⟩, h.pot.off fun u q => o _ _ d.py q, o _ _ d.yl.symm h.hands⟩
/-- the row of the k-th hand -/
theorem LA.row (h : LA K p l r ly bs ns H pa lyi N) (nd : ns.Nodup) (en : pa.map (·.1) = ns) {k : Nat} {a : Str} (ha : ns[k]? = some a) : ∃ b q xs, pa[k]? = some (a, q) ∧ bs[k]? = some b ∧ H b = some (.lst xs) ∧ DaL K H xs (q.map deedD) ∧ DGet H r (.str a) (some (.ref b)) := by
  have : (pa.map (·.1))[k]? = some a := by rw [en]; exact ha
  rw [List.getElem?_map] at this
  cases e : pa[k]? with
  | none => rw [e] at this; cases this
  | some q =>
    rw [e] at this
    obtain ⟨q1, q2⟩ := q
    cases this
    obtain ⟨b, xs, hb, eb, dl⟩ := h.rows.rows.get e
    have lb : ns.length = bs.length := by rw [h.rows.rows.len, ← en, List.length_map]
    have hd := h.rows.dict
    rw [en] at hd
    exact ⟨b, q2, xs, rfl, hb, eb, dl.dl, .inl ⟨_, .inr q1, .inl hd, rfl, (kvN_val nd lb ha hb).symm⟩⟩
theorem LA.addT (h : LA K p l r ly bs ns H pa lyi N) (d : Dis p l r ly bs) {k : Nat} {b t : Addr} {xs : List V} {x : Deed} (e : bs[k]? = some b) (hb : H b = some (.lst xs)) (nt : H t = none) :
    LA K p l r ly bs ns (upd (upd H t (.tup (deedV x))) b (.lst (xs ++ [.ref t]))) (addD pa k x) lyi N := by
  have tb : t ≠ b := fun z => by rw [z, hb] at nt; cases nt
  exact (h.same (same_new nt)).add d e (same_new nt _ _ hb) ⟨t, rfl, by rw [upd_ne tb]; exact upd_same⟩
theorem paired_erase {α β : Type} {F : α → β → Prop} : ∀ {xs : List α} {ys : List β} (k : Nat), Paired F xs ys → Paired F (xs.eraseIdx k) (ys.eraseIdx k)
  | _, _, _, .nil => .nil
  | _, _, 0, .cons _ b => b
  | _, _, k + 1, .cons a b => .cons a (paired_erase k b)
theorem paired_at {α β : Type} {F : α → β → Prop} : ∀ {xs : List α} {ys : List β} {k : Nat} {y : β}, Paired F xs ys → ys[k]? = some y → ∃ x, xs[k]? = some x ∧ F x y
  | _, _, _, _, .nil, e => by simp at e
  | _, _, 0, y, .cons a _, e => by
    cases (Option.some.inj (show some _ = some y from e))
    exact ⟨_, rfl, a⟩
  | _, _, k + 1, y, .cons _ b, e => paired_at (k := k) b e
theorem tells_few : ∀ (p : Past), (tellsP p).length ≤ (p.map fun q => q.2.length).sum
  | [] => Nat.le_refl _
  | q :: p => by
    have h1 := tells_few p
    have h2 := List.length_filterMap_le tellT q.2
    show (q.2.filterMap tellT ++ tellsP p).length ≤ (q.2.length :: p.map fun q => q.2.length).sum
    rw [List.length_append, List.sum_cons]
    omega
theorem both {St T : Hp → Prop} {G : Prop} (h : (∀ Hg, St Hg → T Hg) → G) (t : ∀ Hg, St Hg → T Hg) : G := h t
theorem dp_pairs {H : Hp} : ∀ {lts : List Addr} {lyi : List (Int × Str)}, Paired (fun t (x : Int × Str) => SqT K H t [.int x.1, .str x.2]) lts lyi → DpAll K H (lts.map V.ref) (lyi.map fun x => PyData.tuple [.int x.1, .str x.2])
  | _, _, .nil => .nil
  | _, _, .cons a b => .cons (.tup a (.cons (.int _) (.cons (.str _) .nil))) (dp_pairs b)
theorem strOk_name {x : Str} (h : nameOk x = true) : PyData.strOk x = true := by
  unfold nameOk at h
  simp only [Bool.and_eq_true, List.all_eq_true, decide_eq_true_eq] at h
  unfold PyData.strOk
  rw [Array.all_eq_true']
  intro c hc
  have := h.2 c (Array.mem_toList_iff.mpr hc)
  simp only [decide_eq_true_eq]
  omega
end
/-- letters by style -/
def letterOf (st long : Int) (j : Nat) : Int := if st = 0 then j else if st = 1 then 3 * (long - j) else 10 ^ 9 - 1 - j
theorem letter_facts {st : Int} {long i : Nat} (s0 : 0 ≤ st) (s3 : st < 3) (hi : i < long) (hl : long ≤ 390) :
    atI [V.int (0 + (i : Int)), V.int (3 * (long - (0 + (i : Int)))), V.int (10 ^ (9 : Int).toNat - 1 - (0 + (i : Int)))] st = some (.int (letterOf st long i)) ∧ 0 ≤ letterOf st long i ∧ ∀ j, j < i → letterOf st long j ≠ letterOf st long i := by
  have p9 : (10 : Int) ^ 9 = 1000000000 := by decide
  have p9' : (10 : Int) ^ (9 : Int).toNat = 1000000000 := by decide +kernel
  have c : st = 0 ∨ st = 1 ∨ st = 2 := by omega
  unfold letterOf
  rw [p9, p9']
  rcases c with rfl | rfl | rfl
  · exact ⟨(atI_nat (j := 0) rfl).trans (congrArg (fun z => some (V.int z)) (by simp)), by simp, fun j h => by simp; omega⟩
  · exact ⟨(atI_nat (j := 1) rfl).trans (congrArg (fun z => some (V.int z)) (by simp)), by simp; omega, fun j h => by simp; omega⟩
  · exact ⟨(atI_nat (j := 2) rfl).trans (congrArg (fun z => some (V.int z)) (by simp)), by simp; omega, fun j h => by simp; omega⟩
def sp_past (K : PySem.W.Frag) : Sp := fun vs H Q _ => ∃ (p : Addr) (most long n : Nat), vs = [.ref p, .int (most : Int), .int (long : Int)] ∧ 1 ≤ most ∧ most ≤ 40 ∧ long ≤ 390 ∧ PotAt H p (n + 2000) ∧
  ∀ H' r bs pa L m ly, Off p H H' → PotAt H' p n → H r = none → (∀ b ∈ bs, H b = none) → RowsAt K H' r bs pa → m ≤ long → Grow (pa.map (·.1)) L m pa ly → (∀ j, j < m → L j < 1000000000) → (pa.map (·.1)).Nodup → 1 ≤ pa.length → pa.length ≤ most → (∀ q ∈ pa, nameOk q.1 = true) → Q (.ref r) H'
theorem ok_past (D : Dfn K mg "_law_past" s__law_past P__law_past) (T : TxtL mg) (C__law_dip : Cal P w K mg base CX0 1 "_law_dip" s__law_dip P__law_dip (sp_dip K)) (C__law_names : Cal P w K mg base CX0 2 "_law_names" s__law_names P__law_names (sp_names K)) :
    Cal P w K mg base CX0 3 "_law_past" s__law_past P__law_past (sp_past K) := D.cal fun f fd F => by
  refine F.ok sc__law_past (fun vs H Q E h => ?_) (fun cdv A outer s H vs Q E hr h => ?_)
  · obtain ⟨p, most, long, n, rfl, _⟩ := h
    rfl
  · obtain ⟨p, most, long, n, rfl, m1, m40, l390, pot, q⟩ := h
    have hu := hu_of hr
    have hu64 := hu64_of hr
    refine ⟨_, (pss_cons (ps_set (i := 3) sc__law_past.nd rfl (.inl rfl) (pe_callC C__law_names (hr.mono (by decide)) rfl pass0 (pa_cons (pv 0) (pa_cons (pe_op op_add pe_int (pe_callC C__law_dip (hr.mono (by decide)) rfl pass0 (pa_cons (pv 0) (pa_cons (pv 1) pa_nil)))) pa_nil))))
      (pss_cons (ps_set (i := 4) sc__law_past.nd rfl (.inl rfl) (pe_callTy (call_dictPK (K := K) rfl rfl) (by rfl) T.dict (by decide +kernel) (pa_cons (pe_lc (own := [("hand", 9)]) (g := (gName 9)) rfl sc__law_past.nd (pi_listK (K := K) rfl (pv 3)) (blkOk_by (own := [("hand", 9)]) (N := N__law_past) (sc := defScope s__law_past) (by decide +kernel)) (fun _ _ _ _ _ => pg_name (i := 9) sc__law_past.nd rfl (.inl rfl)) (fun _ _ _ _ _ => pts_nil) (fun _ _ _ _ _ => (pe_tup (pa_cons (pv 9) (pa_cons (pe_lst pa_nil) pa_nil))))) pa_nil)))
      (pss_cons (ps_par3 (i := 5) (j := 6) (k := 7) (by rfl) sc__law_past.nd rfl rfl rfl rfl rfl rfl (pa_cons (pe_lst pa_nil) (pa_cons (pe_callC C__law_dip (hr.mono (by decide)) rfl pass0 (pa_cons (pv 0) (pa_cons pe_int pa_nil))) (pa_cons (pe_op op_add pe_int (pe_callC C__law_dip (hr.mono (by decide)) rfl pass0 (pa_cons (pv 0) (pa_cons pe_int pa_nil)))) pa_nil))) (by rfl))
      (pss_cons (ps_for PassesOwn.never rfl (pi_range1 (by rfl) T.range (pa_cons (pe_callC C__law_dip (hr.mono (by decide)) rfl pass0 (pa_cons (pv 0) (pa_cons (pe_op op_add (pv 2) pe_int) pa_nil))) pa_nil)) (pg_name (i := 8) sc__law_past.nd rfl (.inl rfl)) (pss_cons (ps_asg (pe_tup (pa_cons (pe_ix (ix_listK (K := K) rfl) (pv 3) (pe_callC C__law_dip (hr.mono (by decide)) rfl pass0 (pa_cons (pv 0) (pa_cons (pe_callB (call_len_seqK (K := K) rfl) (by rfl) T.len PySem.boot_len (pa_cons (pv 3) pa_nil)) pa_nil))) (fun _ _ => rfl)) (pa_cons (pe_callC C__law_dip (hr.mono (by decide)) rfl pass0 (pa_cons (pv 0) (pa_cons pe_int pa_nil))) pa_nil))) (pg_tupK (n := 2) (K := K) rfl (by rfl) (pgs_cons (pg_name (i := 9) sc__law_past.nd rfl (.inr rfl)) (pgs_cons (pg_name (i := 10) sc__law_past.nd rfl (.inl rfl)) pgs_nil))))
      (pss_cons (ps_setLc (i := 11) (own := [("one", 14)]) (g := (gName 14)) (by rfl) sc__law_past.nd rfl rfl (sw_true rfl rfl rfl (by decide +kernel)) (pi_listK (K := K) rfl (pv 3)) (blkOk_by (own := [("one", 14)]) (N := N__law_past) (sc := defScope s__law_past) (by decide +kernel)) (fun _ _ _ _ _ => pg_name (i := 14) sc__law_past.nd rfl (.inl rfl)) (fun _ _ _ _ _ => pts_one (pt_cmpR op_ne (pv 14) (pv 9) (nomark _))) (fun _ _ _ _ _ => (pv 14)))
      (pss_one (ps_if (pt_cmpR op_lt (pv 10) (pv 7) (nomark _)) (pss_one (ps_expr (pe_bmK (K := K) rfl PySem.F.plainAttrs_list PySem.F.slot_list_append PySem.F.type_list_append mt_append (pe_dget hu (pv 4) (pv 9) (fun _ _ => rfl)) (pa_cons (pe_tup (pa_cons pe_str pa_nil)) pa_nil)))) (pss_one (ps_if (PW.pt (pw_and (pt_cmpR op_lt (pv 10) pe_int (nomark _)) (pw_and1 (pt_cmpR (op_neD hu64) (pv 5) (pe_lst pa_nil) (nomark _))))) (pss_cons (ps_asg (pe_bmK (K := K) rfl PySem.F.plainAttrs_list PySem.F.slot_list_pop PySem.F.type_list_pop mt_popAt (pv 5) (pa_cons (pe_callC C__law_dip (hr.mono (by decide)) rfl pass0 (pa_cons (pv 0) (pa_cons (pe_callB (call_len_seqK (K := K) rfl) (by rfl) T.len PySem.boot_len (pa_cons (pv 5) pa_nil)) pa_nil))) pa_nil)) (pg_tupK (n := 2) (K := K) rfl (by rfl) (pgs_cons (pg_name (i := 12) sc__law_past.nd rfl (.inl rfl)) (pgs_cons (pg_name (i := 13) sc__law_past.nd rfl (.inl rfl)) pgs_nil))))
      (pss_one (ps_expr (pe_bmK (K := K) rfl PySem.F.plainAttrs_list PySem.F.slot_list_append PySem.F.type_list_append mt_append (pe_dget hu (pv 4) (pv 13) (fun _ _ => rfl)) (pa_cons (pe_tup (pa_cons pe_str (pa_cons (pv 12) pa_nil))) pa_nil))))) (pss_one (ps_if (pt_cmpR (op_neD hu64) (pv 11) (pe_lst pa_nil) (nomark _)) (pss_cons (ps_par (i := 12) (j := 13) (by rfl) sc__law_past.nd rfl rfl (by decide) rfl rfl (pa_cons (pe_ix (ix_listK (K := K) rfl) (pe_lst (pa_cons (pv 8) (pa_cons (pe_op op_mul pe_int (pe_op op_sub (pv 2) (pv 8))) (pa_cons (pe_op op_sub (pe_op op_sub (pe_op op_powW pe_int pe_int) pe_int) (pv 8)) pa_nil)))) (pv 6) (fun _ _ => rfl)) (pa_cons (pe_ix (ix_listK (K := K) rfl) (pv 11) (pe_callC C__law_dip (hr.mono (by decide)) rfl pass0 (pa_cons (pv 0) (pa_cons (pe_callB (call_len_seqK (K := K) rfl) (by rfl) T.len PySem.boot_len (pa_cons (pv 11) pa_nil)) pa_nil))) (fun _ _ => rfl)) pa_nil)) (by rfl))
      (pss_cons (ps_expr (pe_bmK (K := K) rfl PySem.F.plainAttrs_list PySem.F.slot_list_append PySem.F.type_list_append mt_append (pe_dget hu (pv 4) (pv 9) (fun _ _ => rfl)) (pa_cons (pe_tup (pa_cons pe_str (pa_cons (pv 12) (pa_cons (pv 13) pa_nil)))) pa_nil)))
      (pss_one (ps_expr (pe_bmK (K := K) rfl PySem.F.plainAttrs_list PySem.F.slot_list_append PySem.F.type_list_append mt_append (pv 5) (pa_cons (pe_tup (pa_cons (pv 12) (pa_cons (pv 13) pa_nil))) pa_nil)))))) pss_nil)))))))))
      (pss_one (ps_ret (pv 4))))))), ?_⟩
    refine ⟨.ref p, rfl, .ref p, rfl, .int most, rfl, p, most, n + 1999, rfl, by omega, by omega, pot, fun H1 r0 o1 pot1 r00 r01 => ⟨1, r0, rfl, rfl, ?_⟩⟩
    obtain ⟨k, rfl⟩ := Int.eq_ofNat_of_zero_le r00
    refine ⟨p, 1 + k, n + 1900, congrArg (fun z => [V.ref p, V.int z]) (by omega), by omega, pot1.less (by omega), fun H2 l ns o2 pot2 nl el len nd ok => ?_⟩
    have o12 : Off p H H2 := o1.trans o2
    obtain ⟨px0, py0, pz0, ep2, _⟩ := pot2
    have pl3 : p ≠ l := fun z => by
      obtain ⟨_, _, _, e, _⟩ := pot1
      rw [z, nl] at e
      cases e
    clear o1 o2 pot1
    refine ⟨.ref l, rfl, l, rfl, ⟨_, .inl (.inl el)⟩, fun M nM => ?_⟩
    refine lc_it (walk_list (K := K) (xs := ns.map V.str)) (fun i H' => ∃ ts bs, H' M = some (.lst (ts.map V.ref)) ∧ Paired (fun t (kv : Key × V) => SqT K H' t [kV kv.1, kv.2]) ts (kvN (ns.take i) bs) ∧ RowsA K H' bs ((ns.take i).map fun x => (x, [])) ∧ bs.Nodup ∧ (∀ b ∈ bs, H2 b = none ∧ b ≠ M) ∧ Same H2 H') ?_ ?_ ?_ ?_
    · exact ⟨[], [], upd_same, .nil, .nil, .nil, fun _ m => (nomatch m), same_new nM⟩
    · rintro i H' hi ⟨ts, bs, _, _, _, _, _, sm⟩
      exact .inl (.inl (sm _ _ el))
    · rintro i x H' H'' hi ⟨ts, bs, eM, pr, ra, ndb, new, sm⟩ y
      obtain ⟨rfl, hx⟩ := y
      have hi' : i < ns.length := by rw [List.length_map] at hi; exact hi
      have en : ns[i]? = some (ns[i]'hi') := List.getElem?_eq_getElem hi'
      generalize ns[i]'hi' = a at en
      rw [List.getElem?_map, en] at hx
      cases hx
      refine ⟨rfl, yes_go ⟨.str a, rfl, by show 0 ≤ sizeLine; decide, fun b nb => ⟨by show 2 ≤ sizeLine; decide, fun t nt => ?_⟩⟩⟩
      have s1 := (same_new (o := .lst []) nb).trans (same_new (o := .tup [.str a, .ref b]) nt)
      have eM1 := s1 _ _ eM
      have et : upd (upd H'' b (.lst [])) t (.tup [.str a, .ref b]) t = some (.tup [.str a, .ref b]) := upd_same
      have eb : upd (upd H'' b (.lst [])) t (.tup [.str a, .ref b]) b = some (.lst []) := same_new nt _ _ upd_same
      have fM : H2 M = none := nM
      have fb : H2 b = none := sm.free nb
      generalize upd (upd H'' b (.lst [])) t (.tup [.str a, .ref b]) = Hb at s1 eM1 et eb
      have tk : ns.take (i + 1) = ns.take i ++ [a] := take_snoc en
      have lk : (ns.take i).length = bs.length := by rw [ra.len, List.length_map]
      have bM : b ≠ M := fun z => by rw [z, eM] at nb; cases nb
      have off : Off M Hb (upd Hb M (.lst (ts.map V.ref ++ [.ref t]))) := off_upd
      have lt : ts.length = (kvN (ns.take i) bs).length := pr.length
      have lkv : (kvN (ns.take i) bs).length = i := by
        have := congrArg List.length (kvN_keys lk)
        rw [List.length_map, List.length_map, List.length_take] at this
        omega
      refine ⟨_, eM1, ?_, ts ++ [t], bs ++ [b], ?_, ?_, ?_, ?_, ?_, ?_⟩
      · rw [List.length_map, lt, lkv]
        have : 50000 < sizeLine := by decide
        omega
      · rw [upd_same, List.map_append]
        rfl
      · rw [tk, kvN_snoc lk]
        exact paired_snoc (Paired.mapP pr fun t kv r => sqt_offl eM1 off (sqt_same s1 r)) (sqt_offl eM1 off (.inl (.inl et)))
      · rw [tk, List.map_append]
        refine (RowsA.off eM1 off ?_ ((ra.same s1).snoc eb))
        intro m
        rcases List.mem_append.mp m with m | m
        · exact (new _ m).2 rfl
        · exact bM (List.mem_singleton.mp m).symm
      · rw [List.nodup_append]
        refine ⟨ndb, by simp, fun c mc d md => ?_⟩
        rw [List.mem_singleton.mp md]
        intro z
        obtain ⟨xs, hc⟩ := ra.has c mc
        rw [z, nb] at hc
        cases hc
      · intro c mc
        rcases List.mem_append.mp mc with m | m
        · exact new c m
        · rw [List.mem_singleton.mp m]
          exact ⟨fb, bM⟩
      · intro c u q
        have : c ≠ M := fun z => by rw [z, fM] at q; cases q
        rw [upd_ne this]
        exact s1 _ _ (sm _ _ q)
    · rintro H' ⟨ts, bs, eM, pr, ra, ndb, new, sm⟩
      have tn : ns.take (ns.map V.str).length = ns := by rw [List.length_map]; exact List.take_length
      rw [tn] at pr ra
      have lb : ns.length = bs.length := by rw [ra.len, List.length_map]
      refine ⟨M, ts, _, rfl, .inl (.inl eM), pr, fun r nr => ?_⟩
      rw [mergeK_kvN nd lb]
      have sm3 : Same H2 (upd H' r (.dK (kvN ns bs))) := sm.trans (same_new nr)
      have fr : H2 r = none := sm.free nr
      have nmap : (ns.map fun x => ((x, []) : Str × List Deed)).map (·.1) = ns := by rw [List.map_map]; exact List.map_id _
      have ra3 : RowsAt K (upd H' r (.dK (kvN ns bs))) r bs (ns.map fun x => (x, [])) := ⟨by rw [nmap]; exact upd_same, ndb, ra.same (same_new nr)⟩
      generalize upd H' r (.dK (kvN ns bs)) = H3 at sm3 ra3
      have pot3 : PotAt H3 p (n + 1900) := PotAt.off ⟨px0, py0, pz0, ep2, by assumption⟩ fun u q => sm3 _ _ q
      have el3 := sm3 _ _ el
      have old3 : ∀ c u, c ≠ p → H c = some u → H3 c = some u := fun c u z q => sm3 _ _ (o12 _ _ z q)
      have new3 : ∀ b ∈ bs, H b = none := fun b m => by
        cases e : H b with
        | none => rfl
        | some u =>
          by_cases z : b = p
          · have := (new b m).1
            rw [z, ep2] at this
            cases this
          · have := o12 _ _ z e
            rw [(new b m).1] at this
            cases this
      have pb3 : p ∉ bs := fun m => by rw [(new p m).1] at ep2; cases ep2
      have lb3 : l ∉ bs := fun m => by rw [(new l m).1] at el; cases el
      have ep3 := sm3 _ _ ep2
      have fr0 : H r = none := by
        cases e : H r with
        | none => rfl
        | some u =>
          by_cases z : r = p
          · rw [z, ep2] at fr
            cases fr
          · have := o12 _ _ z e
            rw [fr] at this
            cases this
      refine ⟨by show 0 ≤ sizeLine; decide, fun ly nly => ?_⟩
      have dis : Dis p l r ly bs := ⟨pb3, lb3, (fun m => by obtain ⟨xs, e⟩ := ra3.rows.has ly m; rw [nly] at e; cases e), pl3, (fun z => by rw [← z, ep3] at nly; cases nly), (fun z => by rw [z, el3] at nly; cases nly)⟩
      have la3 : LA K p l r ly bs ns (upd H3 ly (.lst [])) (ns.map fun x => (x, [])) [] (n + 1900) := ⟨ra3.same (same_new nly), ⟨[], upd_same, .nil⟩, pot3.off fun u q => same_new nly _ _ q, same_new nly _ _ el3⟩
      have old4 : ∀ c u, c ≠ p → H c = some u → upd H3 ly (.lst []) c = some u := fun c u z q => same_new nly _ _ (old3 c u z q)
      have fly : H ly = none := by
        cases e : H ly with
        | none => rfl
        | some u =>
          have := old3 ly u dis.py.symm e
          rw [nly] at this
          cases this
      generalize upd H3 ly (.lst []) = H4 at la3 old4
      refine ⟨.ref p, rfl, p, 3, n + 1899, rfl, by omega, by omega, la3.pot, fun H5 st o5 pot5 st0 st1 => ⟨.ref p, rfl, p, 3, n + 1898, rfl, by omega, by omega, pot5, fun H6 kp o6 pot6 kp0 kp1 => ⟨1, kp, rfl, rfl, by show 3 ≤ sizeLine; decide, fun tp ntp => ⟨tp, _, _, _, rfl, upd_same, ?_⟩⟩⟩⟩
      have la7 := ((la3.dip dis o5 pot5).dip dis o6 pot6).same (same_new (o := .tup [.ref ly, .int st, .int (1 + kp)]) ntp)
      have old7 : ∀ c u, c ≠ p → H c = some u → upd H6 tp (.tup [.ref ly, .int st, .int (1 + kp)]) c = some u := fun c u z q => same_new ntp _ _ (o6 _ _ z (o5 _ _ z (old4 c u z q)))
      generalize upd H6 tp (.tup [.ref ly, .int st, .int (1 + kp)]) = H7 at la7 old7
      refine ⟨.ref p, rfl, .int long, rfl, long, 1, rfl, rfl, p, _, n + 1897, rfl, by omega, by omega, la7.pot, fun H8 mm o8 pot8 mm0 mm1 => ?_⟩
      obtain ⟨m, rfl⟩ := Int.eq_ofNat_of_zero_le mm0
      have la8 := la7.dip dis o8 pot8
      have old8 : ∀ c u, c ≠ p → H c = some u → H8 c = some u := fun c u z q => o8 _ _ z (old7 c u z q)
      clear o8 pot8 old7 la7 o6 o5 pot5 pot6 old4 la3
      refine ⟨_, rfl, by omega, by omega, ?_⟩
      have lm : m ≤ long := by omega
      refine for_it walk_range (fun i σ' H' => (∃ y8 y9 y10 y11 y12 y13 y14, σ' = [some (.ref p), some (.int most), some (.int long), some (.ref l), some (.ref r), some (.ref ly), some (.int st), some (.int (1 + kp)), y8, y9, y10, y11, y12, y13, y14]) ∧
        ∃ pa lyi, LA K p l r ly bs ns H' pa lyi (n + 4 * (m - i)) ∧ Grow ns (letterOf st long) i pa lyi ∧ ∀ c u, c ≠ p → H c = some u → H' c = some u) ?_ (fun _ _ _ _ _ => trivial) ?_ ?_
      · exact ⟨⟨none, none, none, none, none, none, none, rfl⟩, _, [], (la8.dip dis (fun _ _ _ z => z) (la8.pot.less (by omega))), Grow.zero ns _, old8⟩
      · rintro i x σ' Ha Hb hi ⟨⟨y8, y9, y10, y11, y12, y13, y14, rfl⟩, pa, lyi, la, G, old⟩ ⟨rfl, rfl⟩
        have i1 : n + 4 * (m - i) = n + 4 * (m - (i + 1)) + 4 := by omega
        rw [i1] at la
        obtain ⟨N, hN⟩ : ∃ N, N = n + 4 * (m - (i + 1)) := ⟨_, rfl⟩
        rw [← hN] at la
        refine ⟨.ref l, rfl, .ref p, rfl, .ref l, rfl, l, _, rfl, .inl (.inl (.inl la.hands)), p, _, N + 3, rfl, by rw [List.length_map]; omega, by rw [List.length_map]; omega, la.pot, fun Hc k oc potc k0 k1 => ?_⟩
        rw [List.length_map] at k1
        obtain ⟨k, rfl⟩ := Int.eq_ofNat_of_zero_le k0
        have lac := la.dip dis oc potc
        have hk : k < ns.length := by omega
        have en : ns[k]? = some (ns[k]'hk) := List.getElem?_eq_getElem hk
        generalize ns[k]'hk = hand at en
        refine ⟨l, _, k, .str hand, rfl, rfl, .inl (.inl lac.hands), atI_nat (by rw [List.getElem?_map, en]; rfl), .ref p, rfl, p, 8, N + 2, rfl, by omega, by omega, potc, fun Hd way od potd w0 w1 => ⟨by show 2 ≤ sizeLine; decide, fun t nt => ⟨t, _, rfl, .inl (.inl upd_same), rfl, _, _, rfl, _, _, rfl, rfl, ?_⟩⟩⟩
        have lae := (lac.dip dis od potd).same (same_new (o := .tup [.str hand, .int way]) nt)
        have olde : ∀ c u, c ≠ p → H c = some u → upd Hd t (.tup [.str hand, .int way]) c = some u := fun c u z q => same_new nt _ _ (od _ _ z (oc _ _ z (old c u z q)))
        generalize upd Hd t (.tup [.str hand, .int way]) = He at lae olde
        clear lac la oc od potc potd old
        refine ⟨.ref l, rfl, l, rfl, ⟨_, .inl (.inl lae.hands)⟩, fun M nM => ?_⟩
        refine lc_fm (walk_list (K := K) (xs := ns.map V.str)) ns (fun x => if x = hand then none else some x) (fun x y _ => y = .str x) nM (by rw [List.length_map]) (by rw [List.length_map]; omega) (fun H' sm => .inl (.inl (sm _ _ lae.hands))) (fun _ _ _ _ _ r => r) ?_ ?_
        · rintro j a y H1 H2 ha sm - ⟨rfl, hy⟩ KK NN kk nn
          rw [List.getElem?_map, ha] at hy
          cases hy
          refine ⟨rfl, .str a, rfl, .str hand, rfl, rfl, _, rfl, ?_⟩
          by_cases z : a = hand
          · rw [decide_eq_true (congrArg V.str z)]
            exact iteF (nn _ (by rw [if_pos z]) (.refl _))
          · rw [decide_eq_false fun e => z (by injection e)]
            exact iteT ⟨.str a, rfl, kk _ _ _ (by rw [if_neg z]) (.refl _) rfl⟩
        · intro Hf ys sm eM pr
          have laf := lae.same sm
          have oldf : ∀ c u, c ≠ p → H c = some u → Hf c = some u := fun c u z q => sm _ _ (olde c u z q)
          have e1 := paired_eq pr
          clear sm pr lae olde nM nt
          generalize eo : (List.filterMap (fun x => if x = hand then none else some x) ns) = oth at e1
          have mo : ∀ x ∈ oth, x ∈ ns ∧ x ≠ hand := fun x mx => by
            rw [← eo] at mx
            obtain ⟨a, ma, ea⟩ := List.mem_filterMap.mp mx
            by_cases z : a = hand
            · rw [if_pos z] at ea
              cases ea
            · rw [if_neg z] at ea
              cases ea
              exact ⟨ma, z⟩
          have lo : oth.length ≤ ns.length := by rw [← eo]; exact List.length_filterMap_le _ _
          obtain ⟨b, qr, xs, eq, eb, hb, dl, dg⟩ := laf.row nd G.names en
          have few := G.few
          have len : ∀ {k : Nat} {a : Str} {q : List Deed} {xs : List V}, pa[k]? = some (a, q) → xs.length = q.length → xs.length < sizeLine := fun {k a q xs} e el => by
            have h1 := mem_le_sum (fun q : Str × List Deed => q.2.length) pa _ (List.mem_of_getElem? e)
            have h2 : q.length ≤ (pa.map fun q => q.2.length).sum := h1
            have : 50000 < sizeLine := by decide
            omega
          have lly : lyi.length ≤ i := by
            have h1 := G.lying.length_eq
            rw [List.length_append] at h1
            have h2 := tells_few pa
            omega
          have okl : ∀ x ∈ lyi, x.2 ∈ ns := fun x mx => by
            have ml := G.lying.mem_iff.mp (List.mem_append_right (hearsP pa) mx)
            obtain ⟨z, mz, hz⟩ := List.mem_flatMap.mp ml
            obtain ⟨d, md, ed⟩ := List.mem_filterMap.mp hz
            have g := G.deeds z mz d md
            cases d with
            | keep => cases ed
            | hear _ => cases ed
            | tell l' h' =>
              cases ed
              exact g.2.2.1
          refine ⟨.int way, rfl, .int (1 + kp), rfl, way, 1 + kp, rfl, rfl, _, rfl, ?_⟩
          by_cases c1 : way < 1 + kp
          · rw [decide_eq_true c1]
            refine iteT ⟨.ref r, rfl, .str hand, rfl, r, .ref b, rfl, dg, .inl ⟨rfl, _, .inl (.inl hb)⟩, by show 1 ≤ sizeLine; decide, fun t nt => ⟨b, xs, .ref t, rfl, rfl, same_new nt _ _ hb, len eq (by rw [dl.len, List.length_map]), ⟨_, _, _, _, _, _, _, rfl⟩, addD pa k .keep, lyi, ?_, G.keep nd eq, ?_⟩⟩
            · rw [← hN]
              exact (laf.dip dis (fun _ _ _ z => z) (laf.pot.less (by omega))).addT (x := .keep) dis eb hb nt
            · intro c u z q
              rw [upd_ne fun y => by rw [y, new3 b (List.mem_of_getElem? eb)] at q; cases q]
              exact same_new nt _ _ (oldf _ _ z q)
          · rw [decide_eq_false c1]
            refine iteF ?_
            apply both (St := fun Hg => LA K p l r ly bs ns Hg pa lyi (N + 2) ∧ (∀ c u, c ≠ p → H c = some u → Hg c = some u) ∧ Hg M = some (.lst ys))
            · intro third
              refine ⟨.int way, rfl, way, 6, rfl, rfl, _, rfl, ?_⟩
              by_cases c2 : way < 6
              · rw [decide_eq_true c2]
                obtain ⟨lts, ely, ply⟩ := laf.lying
                refine iteT ⟨.ref ly, rfl, by show 0 ≤ sizeLine; decide, fun e ne => ne_nil (.inl (.inl (same_new ne _ _ ely))) (dp_pairs (Paired.mapP ply fun t x z => sqt_same (same_new ne) z)) ?_ (.inl (.inl upd_same)) ⟨_, rfl, ?_⟩⟩
                · intro d md
                  obtain ⟨x, mx, rfl⟩ := List.mem_map.mp md
                  exact sh_pair (strOk_name (ok _ (okl x mx)))
                have lag := laf.same (same_new (o := .lst []) ne)
                have oldg : ∀ c u, c ≠ p → H c = some u → upd Hf e (.lst []) c = some u := fun c u z q => same_new ne _ _ (oldf c u z q)
                have eMg := same_new (o := .lst []) ne _ _ eM
                generalize upd Hf e (.lst []) = Hg at lag oldg eMg
                by_cases c3 : lyi = []
                · rw [decide_eq_true (by rw [c3]; rfl)]
                  exact iteF (third Hg ⟨lag, oldg, eMg⟩)
                · rw [decide_eq_false (by rw [List.map_eq_nil_iff]; exact c3)]
                  refine iteT ?_
                  obtain ⟨lts, ely, ply⟩ := lag.lying
                  have ll : lts.length = lyi.length := ply.length
                  have pos : 0 < lyi.length := List.length_pos_iff.mpr c3
                  refine ⟨.ref ly, rfl, .inl ⟨rfl, _, .inl (.inl ely)⟩, .ref p, rfl, .ref ly, rfl, ly, _, rfl, .inl (.inl (.inl ely)), p, _, N + 1, rfl, by rw [List.length_map]; omega, by rw [List.length_map]; omega, lag.pot, fun Hh j oh poth j0 j1 => ?_⟩
                  rw [List.length_map] at j1
                  obtain ⟨j, rfl⟩ := Int.eq_ofNat_of_zero_le j0
                  have lah := lag.dip dis oh poth
                  have oldh : ∀ c u, c ≠ p → H c = some u → Hh c = some u := fun c u z q => oh _ _ z (oldg c u z q)
                  have hj : j < lyi.length := by omega
                  have ej : lyi[j]? = some (lyi[j]'hj) := List.getElem?_eq_getElem hj
                  obtain ⟨letter, other, hy⟩ : ∃ a b, lyi[j]'hj = (a, b) := ⟨_, _, rfl⟩
                  rw [hy] at ej
                  obtain ⟨lts, ely, ply⟩ := lah.lying
                  obtain ⟨tj, etj, sj⟩ := paired_at ply ej
                  have lai := lah.lie dis (paired_erase j ply)
                  have offi : Off ly Hh (upd Hh ly (.lst ((lts.eraseIdx j).map V.ref))) := off_upd
                  have sji := sqt_offl ely offi sj
                  have oldi : ∀ c u, c ≠ p → H c = some u → upd Hh ly (.lst ((lts.eraseIdx j).map V.ref)) c = some u := fun c u z q => offi _ _ (fun y => by rw [y, fly] at q; cases q) (oldh c u z q)
                  refine ⟨ly, _, _, j, .ref tj, rfl, rfl, ely, by omega, by omega, by rw [List.length_map]; exact seqIdx (by have := ply.length; omega), by rw [List.getElem?_map, etj]; rfl, ?_⟩
                  rw [erase_map]
                  generalize upd Hh ly (.lst ((lts.eraseIdx j).map V.ref)) = Hi at lai sji oldi
                  obtain ⟨k2, ek2⟩ := List.mem_iff_getElem?.mp (okl _ (List.mem_of_getElem? ej))
                  obtain ⟨b2, q2, xs2, eq2, eb2, hb2, dl2, dg2⟩ := lai.row nd G.names ek2
                  refine ⟨tj, _, rfl, sji, rfl, _, _, rfl, _, _, rfl, rfl, ?_⟩
                  refine ⟨.ref r, rfl, .str other, rfl, r, .ref b2, rfl, dg2, .inl ⟨rfl, _, .inl (.inl hb2)⟩, .int letter, rfl, by show 2 ≤ sizeLine; decide, fun t nt => ⟨b2, xs2, .ref t, rfl, rfl, same_new nt _ _ hb2, len eq2 (by rw [dl2.len, List.length_map]), ⟨_, _, _, _, _, _, _, rfl⟩, addD pa k2 (.hear letter), lyi.eraseIdx j, ?_, G.hear nd eq2 hj hy, ?_⟩⟩
                  · rw [← hN]
                    exact (lai.dip dis (fun _ _ _ z => z) (lai.pot.less (by omega))).addT (x := .hear letter) dis eb2 hb2 nt
                  · intro c u z q
                    rw [upd_ne fun y => by rw [y, new3 b2 (List.mem_of_getElem? eb2)] at q; cases q]
                    exact same_new nt _ _ (oldi _ _ z q)
              · rw [decide_eq_false c2]
                exact iteF (iteF (third Hf ⟨laf, oldf, eM⟩))
            · rintro Hg ⟨lag, oldg, eMg⟩
              rw [e1] at eMg
              refine ⟨.ref M, rfl, by show 0 ≤ sizeLine; decide, fun e ne => ne_nil (.inl (.inl (same_new ne _ _ eMg))) (dp_strs oth) (sh_strs fun x mx => strOk_name (ok _ (mo x mx).1)) (.inl (.inl upd_same)) ⟨_, rfl, ?_⟩⟩
              have lah := lag.same (same_new (o := .lst []) ne)
              have oldh : ∀ c u, c ≠ p → H c = some u → upd Hg e (.lst []) c = some u := fun c u z q => same_new ne _ _ (oldg c u z q)
              have eMh := same_new (o := .lst []) ne _ _ eMg
              generalize upd Hg e (.lst []) = Hh at lah oldh eMh
              by_cases c4 : oth = []
              · rw [decide_eq_true (by rw [c4]; rfl)]
                exact iteF ⟨⟨_, _, _, _, _, _, _, rfl⟩, pa, lyi, (by rw [← hN]; exact lah.dip dis (fun _ _ _ z => z) (lah.pot.less (by omega))), G.skip, oldh⟩
              · rw [decide_eq_false (by rw [List.map_eq_nil_iff]; exact c4)]
                refine iteT ?_
                have pos : 0 < oth.length := List.length_pos_iff.mpr c4
                have lL := letter_facts (st := st) (long := long) (i := i) st0 st1 (by omega) l390
                have p9 : CPowW 10 9 := small_pow (n := 4) (by omega) (by omega) (by omega) (by omega) (by omega)
                refine ⟨.int (0 + (i : Nat)), rfl, .int long, rfl, .int (0 + (i : Nat)), rfl, long, _, rfl, rfl, 3, _, rfl, rfl, .inl ⟨by omega, by omega⟩, 10, 9, rfl, rfl, p9, _, 1, rfl, rfl, .int (0 + (i : Nat)), rfl, _, _, rfl, rfl, by show 3 ≤ sizeLine; decide, fun a na => ?_⟩
                refine ⟨.int st, rfl, a, _, st, .int (letterOf st long i), rfl, rfl, .inl (.inl upd_same), lL.1, ?_⟩
                have lai := lah.same (same_new (o := .lst [.int (0 + (i : Nat)), .int (3 * (long - (0 + (i : Nat)))), .int (10 ^ (9 : Int).toNat - 1 - (0 + (i : Nat)))]) na)
                have oldi : ∀ c u, c ≠ p → H c = some u → upd Hh a (.lst [.int (0 + (i : Nat)), .int (3 * (long - (0 + (i : Nat)))), .int (10 ^ (9 : Int).toNat - 1 - (0 + (i : Nat)))]) c = some u := fun c u z q => same_new na _ _ (oldh c u z q)
                have eMi := same_new (o := .lst [.int (0 + (i : Nat)), .int (3 * (long - (0 + (i : Nat)))), .int (10 ^ (9 : Int).toNat - 1 - (0 + (i : Nat)))]) na _ _ eMh
                generalize upd Hh a (.lst [.int (0 + (i : Nat)), .int (3 * (long - (0 + (i : Nat)))), .int (10 ^ (9 : Int).toNat - 1 - (0 + (i : Nat)))]) = Hi at lai oldi eMi
                refine ⟨.ref M, rfl, .ref p, rfl, .ref M, rfl, M, _, rfl, .inl (.inl (.inl eMi)), p, _, N + 1, rfl, by rw [List.length_map]; omega, by rw [List.length_map]; omega, lai.pot, fun Hj j oj potj j0 j1 => ?_⟩
                rw [List.length_map] at j1
                obtain ⟨j, rfl⟩ := Int.eq_ofNat_of_zero_le j0
                have laj := lai.dip dis oj potj
                have oldj : ∀ c u, c ≠ p → H c = some u → Hj c = some u := fun c u z q => oj _ _ z (oldi c u z q)
                have Mp : M ≠ p := fun z => by
                  obtain ⟨_, _, _, e, _⟩ := lai.pot
                  rw [← z, eMi] at e
                  rw [List.length_pos_iff] at pos
                  cases oth with
                  | nil => exact pos rfl
                  | cons _ _ => cases e
                have eMj := oj _ _ Mp eMi
                have hj : j < oth.length := by omega
                have ej : oth[j]? = some (oth[j]'hj) := List.getElem?_eq_getElem hj
                obtain ⟨mo1, mo2⟩ := mo _ (List.getElem_mem hj)
                generalize oth[j]'hj = other at ej mo1 mo2
                refine ⟨M, _, j, .str other, rfl, rfl, .inl (.inl eMj), atI_nat (by rw [List.getElem?_map, ej]; rfl), _, _, rfl, ?_⟩
                obtain ⟨b, qr, xs, eq, eb, hb, dl, dg⟩ := laj.row nd G.names en
                refine ⟨.ref r, rfl, .str hand, rfl, r, .ref b, rfl, dg, .inl ⟨rfl, _, .inl (.inl hb)⟩, .int (letterOf st long i), rfl, .str other, rfl, by show 3 ≤ sizeLine; decide, fun t nt => ⟨b, xs, .ref t, rfl, rfl, same_new nt _ _ hb, len eq (by rw [dl.len, List.length_map]), ?_⟩⟩
                have lak : LA K p l r ly bs ns (upd (upd Hj t (.tup [.str "tell", .int (letterOf st long i), .str other])) b (.lst (xs ++ [.ref t]))) (addD pa k (.tell (letterOf st long i) other)) lyi (N + 1) := laj.addT (x := .tell (letterOf st long i) other) dis eb hb nt
                have oldk : ∀ c u, c ≠ p → H c = some u → upd (upd Hj t (.tup [.str "tell", .int (letterOf st long i), .str other])) b (.lst (xs ++ [.ref t])) c = some u := fun c u z q => by
                  rw [upd_ne fun y => by rw [y, new3 b (List.mem_of_getElem? eb)] at q; cases q]
                  exact same_new nt _ _ (oldj _ _ z q)
                generalize upd (upd Hj t (.tup [.str "tell", .int (letterOf st long i), .str other])) b (.lst (xs ++ [.ref t])) = Hk at lak oldk
                obtain ⟨lts, ely, ply⟩ := lak.lying
                have lts_le : lts.length ≤ i := by
                  have := ply.length
                  omega
                refine ⟨.ref ly, rfl, .inl ⟨rfl, _, .inl (.inl ely)⟩, .int (letterOf st long i), rfl, .str other, rfl, by show 2 ≤ sizeLine; decide, fun t2 nt2 => ⟨ly, lts.map V.ref, .ref t2, rfl, rfl, same_new nt2 _ _ ely, ?_, ⟨_, _, _, _, _, _, _, rfl⟩, addD pa k (.tell (letterOf st long i) other), lyi ++ [(letterOf st long i, other)], ?_, G.tell nd eq lL.2.1 lL.2.2 (ok _ mo1) mo1 mo2, ?_⟩⟩
                · rw [List.length_map]
                  have : 50000 < sizeLine := by decide
                  omega
                · rw [← hN]
                  have lal := lak.same (same_new (o := .tup [.int (letterOf st long i), .str other]) nt2)
                  have e2 : lts.map V.ref ++ [V.ref t2] = (lts ++ [t2]).map V.ref := by rw [List.map_append]; rfl
                  rw [e2]
                  have lam := lal.lie dis (paired_snoc (y := (letterOf st long i, other)) (Paired.mapP ply fun t x z => sqt_same (same_new nt2) z) (.inl (.inl upd_same)))
                  exact lam.dip dis (fun _ _ _ z => z) (lam.pot.less (by omega))
                · intro c u z q
                  rw [upd_ne fun y => by rw [y, fly] at q; cases q]
                  exact same_new nt2 _ _ (oldk _ _ z q)
      · rintro σ' Ha ⟨⟨y8, y9, y10, y11, y12, y13, y14, rfl⟩, pa, lyi, la, G, old⟩
        have ln : pa.length = ns.length := by rw [← G.names, List.length_map]
        refine ⟨.ref r, rfl, q Ha r bs pa _ _ lyi old (la.pot.less (by omega)) fr0 new3 la.rows ?_ (by rw [G.names]; exact G) ?_ (by rw [G.names]; exact nd) (by omega) (by omega) fun q mq => ok _ (by rw [← G.names]; exact List.mem_map.mpr ⟨q, mq, rfl⟩)⟩
        · omega
        · intro j hj
          have hj : j < m := by omega
          unfold letterOf
          split
          · omega
          · split <;> omega
end
end L2.Fb.Law

namespace L2.Fb
open PySem PySem.Spec
open PyProof.Rows
/-! ### xs[::-1] -/
theorem pick_all {α : Type} : ∀ (l : List α), (l.map some).filterMap id = l
  | [] => rfl
  | a :: l => congrArg (a :: ·) (pick_all l)
theorem slicePick_rev (items : Array Value) : slicePick items none none (some (-1)) = items.toList.reverse.toArray := by
  have b : sliceBounds none none (some (-1)) items.size = ((items.size : Int) - 1, -1, -1) := rfl
  unfold slicePick
  rw [b]
  congr 1
  have r : sliceRange ((items.size : Int) - 1) (-1) (-1) = (List.range items.size).map fun k => items.size - 1 - k := by
    unfold sliceRange
    have c : (if (-1 : Int) > 0 then if (items.size : Int) - 1 < -1 then (-1 - ((items.size : Int) - 1) + -1 - 1) / -1 else 0 else if (items.size : Int) - 1 > -1 then ((items.size : Int) - 1 - -1 - -1 - 1) / - -1 else 0).toNat = items.size := by
      rw [if_neg (by decide)]
      by_cases z : (items.size : Int) - 1 > -1
      · rw [if_pos z, show (- -1 : Int) = 1 from rfl, Int.ediv_one]
        omega
      · rw [if_neg z]
        omega
    show List.map _ (List.range (Int.toNat _)) = _
    rw [c]
    refine List.map_congr_left fun k m => ?_
    omega
  show List.filterMap (fun x => items[x]?) (sliceRange ((items.size : Int) - 1) (-1) (-1)) = _
  rw [r]
  have e : (List.range items.size).map (fun k => items[items.size - 1 - k]?) = items.toList.reverse.map some := by
    apply List.ext_getElem?
    intro i
    rw [List.getElem?_map, List.getElem?_map]
    by_cases z : i < items.size
    · rw [List.getElem?_range z, List.getElem?_reverse (by rw [Array.length_toList]; exact z), Array.length_toList, Array.getElem?_toList]
      show some (items[items.size - 1 - i]?) = _
      have lt : items.size - 1 - i < items.size := by omega
      rw [Array.getElem?_eq_getElem lt]
      rfl
    · have h1 : (List.range items.size)[i]? = none := List.getElem?_eq_none (by rw [List.length_range]; omega)
      have h2 : items.toList.reverse[i]? = none := List.getElem?_eq_none (by rw [List.length_reverse, Array.length_toList]; omega)
      rw [h1, h2]
      rfl
  have f : List.filterMap (fun x => items[x]?) ((List.range items.size).map fun k => items.size - 1 - k) = ((List.range items.size).map (fun k => items[items.size - 1 - k]?)).filterMap id := by
    rw [List.filterMap_map, List.filterMap_map]
    rfl
  rw [f, e, pick_all]
section
variable {X : Cx} {K : PySem.W.Frag}
def tRvS (K : PySem.W.Frag) (te : TE) (ts : TO) : TE := fun σ H Q => te σ H fun x H1 => ts σ H1 fun o H2 => o = some (-1) ∧ ∃ a xs, x = .ref a ∧ SqL K H2 a xs ∧ ∀ p, H2 p = none → Q (.ref p) (upd H2 p (.lst xs.reverse))
theorem pe_revK {e st : Expr} {te : TE} {ts : TO} {pos p2 : Pos} (hK : X.K = K) (he : PE X e te) (hs : PO X (some st) ts) : PE X (.Subscript e (.Slice none none (some st) p2) pos) (tRvS K te ts) := by
  subst hK
  refine ⟨fun pins s σ H Q I h => Subscript_ (thn (he.run pins s σ H _ I h) fun u s1 q => ?_)⟩
  obtain ⟨x, H1, I1, rx, q⟩ := q
  refine wpAny_Slice ?_
  rw [evalPart_none]
  refine wpAny_pure (wpAny_pure ?_)
  refine thn (hs.run pins s1 σ H1 _ I1 q) fun us s2 q => ?_
  obtain ⟨o, H2, I2, pt, rfl, a, xs, rfl, sl, q⟩ := q
  cases rx
  obtain ⟨its, vv, pl, le⟩ := I2.list sl
  have I3 := I2.kept (h' := s2.heap.push { cls := .type "slice", data := .fields #[.none, .none, us] }) (t' := s2.toks) fun b u e => Heap.get?_push_of_some _ e
  obtain ⟨its, vv, pl, le⟩ := I3.list sl
  refine tail_any (T := "list") (pl.isList.typeIs) (slot_list_getitem.lookup) ?_ rfl
  refine wpAny_getItem_list_slice (lo := none) (hi := none) (st := some (-1)) pl.isList (Heap.IsSliceOf.new _ _ _ _) .none .none pt (by decide) ?_ ?_
  · refine ⟨.ref (s2.heap.push _).objs.size, _, I3.laid (o := .lst xs.reverse) (t' := s2.toks) (fun b u e => Heap.get?_push_of_some _ e) (Nat.le_refl _) ?_, rfl, q _ (I3.hok.fresh (Nat.le_refl _))⟩
    rw [slicePick_rev]
    exact ⟨by rw [List.length_reverse]; exact le, its.reverse, _, Vals.reverse vv, Heap.get?_push_size _ rfl⟩
  · show its.toArray.size ≤ sizeLine
    rw [List.size_toArray, ← vv.length]
    exact le
end
end L2.Fb

namespace L2.Fb.Law
open PySem PySem.Spec
open PyProof.Rows
/-! ### a past told in text: how long -/
theorem sum_bound {α : Type} (f : α → Nat) (c : Nat) : ∀ (l : List α), (∀ x ∈ l, f x ≤ c) → (l.map f).sum ≤ c * l.length
  | [], _ => by simp
  | x :: l, h => by
    have h1 := h x (List.mem_cons_self ..)
    have h2 := sum_bound f c l fun y m => h y (List.mem_cons_of_mem _ m)
    rw [List.map_cons, List.sum_cons, List.length_cons, Nat.mul_succ]
    omega
theorem repr_name {x : Str} (h : nameOk x = true) : (reprText x).length ≤ 82 := by
  unfold nameOk at h
  simp only [Bool.and_eq_true, List.all_eq_true, decide_eq_true_eq] at h
  have h1 := StrLaws.reprText_len x fun c hc => by
    have := h.2 c hc
    have : (122 : Nat) < 16 ^ 8 := by decide
    omega
  omega
theorem repr_word (d : Deed) : (reprText (word d)).length ≤ 42 := by
  have h1 : (reprText "keep").length ≤ 42 := by decide +kernel
  have h2 : (reprText "tell").length ≤ 42 := by decide +kernel
  have h3 : (reprText "hear").length ≤ 42 := by decide +kernel
  cases d with
  | keep => exact h1
  | tell _ _ => exact h2
  | hear _ => exact h3
def LetterSmall : Deed → Prop
  | .keep => True
  | .tell l h => 0 ≤ l ∧ l < 1000000000 ∧ nameOk h = true
  | .hear l => 0 ≤ l ∧ l < 1000000000
theorem p10 : (10 : Int) ^ 9 = 1000000000 := by decide
theorem int_len {l : Int} (h0 : 0 ≤ l) (h1 : l < 1000000000) : (Str.ofString (toString l)).length ≤ 9 := toString_length_le h0 (by decide) (by rw [p10]; exact h1)
theorem int_show {l : Int} (h0 : 0 ≤ l) (h1 : l < 1000000000) : (PyData.int l).showable = true := by
  unfold PyData.showable
  rw [decide_eq_true_eq]
  by_cases z : l.natAbs = 0
  · rw [z]
    decide
  · have h30 : l.natAbs < 2 ^ 30 := by
      have : (2 : Nat) ^ 30 = 1073741824 := by decide
      omega
    have := (Nat.log2_lt z).mpr h30
    omega
theorem show_deed {d : Deed} (h : LetterSmall d) : (deedD d).showable = true ∧ (deedD d).shown.length ≤ 300 ∧ (deedD d).depth ≤ 1 := by
  have w := repr_word d
  have key : ∀ (ds : List PyData), (∀ x ∈ ds, x.showable = true ∧ x.shown.length ≤ 82 ∧ x.depth = 0) → ds.length ≤ 3 → (PyData.tuple ds).showable = true ∧ (PyData.tuple ds).shown.length ≤ 300 ∧ (PyData.tuple ds).depth ≤ 1 := by
    intro ds hx hl
    have h1 : PyData.showableAll ds = true ∧ PyData.depthAll ds = 0 ∧ ((PyData.shownAll ds).map (·.length)).sum ≤ 82 * ds.length ∧ (PyData.shownAll ds).length = ds.length := by
      clear hl
      induction ds with
      | nil => exact ⟨rfl, rfl, Nat.zero_le _, rfl⟩
      | cons x ds ih =>
        obtain ⟨a, b, c, e⟩ := ih fun y m => hx y (List.mem_cons_of_mem _ m)
        obtain ⟨a1, b1, c1⟩ := hx x (List.mem_cons_self ..)
        refine ⟨?_, ?_, ?_, ?_⟩
        · unfold PyData.showableAll
          rw [a1, a]
          rfl
        · unfold PyData.depthAll
          rw [b, c1]
          rfl
        · unfold PyData.shownAll
          rw [List.map_cons, List.sum_cons, List.length_cons]
          omega
        · unfold PyData.shownAll
          rw [List.length_cons, List.length_cons, e]
    obtain ⟨a, b, c, e⟩ := h1
    refine ⟨?_, ?_, ?_⟩
    · unfold PyData.showable
      exact a
    · unfold PyData.shown
      have := tupleText_len_le (PyData.shownAll ds)
      omega
    · unfold PyData.depth
      omega
  have hs : ∀ x : Str, (reprText x).length ≤ 82 → (PyData.str x).showable = true ∧ (PyData.str x).shown.length ≤ 82 ∧ (PyData.str x).depth = 0 := fun x h => ⟨by unfold PyData.showable; rfl, by unfold PyData.shown; exact h, by unfold PyData.depth; rfl⟩
  have hi : ∀ l : Int, 0 ≤ l → l < 1000000000 → (PyData.int l).showable = true ∧ (PyData.int l).shown.length ≤ 82 ∧ (PyData.int l).depth = 0 := fun l h0 h1 => ⟨int_show h0 h1, by unfold PyData.shown; have := int_len h0 h1; omega, by unfold PyData.depth; rfl⟩
  cases d with
  | keep =>
    refine key _ (fun x m => ?_) (by simp)
    cases (List.mem_singleton.mp m)
    exact hs _ (Nat.le_trans w (by decide))
  | hear l =>
    refine key _ (fun x m => ?_) (by simp)
    rcases List.mem_cons.mp m with rfl | m
    · exact hs _ (Nat.le_trans w (by decide))
    · cases (List.mem_singleton.mp m)
      exact hi l h.1 h.2
  | tell l k =>
    refine key _ (fun x m => ?_) (by simp)
    rcases List.mem_cons.mp m with rfl | m
    · exact hs _ (Nat.le_trans w (by decide))
    · rcases List.mem_cons.mp m with rfl | m
      · exact hi l h.1 h.2.1
      · cases (List.mem_singleton.mp m)
        exact hs _ (repr_name h.2.2)
theorem show_row : ∀ {r : List Deed}, (∀ d ∈ r, LetterSmall d) → PyData.showableAll (r.map deedD) = true ∧ PyData.depthAll (r.map deedD) ≤ 1 ∧ ((PyData.shownAll (r.map deedD)).map (·.length)).sum ≤ 300 * r.length ∧ (PyData.shownAll (r.map deedD)).length = r.length
  | [], _ => ⟨rfl, Nat.zero_le _, Nat.zero_le _, rfl⟩
  | d :: r, h => by
    obtain ⟨a, b, c, e⟩ := show_row (r := r) fun y m => h y (List.mem_cons_of_mem _ m)
    obtain ⟨a1, b1, c1⟩ := show_deed (h d (List.mem_cons_self ..))
    rw [List.map_cons]
    refine ⟨?_, ?_, ?_, ?_⟩
    · unfold PyData.showableAll
      rw [a1, a]
      rfl
    · unfold PyData.depthAll
      omega
    · unfold PyData.shownAll
      rw [List.map_cons, List.sum_cons, List.length_cons]
      omega
    · unfold PyData.shownAll
      rw [List.length_cons, List.length_cons, e]
theorem show_rows : ∀ {p : Past}, (∀ q ∈ p, nameOk q.1 = true ∧ ∀ d ∈ q.2, LetterSmall d) → PyData.showableKv (pastKv p) = true ∧ PyData.depthKv (pastKv p) ≤ 2 ∧
    ((PyData.shownKv (pastKv p)).map (·.length)).sum ≤ 100 * p.length + 302 * (p.map fun q => q.2.length).sum ∧ (PyData.shownKv (pastKv p)).length = p.length
  | [], _ => ⟨rfl, Nat.zero_le _, Nat.zero_le _, rfl⟩
  | (h, r) :: p, hh => by
    obtain ⟨a, b, c, e⟩ := show_rows (p := p) fun y m => hh y (List.mem_cons_of_mem _ m)
    obtain ⟨n1, d1⟩ := hh _ (List.mem_cons_self ..)
    have d1 : ∀ d ∈ r, LetterSmall d := d1
    obtain ⟨a1, b1, c1, e1⟩ := show_row d1
    have nl : (reprText h).length ≤ 82 := repr_name n1
    show PyData.showableKv ((.str h, rowD r) :: pastKv p) = true ∧ PyData.depthKv ((.str h, rowD r) :: pastKv p) ≤ 2 ∧ ((PyData.shownKv ((.str h, rowD r) :: pastKv p)).map (·.length)).sum ≤ _ ∧ (PyData.shownKv ((.str h, rowD r) :: pastKv p)).length = _
    refine ⟨?_, ?_, ?_, ?_⟩
    · unfold PyData.showableKv
      rw [a]
      show ((PyData.str h).showable && (PyData.list (r.map deedD)).showable && true) = true
      unfold PyData.showable
      rw [a1]
      rfl
    · unfold PyData.depthKv
      show max (max (PyData.str h).depth (PyData.list (r.map deedD)).depth) _ ≤ 2
      unfold PyData.depth
      omega
    · unfold PyData.shownKv
      rw [List.map_cons, List.sum_cons, List.map_cons, List.sum_cons, List.length_cons]
      have l1 : ((PyData.str h).shown ++ ": " ++ (rowD r).shown).length = (reprText h).length + 2 + (listText (PyData.shownAll (r.map deedD))).length := by
        have e1 : (PyData.str h).shown = reprText h := by
          unfold PyData.shown
          rfl
        have e2 : (rowD r).shown = listText (PyData.shownAll (r.map deedD)) := by
          show (PyData.list (r.map deedD)).shown = _
          unfold PyData.shown
          rfl
        rw [e1, e2, Str.length_append, Str.length_append]
        rfl
      have l2 := listText_len_le (PyData.shownAll (r.map deedD))
      have z : ((h, r) : Str × List Deed).2.length = r.length := rfl
      rw [l1, z]
      omega
    · unfold PyData.shownKv
      rw [List.length_cons, List.length_cons, e]
theorem show_past {p : Past} (h : ∀ q ∈ p, nameOk q.1 = true ∧ ∀ d ∈ q.2, LetterSmall d) (few : p.length ≤ 40) (all : (p.map fun q => q.2.length).sum ≤ 4000) : (pastD p).showable = true ∧ (pastD p).shown.length ≤ sizeLine ∧ (pastD p).depth ≤ 60 := by
  obtain ⟨a, b, c, e⟩ := show_rows h
  unfold pastD
  refine ⟨?_, ?_, ?_⟩
  · unfold PyData.showable
    exact a
  · unfold PyData.shown
    have := dictText_len_le (PyData.shownKv (pastKv p))
    have : 16000000 < sizeLine := by decide
    omega
  · unfold PyData.depth
    omega
theorem small_letters {p : Past} (g : GoodP p) (lt : ∀ l ∈ toldP p, l < 1000000000) : ∀ q ∈ p, nameOk q.1 = true ∧ ∀ d ∈ q.2, LetterSmall d := fun q m => by
  refine ⟨g.names q m, fun d md => ?_⟩
  have gd := g.deeds q m d md
  cases d with
  | keep => trivial
  | tell l h => exact ⟨gd.1, lt l (List.mem_flatMap.mpr ⟨q, m, List.mem_filterMap.mpr ⟨_, md, rfl⟩⟩), gd.2.1⟩
  | hear l =>
    have h1 : (l, q.1) ∈ hearsP p := List.mem_flatMap.mpr ⟨q, m, List.mem_filterMap.mpr ⟨_, md, rfl⟩⟩
    have h2 := g.heard.1 _ h1
    have h3 : l ∈ toldP p := by
      rw [← tells_fst]
      exact List.mem_map.mpr ⟨_, h2, rfl⟩
    exact ⟨gd, lt l h3⟩
theorem rowsOf_none {p : Past} {h : Str} (hn : h ∉ p.map (·.1)) : rowsOf p h = [] := by
  unfold rowsOf look
  have : (p.find? fun q => decide (q.1 = h)) = none := by
    rw [List.find?_eq_none]
    intro x mx
    simp only [decide_eq_true_eq]
    exact fun y => hn (List.mem_map.mpr ⟨x, mx, y⟩)
  rw [this]
  rfl
theorem rowsOf_perm {p q : Past} (h : q.Perm p) (nd : (p.map (·.1)).Nodup) : rowsOf q = rowsOf p := by
  funext x
  have nd' : (q.map (·.1)).Nodup := (h.map _).nodup_iff.mpr nd
  by_cases m : x ∈ p.map (·.1)
  · obtain ⟨z, mz, rfl⟩ := List.mem_map.mp m
    rw [rowsOf_mem nd mz, rowsOf_mem nd' (h.mem_iff.mpr mz)]
  · rw [rowsOf_none m, rowsOf_none fun y => m ((h.map _).mem_iff.mp y)]
theorem GoodP.perm {p q : Past} (h : q.Perm p) (g : GoodP p) : GoodP q := by
  have hn : (q.map (·.1)).Perm (p.map (·.1)) := h.map _
  have ht : (toldP q).Perm (toldP p) := h.flatMap_right _
  have hh : (hearsP q).Perm (hearsP p) := h.flatMap_right _
  have he : (tellsP q).Perm (tellsP p) := h.flatMap_right _
  refine ⟨by rw [h.length_eq]; exact g.some, by rw [h.length_eq]; exact g.few, hn.nodup_iff.mpr g.nd, fun x m => g.names x (h.mem_iff.mp m), fun x m d md => ?_, ht.nodup_iff.mpr g.told, ⟨fun x m => he.mem_iff.mpr (g.heard.1 x (hh.mem_iff.mp m)), (hh.map _).nodup_iff.mpr g.heard.2⟩, fun ys perm srt => ?_⟩
  · have gd := g.deeds x (h.mem_iff.mp m) d md
    cases d with
    | keep => trivial
    | tell l k => exact ⟨gd.1, gd.2.1, hn.mem_iff.mpr gd.2.2.1, gd.2.2.2⟩
    | hear l => exact gd
  · rw [rowsOf_perm h g.nd, total_perm _ hn]
    exact g.come ys (perm.trans hn) srt
/-- the rows in another order -/
def inOrder (p : Past) (zs : List Str) : Past := zs.map fun h => (h, rowsOf p h)
theorem inOrder_self {p : Past} (nd : (p.map (·.1)).Nodup) : inOrder p (p.map (·.1)) = p := by
  unfold inOrder
  rw [List.map_map]
  have : p.map ((fun h => (h, rowsOf p h)) ∘ fun q => q.1) = p.map id := List.map_congr_left fun q m => by
    show (q.1, rowsOf p q.1) = q
    rw [rowsOf_mem nd m]
  rw [this, List.map_id]
theorem inOrder_perm {p : Past} (nd : (p.map (·.1)).Nodup) {zs : List Str} (h : zs.Perm (p.map (·.1))) : (inOrder p zs).Perm p := by
  have := h.map fun h => (h, rowsOf p h)
  have e := inOrder_self nd
  unfold inOrder at e
  rw [e] at this
  exact this
theorem inOrder_names (p : Past) (zs : List Str) : (inOrder p zs).map (·.1) = zs := by
  unfold inOrder
  rw [List.map_map]
  exact List.map_id _
theorem sum_perm {α : Type} {f : α → Nat} {p q : List α} (h : p.Perm q) : (p.map f).sum = (q.map f).sum := by
  induction h with
  | nil => rfl
  | cons x _ ih => simp only [List.map_cons, List.sum_cons, ih]
  | swap x y l => simp only [List.map_cons, List.sum_cons]; omega
  | trans _ _ a b => exact a.trans b
end L2.Fb.Law

namespace L2.Fb
open PySem PySem.Spec
open PyProof.Rows
/-! ### sorted(..) of many whole numbers -/
def rSortedA (K : PySem.W.Frag) : List V → Hp → VK → Prop := fun vs H Q => ∃ a ns, vs = [.ref a] ∧ SqL K H a (ns.map V.int) ∧ ∀ (ns' : List Int) (p : Addr), ns'.Perm ns → ns'.Pairwise (· ≤ ·) → H p = none → Q (.ref p) (upd H p (.lst (ns'.map V.int)))
theorem cr_sortedAny {X : Cx} : CallR X (.builtin "sorted") (rSortedA X.K) := by
  intro pins s σ H xs us Q I v h
  obtain ⟨a, ns, rfl, sl, q⟩ := h
  obtain ⟨its, vv, pl, le⟩ := I.list sl
  obtain rfl := Vals.ref1 v
  have hi : IntsAre its ns := Vals.ints vv
  have ln := vv.length
  refine sorted_intsAny pl.isList hi (by omega) fun out ns' ho pm pw => ?_
  obtain ⟨e, he⟩ := sortedAll_at s.heap its out
  refine ⟨.ref (s.heap.objs.size + 1), _, I.laid (o := .lst (ns'.map V.int)) (t' := s.toks) (fun b u z => sortedAll_old z) (Nat.le_succ _) ⟨?_, out.toList, e, vals_of_ints ho, he⟩, rfl, q ns' _ pm pw (I.hok.fresh (Nat.le_succ _))⟩
  rw [List.length_map, pm.length_eq]
  rw [List.length_map] at le
  exact le
theorem cr_sortedAnyK {X : Cx} {K : PySem.W.Frag} (hK : X.K = K) : CallR X (.builtin "sorted") (rSortedA K) := hK ▸ cr_sortedAny
/-! ### a dict that an expression makes, walked by its keys: left locked -/
def tFrz (td : TE) : TE := fun σ H Q => td σ H fun x H1 => ∃ d kvs, x = .ref d ∧ H1 d = some (.dK kvs) ∧ ∀ od, Q x (upd H1 d (.frz od (.dK kvs)))
theorem pe_frz {X : Cx} {e : Expr} {td : TE} (h : PE X e td) : PE X e (tFrz td) := by
  refine ⟨fun pins s σ H Q I hw => thn (h.run pins s σ H _ I hw) fun u s' q => ?_⟩
  obtain ⟨v, H', I', rv, d, kvs, ev, e, q⟩ := q
  obtain ⟨od, J⟩ := I'.lock e trivial
  exact ⟨v, _, J, rv, q od⟩
theorem op_eqDK {X : Cx} {K : PySem.W.Frag} (hK : X.K = K) (h : X.A.units + 64 < cLine) : OpR X (compareOp .Eq) (rEqD K) := hK ▸ op_eqD h
theorem op_neDK {X : Cx} {K : PySem.W.Frag} (hK : X.K = K) (h : X.A.units + 64 < cLine) : OpR X (compareOp .NotEq) (rNeD K) := hK ▸ op_neD h
end L2.Fb

namespace L2.Fb
open PySem PySem.Spec
open PyProof.Rows
/-! ### xs.count(thing), by data -/
def rCountD (K : PySem.W.Frag) : V → List V → Hp → VK → Prop := fun x vs H Q => ∃ l ys ds y d, x = .ref l ∧ vs = [y] ∧ SqL K H l ys ∧ DpAll K H ys ds ∧ Dp K H y d ∧ PyData.canLayAll0 ds = true ∧ d.canLay0 = true ∧ PyData.depthAll ds ≤ 60 ∧ Q (.int ((ds.countP fun e => e.eqv d : Nat) : Int)) H
theorem mt_lcountD {X : Cx} (hu : X.A.units + 64 < cLine) : MtM X "list.count" (rCountD X.K) := by
  intro pins s σ H x xs v us Q I rx rv h
  obtain ⟨l, ys, ds, y, d, rfl, rfl, sl, da, dd, c1, c2, d1, q⟩ := h
  cases rx
  obtain ⟨u, rfl, ru⟩ := vals1 rv
  obtain ⟨its, vv, pl, le⟩ := I.list sl
  obtain ⟨as, ra⟩ := Dp.readsAll I ds ys its da vv
  obtain ⟨bs, rb⟩ := Dp.reads I d y u dd ru
  have ty := pl.isList.typeIs
  obtain ⟨o, n, g, oc, od, odat⟩ := pl
  have key := SeqAt.items_eqAt (A := X.A) (s := s) (vs := its.toArray) (by simpa using ra) rb c1 c2 (by omega)
  have ob : s.heap.get? l = some { cls := .type "list", dict := none, data := .seq its.toArray n, slots := o.slots } := by
    rw [g]
    cases o
    simp_all
  refine call_meets PySem.F.slot_list_count ty PySem.F.entry_list_count (PySem.F.args_list_count_2 _ _) (SeqAt.list_countAt l its.toArray n none o.slots u _) ⟨ob, key, ?_⟩
  have e := SeqAt.readsAll_map ds its as c1 ra
  have ec : List.countP (fun y => (SeqAt.readOf s.heap y).eqv d) its = ds.countP fun e => e.eqv d := by
    rw [← e, List.countP_map]
    rfl
  refine ⟨.int ((List.countP (fun y => (SeqAt.readOf s.heap y).eqv d) its : Nat) : Int), H, I.kept (t' := s.toks + 1) (fun _ _ e => e), ⟨s.toks, rfl⟩, ?_⟩
  show Q (V.int ((List.countP (fun y => (SeqAt.readOf s.heap y).eqv d) its : Nat) : Int)) H
  rw [ec]
  exact q
theorem mt_lcountDK {X : Cx} {K : PySem.W.Frag} (hK : X.K = K) (hu : X.A.units + 64 < cLine) : MtM X "list.count" (rCountD K) := hK ▸ mt_lcountD hu
/-! ### a dict made empty -/
def rClearD : V → List V → Hp → VK → Prop := fun x vs H Q => ∃ m kvs, x = .ref m ∧ vs = [] ∧ H m = some (.dK kvs) ∧ Q .non (upd H m (.dK []))
theorem mt_dclear {X : Cx} : MtM X "dict.clear" rClearD := by
  intro pins s σ H x xs v us Q I rx rv h
  obtain ⟨m, kvs, rfl, rfl, e, q⟩ := h
  cases rx
  obtain rfl := Vals.zero rv
  obtain ⟨le, sysm, vs, kv, dof⟩ := dk_of I.hok e
  refine call_meetsIn PySem.F.slot_dict_clear dof.typeIs PySem.F.entry_dict_clear (PySem.F.args_dict_clear_1 _) (meets_dict_clear (mixKind X.prog X.w) m) ⟨vs, dof, by rw [← KV.length kv]; exact le, fun h' d0 sb => ?_⟩
  have ex : ∃ q, h'.get? m = some q := by
    obtain ⟨o, es, ep, ho, _⟩ := d0
    exact ⟨o, ho⟩
  exact ⟨.non, _, d_write (t' := s.toks) (ob := .dK []) I (by rw [e]; trivial) sb ex (dk_new (Nat.zero_le _) sysm .nil d0), rfl, q⟩
end L2.Fb

namespace L2.Fb.Law
open PySem PySem.Spec
open PyProof.Rows
section
variable {K : PySem.W.Frag}
theorem sqt_un {H H1 H' : Hp} {a t : Addr} {ks : List (Key × V)} {od : Obj} {un : Hp → Hp} {xs : List V} (L : Lkd H a ks od un H1) (ha : H' a = some (.frz od (.dK ks))) (h : SqT K H' t xs) : SqT K (un H') t xs := by
  rcases h with (h | ⟨o, h⟩) | h
  · exact .inl (.inl (by rw [L.unOff H' t fun z => by rw [z, ha] at h; cases h]; exact h))
  · exact .inl (.inr ⟨o, by rw [L.unOff H' t fun z => by rw [z, ha] at h; cases h]; exact h⟩)
  · exact .inr h
end
end L2.Fb.Law

namespace L2.Fb
open PySem PySem.Spec
open PyProof.Rows
/-! ### sorted(dict) of many whole-number keys -/
theorem call_sortedDIA {X : Cx} (hc : X.calm = true) : CallR X (.builtin "sorted") (fun xs H Q => ∃ a kvs ks, xs = [.ref a] ∧ Rd H a (.dK kvs) ∧ kvs.map (·.1) = ks.map Sum.inl ∧ ∀ (ys : List Int) (p : Addr), ys.Perm ks → ys.Pairwise (· ≤ ·) → H p = none → Q (.ref p) (upd H p (.lst (ys.map V.int)))) := by
  intro pins s σ H xs us Q I rv h
  obtain ⟨a, kvs, ks, rfl, rd, ek, q⟩ := h
  obtain rfl := Vals.ref1 rv
  obtain ⟨le, sysm, vs, kv, dof⟩ := dk_rd I.hok rd
  obtain ⟨ep, dat⟩ := dof.dictAt
  have lv : vs.length = ks.length := by
    have h1 := congrArg List.length ek
    rw [List.length_map, List.length_map] at h1
    rw [← h1]
    exact (KV.length kv).symm
  have lk : kvs.length = vs.length := KV.length kv
  refine Calls.call_function_entry kind_sorted plain_sorted entry_sorted (args_sorted1 _) ?_
  unfold Builtin.sorted
  refine wpAny_bind (wpAny_pure ?_)
  refine wpAny_bind (PySem.W.kdu_collect (PySem.W.kdl_dict (knd := mixKind X.prog X.w) sysm) (I.ok.hd hc) dat (by omega) fun h' tk acc old items => ?_)
  have I1 := I.kept (h' := h') (t' := tk) old
  have lacc : acc.toList.length = ks.length := by
    rw [Array.length_toList, items.1]
    exact lv
  have kk : vs.map (·.1) = ks.map Sum.inl := by rw [← KV.keys kv]; exact ek
  have hi : IntsAre acc.toList ks := by
    refine ints_each lacc fun j v e => ?_
    rw [Array.getElem?_toList] at e
    obtain ⟨k, x, ev, kx⟩ := items.2 j v e
    have h1 : (vs.map (·.1))[j]? = some k := by rw [List.getElem?_map, ev]; rfl
    rw [kk, List.getElem?_map] at h1
    cases h2 : ks[j]? with
    | none => rw [h2] at h1; cases h1
    | some i =>
      rw [h2] at h1
      cases h1
      have kx : keyIs (Sum.inl i) v = true := kx
      rcases keyIs_shape kx with ⟨i', t, e1, e2⟩ | ⟨y, t, e1, e2⟩
      · cases e1
        exact ⟨_, t, rfl, e2⟩
      · cases e1
  refine wpAny_bind (wpAny_newList ?_ (by omega))
  have at0 : (h'.push (seqObj "list" acc.toList.toArray 0)).get? h'.objs.size = some (seqObj "list" acc.toList.toArray 0) := Heap.get?_push_size _ rfl
  refine wpAny_bind (wpAny_holding (wpAny_call_entry slot_list_sort ⟨_, Heap.get?_push_size _ rfl, rfl⟩ entry_list_sort (list_sort_treeAny (Heap.get?_push_size _ rfl) hi (by omega) fun out ns' ho pm pw => ⟨_, rfl, ?_⟩)))
  refine wpAny_pure ⟨_, rfl, ?_⟩
  have fr : H h'.objs.size = none := I1.hok.fresh (Nat.le_refl _)
  obtain ⟨e, he⟩ := sortedHeap_at (out := out) (vs := acc.toList) (n := 0) at0
  refine ⟨.ref h'.objs.size, _, I1.laid (o := .lst (ns'.map V.int)) (t' := tk) (fun b u z => ?_) (Nat.le_refl _) ⟨?_, out.toList, e, vals_of_ints ho, he⟩, rfl, q ns' _ pm pw fr⟩
  · have lt := Heap.lt_size z
    rw [sortedHeap_old (Nat.ne_of_lt lt) (by rw [size_push']; exact Nat.lt_succ_of_lt lt)]
    exact Heap.get?_push_of_some _ z
  · rw [List.length_map, pm.length_eq]
    omega
end L2.Fb

namespace L2.Fb.Law
open PySem PySem.Spec
open PyProof.Rows
/-! ### a point kept ahead of all that a hand did -/
def frontD : Past → Str → Past
  | [], _ => []
  | q :: p, h => if q.1 = h then (q.1, .keep :: q.2) :: p else q :: frontD p h
theorem look_cons (q : Str × List Deed) (p : Past) (h : Str) : look (q :: p) h = if q.1 = h then some q.2 else look p h := by
  unfold look
  by_cases z : q.1 = h
  · rw [if_pos z, List.find?_cons_of_pos (by simp [z])]
    rfl
  · rw [if_neg z, List.find?_cons_of_neg (by simp [z])]
theorem front_pos {q : Str × List Deed} {p : Past} {h : Str} (z : q.1 = h) : frontD (q :: p) h = (q.1, .keep :: q.2) :: p := if_pos z
theorem front_neg {q : Str × List Deed} {p : Past} {h : Str} (z : ¬ q.1 = h) : frontD (q :: p) h = q :: frontD p h := if_neg z
theorem front_names (h : Str) : ∀ p : Past, (frontD p h).map (·.1) = p.map (·.1)
  | [] => rfl
  | q :: p => by
    by_cases z : q.1 = h
    · rw [front_pos z]; rfl
    · rw [front_neg z, List.map_cons, List.map_cons, front_names h p]
theorem front_len (h : Str) (p : Past) : (frontD p h).length = p.length := by
  have := congrArg List.length (front_names h p)
  simpa using this
theorem front_told (h : Str) : ∀ p : Past, toldP (frontD p h) = toldP p
  | [] => rfl
  | q :: p => by
    by_cases z : q.1 = h
    · rw [front_pos z]; rfl
    · rw [front_neg z]
      show toldR q.2 ++ toldP (frontD p h) = toldR q.2 ++ toldP p
      rw [front_told h p]
theorem front_tells (h : Str) : ∀ p : Past, tellsP (frontD p h) = tellsP p
  | [] => rfl
  | q :: p => by
    by_cases z : q.1 = h
    · rw [front_pos z]; rfl
    · rw [front_neg z]
      show q.2.filterMap tellT ++ tellsP (frontD p h) = q.2.filterMap tellT ++ tellsP p
      rw [front_tells h p]
theorem front_hears (h : Str) : ∀ p : Past, hearsP (frontD p h) = hearsP p
  | [] => rfl
  | q :: p => by
    by_cases z : q.1 = h
    · rw [front_pos z]; rfl
    · rw [front_neg z]
      show hearsR q ++ hearsP (frontD p h) = hearsR q ++ hearsP p
      rw [front_hears h p]
theorem front_sum (h : Str) : ∀ p : Past, ((frontD p h).map fun q => q.2.length).sum ≤ (p.map fun q => q.2.length).sum + 1
  | [] => Nat.zero_le _
  | q :: p => by
    by_cases z : q.1 = h
    · rw [front_pos z, List.map_cons, List.map_cons, List.sum_cons, List.sum_cons, List.length_cons]
      omega
    · have := front_sum h p
      rw [front_neg z, List.map_cons, List.map_cons, List.sum_cons, List.sum_cons]
      omega
theorem front_mem (h : Str) : ∀ (p : Past) (q : Str × List Deed), q ∈ frontD p h → ∃ q' ∈ p, q'.1 = q.1 ∧ ∀ d ∈ q.2, d = .keep ∨ d ∈ q'.2
  | [], q, m => by cases m
  | q0 :: p, q, m => by
    by_cases z : q0.1 = h
    · rw [front_pos z] at m
      rcases List.mem_cons.mp m with rfl | m
      · exact ⟨q0, List.mem_cons_self .., rfl, fun d md => (List.mem_cons.mp md).imp id id⟩
      · exact ⟨q, List.mem_cons_of_mem _ m, rfl, fun d md => .inr md⟩
    · rw [front_neg z] at m
      rcases List.mem_cons.mp m with rfl | m
      · exact ⟨q, List.mem_cons_self .., rfl, fun d md => .inr md⟩
      · obtain ⟨q', m', e, f⟩ := front_mem h p q m
        exact ⟨q', List.mem_cons_of_mem _ m', e, f⟩
theorem front_rows {h : Str} (x : Str) : ∀ {p : Past}, h ∈ p.map (·.1) → rowsOf (frontD p h) x = if x = h then .keep :: rowsOf p x else rowsOf p x
  | [], m => by cases m
  | q :: p, m => by
    unfold rowsOf
    by_cases z : q.1 = h
    · rw [front_pos z, look_cons, look_cons]
      show (if q.1 = x then some (Deed.keep :: q.2) else look p x).getD [] = _
      by_cases y : q.1 = x
      · rw [if_pos y, if_pos y, if_pos (by rw [← y, z])]
        rfl
      · rw [if_neg y, if_neg y, if_neg fun e => y (by rw [z, e])]
    · rw [front_neg z, look_cons, look_cons]
      have m' : h ∈ p.map (·.1) := by
        rcases List.mem_cons.mp m with e | m
        · exact absurd e.symm z
        · exact m
      have ih := front_rows x m'
      unfold rowsOf at ih
      by_cases y : q.1 = x
      · rw [if_pos y, if_pos y, if_neg fun e => z (by rw [y, e])]
      · rw [if_neg y, if_neg y]
        exact ih
variable {ns : List Str} {L : Nat → Int} {n : Nat} {pa : Past} {ly : List (Int × Str)}
theorem Grow.front (G : Grow ns L n pa ly) {h0 : Str} (m0 : h0 ∈ ns) : Grow ns L (n + 1) (frontD pa h0) ly where
  names := by rw [front_names]; exact G.names
  deeds := fun x m y my => by
    obtain ⟨q', m', e, f⟩ := front_mem h0 pa x m
    rcases f y my with rfl | my
    · trivial
    · rw [← e]; exact G.deeds q' m' y my
  told := by rw [front_told]; exact G.told
  from_ := fun l m => by
    rw [front_told] at m
    obtain ⟨j, h, e⟩ := G.from_ l m
    exact ⟨j, by omega, e⟩
  lying := by rw [front_hears, front_tells]; exact G.lying
  few := by have := G.few; have := front_sum h0 pa; omega
  timed := by
    obtain ⟨t, a, b, c⟩ := G.timed
    have m0' : h0 ∈ pa.map (·.1) := by rw [G.names]; exact m0
    have R := fun x => front_rows (h := h0) x m0'
    -- at place i of the new row of x: the time
    let u : Str → Nat → Nat := fun x i => if x = h0 then (match i with | 0 => 0 | i + 1 => t x i + 1) else t x i + 1
    have uh : ∀ i, u h0 (i + 1) = t h0 i + 1 := fun i => by show (if h0 = h0 then _ else _) = _; rw [if_pos rfl]
    have u0 : u h0 0 = 0 := by show (if h0 = h0 then _ else _) = _; rw [if_pos rfl]
    have un : ∀ {x} i, x ≠ h0 → u x i = t x i + 1 := fun {x} i z => by show (if x = h0 then _ else _) = _; rw [if_neg z]
    refine ⟨u, fun x i q => ?_, fun x i j lt q => ?_, fun x l j mx e => ?_⟩
    · rw [R] at q
      by_cases z : x = h0
      · subst z
        rw [if_pos rfl, List.length_cons] at q
        cases i with
        | zero => rw [u0]; omega
        | succ i =>
          have := a x i (by omega)
          rw [uh]; omega
      · rw [if_neg z] at q
        have := a x i q
        rw [un i z]; omega
    · rw [R] at q
      by_cases z : x = h0
      · subst z
        rw [if_pos rfl, List.length_cons] at q
        cases j with
        | zero => omega
        | succ j =>
          rw [uh]
          cases i with
          | zero => rw [u0]; omega
          | succ i =>
            have := b x i j (by omega) (by omega)
            rw [uh]; omega
      · rw [if_neg z] at q
        have := b x i j lt q
        rw [un i z, un j z]; omega
    · -- a letter heard
      have key : ∃ j0, (rowsOf pa x)[j0]? = some (Deed.hear l) ∧ u x j = t x j0 + 1 := by
        rw [R] at e
        by_cases z : x = h0
        · subst z
          rw [if_pos rfl] at e
          cases j with
          | zero => cases e
          | succ j => exact ⟨j, e, uh j⟩
        · rw [if_neg z] at e
          exact ⟨j, e, un j z⟩
      obtain ⟨j0, e0, ej⟩ := key
      obtain ⟨h', mh', j', e', lt⟩ := c x l j0 mx e0
      by_cases z : h' = h0
      · subst z
        refine ⟨h', mh', j' + 1, ?_, ?_⟩
        · rw [R, if_pos rfl]; exact e'
        · rw [uh, ej]; omega
      · refine ⟨h', mh', j', ?_, ?_⟩
        · rw [R, if_neg z]; exact e'
        · rw [un j' z, ej]; omega
end L2.Fb.Law

/-! Trees: data as they stand in the heap, whose they are. -/
namespace L2.Fb.T
open PySem PySem.Spec
open PyProof.Rows
def kT (k : List Key) : PyData := .tuple (k.map kD)
mutual
inductive Dt (K : PySem.W.Frag) (H : Hp) : V → PyData → Prop
  | non : Dt K H .non .none
  | bl (b : Bool) : Dt K H (.bl b) (.bool b)
  | int (i : Int) : Dt K H (.int i) (.int i)
  | str (x : Str) : Dt K H (.str x) (.str x)
  | lst {a : Addr} {xs : List V} {ds : List PyData} : H a = some (.lst xs) → DtL K H xs ds → Dt K H (.ref a) (.list ds)
  | tup {a : Addr} {xs : List V} {ds : List PyData} : H a = some (.tup xs) → DtL K H xs ds → Dt K H (.ref a) (.tuple ds)
  | dct {a : Addr} {ks : List (Key × V)} {ds : List (PyData × PyData)} : Rd H a (.dK ks) → DtK K H ks ds → Dt K H (.ref a) (.dict ds)
  | dtt {a : Addr} {ks : List (List Key × V)} {ds : List (PyData × PyData)} : Rd H a (.dT ks) → DtT K H ks ds → Dt K H (.ref a) (.dict ((.none, .none) :: ds))
inductive DtL (K : PySem.W.Frag) (H : Hp) : List V → List PyData → Prop
  | nil : DtL K H [] []
  | cons {v : V} {vs : List V} {d : PyData} {ds : List PyData} : Dt K H v d → DtL K H vs ds → DtL K H (v :: vs) (d :: ds)
inductive DtK (K : PySem.W.Frag) (H : Hp) : List (Key × V) → List (PyData × PyData) → Prop
  | nil : DtK K H [] []
  | cons {k : Key} {v : V} {r : List (Key × V)} {d : PyData} {ds : List (PyData × PyData)} : Dt K H v d → DtK K H r ds → DtK K H ((k, v) :: r) ((kD k, d) :: ds)
inductive DtT (K : PySem.W.Frag) (H : Hp) : List (List Key × V) → List (PyData × PyData) → Prop
  | nil : DtT K H [] []
  | cons {k : List Key} {v : V} {r : List (List Key × V)} {d : PyData} {ds : List (PyData × PyData)} : Dt K H v d → DtT K H r ds → DtT K H ((k, v) :: r) ((kT k, d) :: ds)
end
mutual
def flat : PyData → Bool
  | .list _ => false
  | .dict _ => false
  | .tuple ds => flatL ds
  | _ => true
def flatL : List PyData → Bool
  | [] => true
  | d :: ds => flat d && flatL ds
end
/-- what is read of H is read of H' (but for locks themselves) -/
structure LeP (H H' : Hp) : Prop where
  l : ∀ a xs, H a = some (.lst xs) → H' a = some (.lst xs)
  t : ∀ a xs, H a = some (.tup xs) → H' a = some (.tup xs)
  k : ∀ a ks, Rd H a (.dK ks) → Rd H' a (.dK ks)
  d : ∀ a ks, Rd H a (.dT ks) → Rd H' a (.dT ks)
section
variable {K : PySem.W.Frag} {H H' : Hp}
theorem same_lep (e : Same H H') : LeP H H' := ⟨fun a xs h => e _ _ h, fun a xs h => e _ _ h, fun a ks h => same_le e _ _ h, fun a ks h => same_le e _ _ h⟩
mutual
theorem Dt.le (e : LeP H H') : ∀ (d : PyData) {v : V}, Dt K H v d → Dt K H' v d
  | .none, _, h => by cases h; exact .non
  | .bool _, _, h => by cases h; exact .bl _
  | .int _, _, h => by cases h; exact .int _
  | .str _, _, h => by cases h; exact .str _
  | .list _, _, h => by cases h with | lst a b => exact .lst (e.l _ _ a) (DtL.le e _ b)
  | .tuple _, _, h => by cases h with | tup a b => exact .tup (e.t _ _ a) (DtL.le e _ b)
  | .dict _, _, h => by
    cases h with
    | dct a b => exact .dct (e.k _ _ a) (DtK.le e _ b)
    | dtt a b => exact .dtt (e.d _ _ a) (DtT.le e _ b)
theorem DtL.le (e : LeP H H') : ∀ (ds : List PyData) {vs : List V}, DtL K H vs ds → DtL K H' vs ds
  | [], _, h => by cases h; exact .nil
  | _ :: _, _, h => by cases h with | cons a b => exact .cons (Dt.le e _ a) (DtL.le e _ b)
theorem DtK.le (e : LeP H H') : ∀ (ds : List (PyData × PyData)) {vs : List (Key × V)}, DtK K H vs ds → DtK K H' vs ds
  | [], _, h => by cases h; exact .nil
  | _ :: _, _, h => by cases h with | cons a b => exact .cons (Dt.le e _ a) (DtK.le e _ b)
theorem DtT.le (e : LeP H H') : ∀ (ds : List (PyData × PyData)) {vs : List (List Key × V)}, DtT K H vs ds → DtT K H' vs ds
  | [], _, h => by cases h; exact .nil
  | _ :: _, _, h => by cases h with | cons a b => exact .cons (Dt.le e _ a) (DtT.le e _ b)
end
mutual
/-- a flat thing leans on tuples alone -/
theorem Dt.flat (e : ∀ a xs, H a = some (.tup xs) → H' a = some (.tup xs)) : ∀ (d : PyData) {v : V}, flat d = true → Dt K H v d → Dt K H' v d
  | .none, _, _, h => by cases h; exact .non
  | .bool _, _, _, h => by cases h; exact .bl _
  | .int _, _, _, h => by cases h; exact .int _
  | .str _, _, _, h => by cases h; exact .str _
  | .list _, _, f, _ => by simp [T.flat] at f
  | .tuple ds, _, f, h => by
    cases h with
    | tup a b => exact .tup (e _ _ a) (DtL.flat e ds (by simpa [T.flat] using f) b)
  | .dict _, _, f, _ => by simp [T.flat] at f
theorem DtL.flat (e : ∀ a xs, H a = some (.tup xs) → H' a = some (.tup xs)) : ∀ (ds : List PyData) {vs : List V}, flatL ds = true → DtL K H vs ds → DtL K H' vs ds
  | [], _, _, h => by cases h; exact .nil
  | d :: ds, _, f, h => by
    have f : T.flat d = true ∧ flatL ds = true := by simpa [flatL] using f
    cases h with
    | cons a b => exact .cons (Dt.flat e d f.1 a) (DtL.flat e ds f.2 b)
end
theorem DtL.len : ∀ {vs : List V} {ds : List PyData}, DtL K H vs ds → vs.length = ds.length
  | _, _, .nil => rfl
  | _, _, .cons _ b => by rw [List.length_cons, List.length_cons, DtL.len b]
theorem DtK.len : ∀ {vs : List (Key × V)} {ds : List (PyData × PyData)}, DtK K H vs ds → vs.length = ds.length
  | _, _, .nil => rfl
  | _, _, .cons _ b => by rw [List.length_cons, List.length_cons, DtK.len b]
theorem DtL.at : ∀ {xs : List V} {ds : List PyData}, DtL K H xs ds → ∀ (i : Nat) (x : V), xs[i]? = some x → ∃ d, ds[i]? = some d ∧ Dt K H x d
  | _, _, .cons a b, 0, x, e => ⟨_, rfl, by cases e; exact a⟩
  | _, _, .cons a b, i + 1, x, e => DtL.at b i x e
theorem DtL.of : ∀ {xs : List V} {ds : List PyData}, DtL K H xs ds → ∀ (i : Nat) (d : PyData), ds[i]? = some d → ∃ x, xs[i]? = some x ∧ Dt K H x d
  | _, _, .cons a b, 0, d, e => ⟨_, rfl, by cases e; exact a⟩
  | _, _, .cons a b, i + 1, d, e => DtL.of b i d e
theorem DtL.app : ∀ {xs ys : List V} {ds es : List PyData}, DtL K H xs ds → DtL K H ys es → DtL K H (xs ++ ys) (ds ++ es)
  | _, _, _, _, .nil, h => h
  | _, _, _, _, .cons a b, h => .cons a (DtL.app b h)
end
/-! ### no dict with tuples for keys -/
mutual
def plain : PyData → Bool
  | .list ds => plainL ds
  | .tuple ds => plainL ds
  | .dict ds => plainK ds
  | _ => true
def plainL : List PyData → Bool
  | [] => true
  | d :: ds => plain d && plainL ds
def plainK : List (PyData × PyData) → Bool
  | [] => true
  | (.none, _) :: _ => false
  | (_, d) :: ds => plain d && plainK ds
end
section
variable {K : PySem.W.Frag} {H H' : Hp}
theorem rd_dT0 {a : Addr} : True := trivial
end

/-! ### one's own trees -/
mutual
/-- at v stands d, all lists and dicts of it one's own: they stand at F; tuples in G -/
inductive Own (K : PySem.W.Frag) (G H : Hp) : V → PyData → List Addr → Prop
  | non : Own K G H .non .none []
  | bl (b : Bool) : Own K G H (.bl b) (.bool b) []
  | int (i : Int) : Own K G H (.int i) (.int i) []
  | str (x : Str) : Own K G H (.str x) (.str x) []
  | tup {a : Addr} {xs : List V} {ds : List PyData} {F : List Addr} : G a = some (.tup xs) → OwnL K G H xs ds F → Own K G H (.ref a) (.tuple ds) F
  | lst {a : Addr} {xs : List V} {ds : List PyData} {F : List Addr} : H a = some (.lst xs) → OwnL K G H xs ds F → Own K G H (.ref a) (.list ds) (a :: F)
  | dct {a : Addr} {ks : List (Key × V)} {ds : List (PyData × PyData)} {F : List Addr} : H a = some (.dK ks) → OwnK K G H ks ds F → Own K G H (.ref a) (.dict ds) (a :: F)
  | dtt {a : Addr} {ks : List (List Key × V)} {ds : List (PyData × PyData)} {F : List Addr} : H a = some (.dT ks) → OwnT K G H ks ds F → Own K G H (.ref a) (.dict ((.none, .none) :: ds)) (a :: F)
inductive OwnL (K : PySem.W.Frag) (G H : Hp) : List V → List PyData → List Addr → Prop
  | nil : OwnL K G H [] [] []
  | cons {v : V} {vs : List V} {d : PyData} {ds : List PyData} {F F' : List Addr} : Own K G H v d F → OwnL K G H vs ds F' → OwnL K G H (v :: vs) (d :: ds) (F ++ F')
inductive OwnK (K : PySem.W.Frag) (G H : Hp) : List (Key × V) → List (PyData × PyData) → List Addr → Prop
  | nil : OwnK K G H [] [] []
  | cons {k : Key} {v : V} {r : List (Key × V)} {d : PyData} {ds : List (PyData × PyData)} {F F' : List Addr} : Own K G H v d F → OwnK K G H r ds F' → OwnK K G H ((k, v) :: r) ((kD k, d) :: ds) (F ++ F')
inductive OwnT (K : PySem.W.Frag) (G H : Hp) : List (List Key × V) → List (PyData × PyData) → List Addr → Prop
  | nil : OwnT K G H [] [] []
  | cons {k : List Key} {v : V} {r : List (List Key × V)} {d : PyData} {ds : List (PyData × PyData)} {F F' : List Addr} : Own K G H v d F → OwnT K G H r ds F' → OwnT K G H ((k, v) :: r) ((kT k, d) :: ds) (F ++ F')
end
/-- what is seen: G, and of the rest what stands at A -/
def vis (G H : Hp) (A : List Addr) : Hp := fun a => if a ∈ A then H a else G a
section
variable {K : PySem.W.Frag} {G G' H H' : Hp}
theorem vis_at {A : List Addr} {a : Addr} (h : a ∈ A) : vis G H A a = H a := if_pos h
theorem vis_off {A : List Addr} {a : Addr} (h : a ∉ A) : vis G H A a = G a := if_neg h
theorem vis_le {A B : List Addr} (hs : Same G H) (h : ∀ a ∈ A, a ∈ B) : Same (vis G H A) (vis G H B) := fun a u e => by
  by_cases z : a ∈ A
  · rw [vis_at z] at e
    rw [vis_at (h a z)]
    exact e
  · rw [vis_off z] at e
    by_cases y : a ∈ B
    · rw [vis_at y]
      exact hs _ _ e
    · rw [vis_off y]
      exact e
theorem vis_same {A : List Addr} (hs : Same G H) : Same (vis G H A) H := fun a u e => by
  by_cases z : a ∈ A
  · rw [vis_at z] at e
    exact e
  · rw [vis_off z] at e
    exact hs _ _ e
theorem vis_base {A : List Addr} (hs : Same G H) : Same G (vis G H A) := fun a u e => by
  by_cases z : a ∈ A
  · rw [vis_at z]
    exact hs _ _ e
  · rw [vis_off z]
    exact e
mutual
theorem Own.dt (hs : Same G H) {v : V} {d : PyData} {F : List Addr} : Own K G H v d F → ∀ A, (∀ a ∈ F, a ∈ A) → Dt K (vis G H A) v d
  | .non, _, _ => .non
  | .bl _, _, _ => .bl _
  | .int _, _, _ => .int _
  | .str _, _, _ => .str _
  | .tup a b, A, h => .tup (vis_base hs _ _ a) (OwnL.dt hs b A h)
  | .lst a b, A, h => .lst (by rw [vis_at (h _ (List.mem_cons_self ..))]; exact a) (OwnL.dt hs b A fun x m => h x (List.mem_cons_of_mem _ m))
  | .dct a b, A, h => .dct (.inl (by rw [vis_at (h _ (List.mem_cons_self ..))]; exact a)) (OwnK.dt hs b A fun x m => h x (List.mem_cons_of_mem _ m))
  | .dtt a b, A, h => .dtt (.inl (by rw [vis_at (h _ (List.mem_cons_self ..))]; exact a)) (OwnT.dt hs b A fun x m => h x (List.mem_cons_of_mem _ m))
theorem OwnL.dt (hs : Same G H) {v : List V} {d : List PyData} {F : List Addr} : OwnL K G H v d F → ∀ A, (∀ a ∈ F, a ∈ A) → DtL K (vis G H A) v d
  | .nil, _, _ => .nil
  | .cons a b, A, h => .cons (Own.dt hs a A fun x m => h x (List.mem_append_left _ m)) (OwnL.dt hs b A fun x m => h x (List.mem_append_right _ m))
theorem OwnK.dt (hs : Same G H) {v : List (Key × V)} {d : List (PyData × PyData)} {F : List Addr} : OwnK K G H v d F → ∀ A, (∀ a ∈ F, a ∈ A) → DtK K (vis G H A) v d
  | .nil, _, _ => .nil
  | .cons a b, A, h => .cons (Own.dt hs a A fun x m => h x (List.mem_append_left _ m)) (OwnK.dt hs b A fun x m => h x (List.mem_append_right _ m))
theorem OwnT.dt (hs : Same G H) {v : List (List Key × V)} {d : List (PyData × PyData)} {F : List Addr} : OwnT K G H v d F → ∀ A, (∀ a ∈ F, a ∈ A) → DtT K (vis G H A) v d
  | .nil, _, _ => .nil
  | .cons a b, A, h => .cons (Own.dt hs a A fun x m => h x (List.mem_append_left _ m)) (OwnT.dt hs b A fun x m => h x (List.mem_append_right _ m))
end
mutual
/-- the frame: what is not touched stays -/
theorem Own.mv (hg : Same G G') {v : V} {d : PyData} {F : List Addr} : Own K G H v d F → (∀ a u, a ∈ F → H a = some u → H' a = some u) → Own K G' H' v d F
  | .non, _ => .non
  | .bl _, _ => .bl _
  | .int _, _ => .int _
  | .str _, _ => .str _
  | .tup a b, h => .tup (hg _ _ a) (OwnL.mv hg b h)
  | .lst a b, h => .lst (h _ _ (List.mem_cons_self ..) a) (OwnL.mv hg b fun x u m => h x u (List.mem_cons_of_mem _ m))
  | .dct a b, h => .dct (h _ _ (List.mem_cons_self ..) a) (OwnK.mv hg b fun x u m => h x u (List.mem_cons_of_mem _ m))
  | .dtt a b, h => .dtt (h _ _ (List.mem_cons_self ..) a) (OwnT.mv hg b fun x u m => h x u (List.mem_cons_of_mem _ m))
theorem OwnL.mv (hg : Same G G') {v : List V} {d : List PyData} {F : List Addr} : OwnL K G H v d F → (∀ a u, a ∈ F → H a = some u → H' a = some u) → OwnL K G' H' v d F
  | .nil, _ => .nil
  | .cons a b, h => .cons (Own.mv hg a fun x u m => h x u (List.mem_append_left _ m)) (OwnL.mv hg b fun x u m => h x u (List.mem_append_right _ m))
theorem OwnK.mv (hg : Same G G') {v : List (Key × V)} {d : List (PyData × PyData)} {F : List Addr} : OwnK K G H v d F → (∀ a u, a ∈ F → H a = some u → H' a = some u) → OwnK K G' H' v d F
  | .nil, _ => .nil
  | .cons a b, h => .cons (Own.mv hg a fun x u m => h x u (List.mem_append_left _ m)) (OwnK.mv hg b fun x u m => h x u (List.mem_append_right _ m))
theorem OwnT.mv (hg : Same G G') {v : List (List Key × V)} {d : List (PyData × PyData)} {F : List Addr} : OwnT K G H v d F → (∀ a u, a ∈ F → H a = some u → H' a = some u) → OwnT K G' H' v d F
  | .nil, _ => .nil
  | .cons a b, h => .cons (Own.mv hg a fun x u m => h x u (List.mem_append_left _ m)) (OwnT.mv hg b fun x u m => h x u (List.mem_append_right _ m))
end
/-- what may stand at one's own places -/
def Mu : HO → Prop | .lst _ => True | .dK _ => True | .dT _ => True | _ => False
mutual
theorem Own.mu {v : V} {d : PyData} {F : List Addr} : Own K G H v d F → ∀ a ∈ F, ∃ u, H a = some u ∧ Mu u
  | .non, _, m => by cases m
  | .bl _, _, m => by cases m
  | .int _, _, m => by cases m
  | .str _, _, m => by cases m
  | .tup _ b, x, m => OwnL.mu b x m
  | .lst a b, x, m => by
    rcases List.mem_cons.mp m with e | m
    · subst e; exact ⟨_, a, trivial⟩
    · exact OwnL.mu b x m
  | .dct a b, x, m => by
    rcases List.mem_cons.mp m with e | m
    · subst e; exact ⟨_, a, trivial⟩
    · exact OwnK.mu b x m
  | .dtt a b, x, m => by
    rcases List.mem_cons.mp m with e | m
    · subst e; exact ⟨_, a, trivial⟩
    · exact OwnT.mu b x m
theorem OwnL.mu {v : List V} {d : List PyData} {F : List Addr} : OwnL K G H v d F → ∀ a ∈ F, ∃ u, H a = some u ∧ Mu u
  | .nil, _, m => by cases m
  | .cons a b, x, m => (List.mem_append.mp m).elim (Own.mu a x) (OwnL.mu b x)
theorem OwnK.mu {v : List (Key × V)} {d : List (PyData × PyData)} {F : List Addr} : OwnK K G H v d F → ∀ a ∈ F, ∃ u, H a = some u ∧ Mu u
  | .nil, _, m => by cases m
  | .cons a b, x, m => (List.mem_append.mp m).elim (Own.mu a x) (OwnK.mu b x)
theorem OwnT.mu {v : List (List Key × V)} {d : List (PyData × PyData)} {F : List Addr} : OwnT K G H v d F → ∀ a ∈ F, ∃ u, H a = some u ∧ Mu u
  | .nil, _, m => by cases m
  | .cons a b, x, m => (List.mem_append.mp m).elim (Own.mu a x) (OwnT.mu b x)
end
mutual
/-- a flat thing is one's own, whoever has it -/
theorem Own.flat : ∀ (d : PyData) {v : V}, T.flat d = true → Dt K G v d → Own K G H v d []
  | .none, _, _, h => by cases h; exact .non
  | .bool _, _, _, h => by cases h; exact .bl _
  | .int _, _, _, h => by cases h; exact .int _
  | .str _, _, _, h => by cases h; exact .str _
  | .list _, _, f, _ => by simp [T.flat] at f
  | .tuple ds, _, f, h => by
    cases h with
    | tup a b => exact .tup a (OwnL.flat ds (by simpa [T.flat] using f) b)
  | .dict _, _, f, _ => by simp [T.flat] at f
theorem OwnL.flat : ∀ (ds : List PyData) {vs : List V}, flatL ds = true → DtL K G vs ds → OwnL K G H vs ds []
  | [], _, _, h => by cases h; exact .nil
  | d :: ds, _, f, h => by
    have f : T.flat d = true ∧ flatL ds = true := by simpa [flatL] using f
    cases h with
    | cons a b => exact .cons (F := []) (F' := []) (Own.flat d f.1 a) (OwnL.flat ds f.2 b)
end
end
end L2.Fb.T

/-! Slots and what is held for a while, as trees. -/
namespace L2.Fb.T
open PySem PySem.Spec
open PyProof.Rows
inductive Md | shr | own | bor (i : Nat)
  deriving DecidableEq
abbrev Ent := PyData × Md
abbrev S3 := List (Option Ent)
open Classical in
/-- the heap but for what is one's own -/
noncomputable def Gof (H : Hp) (F : Nat → List Addr) : Hp := fun a => if ∃ i, a ∈ F i then none else H a
theorem gof_some {H : Hp} {F : Nat → List Addr} {a : Addr} {u : HO} (e : Gof H F a = some u) : (∀ i, a ∉ F i) ∧ H a = some u := by
  unfold Gof at e
  split at e
  · cases e
  · rename_i h
    exact ⟨fun i m => h ⟨i, m⟩, e⟩
theorem gof_of {H : Hp} {F : Nat → List Addr} {a : Addr} (h : ∀ i, a ∉ F i) : Gof H F a = H a := by
  unfold Gof
  rw [if_neg fun ⟨i, m⟩ => h i m]
theorem gof_same (H : Hp) (F : Nat → List Addr) : Same (Gof H F) H := fun a u e => (gof_some e).2
def En (K : PySem.W.Frag) (G H : Hp) (F : Nat → List Addr) (i : Nat) (v : V) (d : PyData) : Md → Prop
  | .shr => Dt K G v d
  | .own => Own K G H v d (F i)
  | .bor j => Dt K (vis G H (F j)) v d
structure Rel (K : PySem.W.Frag) (N : Nat) (G0 H : Hp) (F : Nat → List Addr) (S : S3) (vs : List (Option V)) : Prop where
  len : vs.length = S.length
  base : Same G0 (Gof H F)
  nodup : ∀ i, (F i).Nodup
  sep : ∀ i j a, a ∈ F i → a ∈ F j → i = j
  ent : ∀ i e, S[i]? = some (some e) → ∃ v, vs[i]? = some (some v) ∧ En K (Gof H F) H F i v e.1 e.2
  empt : ∀ i, (∀ d, S[i]? ≠ some (some (d, .own))) → F i = []
  bnd : ∀ (i : Nat) (d : PyData) (j : Nat), S[i]? = some (some (d, Md.bor j)) → j < N
def R (K : PySem.W.Frag) (N : Nat) (G0 H : Hp) (S : S3) (vs : List (Option V)) : Prop := ∃ F, Rel K N G0 H F S vs
section
variable {K : PySem.W.Frag} {N : Nat} {G0 H H' : Hp} {F F' : Nat → List Addr} {S S' : S3} {vs vs' : List (Option V)}
theorem Rel.here (r : Rel K N G0 H F S vs) {i : Nat} {a : Addr} (m : a ∈ F i) : ∃ u, H a = some u ∧ Mu u := by
  by_cases h : ∃ d, S[i]? = Option.some (Option.some (d, Md.own))
  · obtain ⟨d, h⟩ := h
    obtain ⟨v, _, e⟩ := r.ent i _ h
    exact Own.mu e a m
  · rw [r.empt i fun d e => h ⟨d, e⟩] at m
    cases m
theorem En.dt {G : Hp} {i : Nat} {v : V} {d : PyData} {m : Md} (hs : Same G H) (h : En K G H F i v d m) : Dt K H v d := by
  cases m with
  | shr => exact Dt.le (same_lep hs) _ h
  | own => exact Dt.le (same_lep (vis_same hs)) _ (Own.dt hs h (F i) fun _ m => m)
  | bor j => exact Dt.le (same_lep (vis_same hs)) _ h
theorem Rel.get (r : Rel K N G0 H F S vs) {i : Nat} {e : Ent} (h : S[i]? = Option.some (Option.some e)) : ∃ v, vs[i]? = Option.some (Option.some v) ∧ Dt K H v e.1 := by
  obtain ⟨v, h1, h2⟩ := r.ent i e h
  exact ⟨v, h1, h2.dt (gof_same H F)⟩
theorem Rel.big (r : Rel K N G0 H F S vs) (ch : Nat → Prop) (len : vs'.length = S'.length)
    (keep : ∀ a u, (∀ k, ch k → a ∉ F k) → H a = Option.some u → H' a = Option.some u)
    (same : ∀ k, ¬ ch k → F' k = F k ∨ F' k = []) (new : ∀ k a, ch k → a ∈ F' k → H a = none ∨ ∃ j, ch j ∧ a ∈ F j)
    (nd : ∀ k, ch k → (F' k).Nodup) (dis : ∀ k j a, ch k → ch j → a ∈ F' k → a ∈ F' j → k = j)
    (ent : ∀ i e, S'[i]? = Option.some (Option.some e) → (¬ ch i ∧ S[i]? = Option.some (Option.some e) ∧ vs'[i]? = vs[i]? ∧ (e.2 = .own → F' i = F i) ∧ ∀ j, e.2 = .bor j → ¬ ch j) ∨
      (Same (Gof H F) (Gof H' F') → ∃ v, vs'[i]? = Option.some (Option.some v) ∧ En K (Gof H' F') H' F' i v e.1 e.2))
    (empt : ∀ i, (∀ d, S'[i]? ≠ Option.some (Option.some (d, .own))) → F' i = []) (bnd : ∀ (i : Nat) (d : PyData) (j : Nat), S'[i]? = Option.some (Option.some (d, Md.bor j)) → j < N) : Rel K N G0 H' F' S' vs' := by
  have sub : ∀ k, ¬ ch k → ∀ a ∈ F' k, a ∈ F k := fun k hk a m => by
    rcases same k hk with e | e
    · rwa [e] at m
    · rw [e] at m; cases m
  have hG : Same (Gof H F) (Gof H' F') := fun a u e => by
    obtain ⟨h1, h2⟩ := gof_some e
    rw [gof_of]
    · exact keep a u (fun k _ => h1 k) h2
    · intro k m
      by_cases hk : ch k
      · rcases new k a hk m with z | ⟨j, _, z⟩
        · rw [h2] at z; cases z
        · exact h1 j z
      · exact h1 k (sub k hk a m)
  refine ⟨len, fun a u e => hG _ _ (r.base _ _ e), fun k => ?_, fun k j a mk mj => ?_, fun i e h => ?_, empt, bnd⟩
  · by_cases hk : ch k
    · exact nd k hk
    · rcases same k hk with e | e
      · rw [e]; exact r.nodup k
      · rw [e]; exact List.nodup_nil
  · have mix : ∀ k j, ch k → ¬ ch j → a ∈ F' k → a ∈ F' j → False := fun k j hk hj mk mj => by
      have m2 := sub j hj a mj
      rcases new k a hk mk with z | ⟨i, hi, z⟩
      · obtain ⟨u, e, _⟩ := r.here m2
        rw [z] at e; cases e
      · have := r.sep _ _ _ z m2
        rw [this] at hi
        exact hj hi
    by_cases hk : ch k
    · by_cases hj : ch j
      · exact dis k j a hk hj mk mj
      · exact (mix k j hk hj mk mj).elim
    · by_cases hj : ch j
      · exact (mix j k hj hk mj mk).elim
      · exact r.sep _ _ _ (sub k hk a mk) (sub j hj a mj)
  · rcases ent i e h with ⟨hi, h1, h2, h3, h4⟩ | h
    · obtain ⟨v, e1, e2⟩ := r.ent i e h1
      refine ⟨v, h2.trans e1, ?_⟩
      obtain ⟨d, m⟩ := e
      cases m with
      | shr => exact Dt.le (same_lep hG) _ e2
      | own =>
        have e3 := h3 rfl
        show Own K _ H' v d (F' i)
        rw [e3]
        refine Own.mv hG e2 fun a u m q => keep a u (fun k hk mk => hi ?_) q
        rw [r.sep _ _ _ m mk]
        exact hk
      | bor j =>
        have hj := h4 j rfl
        refine Dt.le (same_lep fun a u q => ?_) _ e2
        by_cases m : a ∈ F j
        · rw [vis_at m] at q
          have q' : H' a = Option.some u := keep a u (fun k hk mk => hj (by rw [r.sep _ _ _ m mk]; exact hk)) q
          rcases same j hj with z | z
          · rw [vis_at (by rw [z]; exact m)]
            exact q'
          · rw [vis_off (by rw [z]; exact List.not_mem_nil), gof_of]
            · exact q'
            · intro k mk
              by_cases hk : ch k
              · rcases new k a hk mk with y | ⟨i', hi', y⟩
                · rw [q] at y; cases y
                · have := r.sep _ _ _ y m
                  rw [this] at hi'
                  exact hj hi'
              · have := r.sep _ _ _ (sub k hk a mk) m
                rw [this, z] at mk
                cases mk
        · rw [vis_off m] at q
          rw [vis_off fun z => m (sub j hj a z)]
          exact hG _ _ q
    · exact h hG
/-- nothing but more -/
theorem Rel.same (r : Rel K N G0 H F S vs) (s : Same H H') : Rel K N G0 H' F S vs :=
  r.big (fun _ => False) r.len (fun a u _ e => s a u e) (fun _ _ => .inl rfl) (fun _ _ h => h.elim) (fun _ h => h.elim) (fun _ _ _ h => h.elim) (fun i e h => .inl ⟨id, h, rfl, fun _ => rfl, fun _ _ => id⟩) r.empt r.bnd
theorem R.same (r : R K N G0 H S vs) (s : Same H H') : R K N G0 H' S vs := let ⟨F, r⟩ := r; ⟨F, r.same s⟩
theorem R.get (r : R K N G0 H S vs) {i : Nat} {e : Ent} (h : S[i]? = Option.some (Option.some e)) : ∃ v, vs[i]? = Option.some (Option.some v) ∧ Dt K H v e.1 := let ⟨_, r⟩ := r; r.get h
theorem R.len (r : R K N G0 H S vs) : vs.length = S.length := let ⟨_, r⟩ := r; r.len

/-- F at a place -/
def put (F : Nat → List Addr) (n : Nat) (L : List Addr) : Nat → List Addr := fun k => if k = n then L else F k
theorem put_at {n : Nat} {L : List Addr} : put F n L n = L := if_pos rfl
theorem put_off {n k : Nat} {L : List Addr} (h : k ≠ n) : put F n L k = F k := if_neg h
/-- cut at n -/
def cutF (F : Nat → List Addr) (n : Nat) : Nat → List Addr := fun k => if k < n then F k else []
theorem cut_lt {n k : Nat} (h : k < n) : cutF F n k = F k := if_pos h
theorem cut_ge {n k : Nat} (h : ¬ k < n) : cutF F n k = [] := if_neg h

/-- what is held at the end gives way to one new thing -/
theorem Rel.build {A : S3} {ws : List (Option V)} (r : Rel K N G0 H F (S ++ A) (vs ++ ws)) (hl : vs.length = S.length) (hN : N ≤ S.length) (s : ∀ a u, (∀ k, S.length ≤ k → a ∉ F k) → H a = Option.some u → H' a = Option.some u) {L : List Addr} {v : V} {e : Ent}
    (nd : L.Nodup) (hL : ∀ a ∈ L, H a = none ∨ ∃ k, S.length ≤ k ∧ a ∈ F k) (hm : e.2 = .own ∨ L = []) (hb : ∀ j, e.2 = .bor j → j < N)
    (ok : ∀ F', (∀ k, k < S.length → F' k = F k) → F' S.length = L → (∀ k, S.length < k → F' k = []) → Same (Gof H F) (Gof H' F') → En K (Gof H' F') H' F' S.length v e.1 e.2) : R K N G0 H' (S ++ [Option.some e]) (vs ++ [Option.some v]) := by
  have last : ∀ {i : Nat} {x : Ent}, ¬ i < S.length → (S ++ [Option.some e])[i]? = Option.some (Option.some x) → i = S.length ∧ x = e := fun {i x} z h => by
    obtain ⟨lt, _⟩ := List.getElem?_eq_some_iff.mp h
    have : i = S.length := by simp at lt; omega
    subst this
    rw [List.getElem?_append_right (Nat.le_refl _), Nat.sub_self] at h
    cases h
    exact ⟨rfl, rfl⟩
  refine ⟨put (cutF F S.length) S.length L, r.big (fun k => S.length ≤ k) (by simp [hl]) s (fun k hk => .inl ?_) (fun k a hk m => ?_) (fun k hk => ?_) (fun k j a hk hj mk mj => ?_) (fun i e' h => ?_) (fun i h => ?_) fun i d j h => ?_⟩
  · rw [put_off (by omega), cut_lt (by omega)]
  · by_cases z : k = S.length
    · subst z
      rw [put_at] at m
      exact hL a m
    · rw [put_off z, cut_ge (by omega)] at m
      cases m
  · by_cases z : k = S.length
    · subst z
      rw [put_at]
      exact nd
    · rw [put_off z, cut_ge (by omega)]
      exact List.nodup_nil
  · by_cases z : k = S.length
    · by_cases y : j = S.length
      · omega
      · rw [put_off y, cut_ge (by omega)] at mj
        cases mj
    · rw [put_off z, cut_ge (by omega)] at mk
      cases mk
  · by_cases z : i < S.length
    · rw [List.getElem?_append_left z] at h
      have h2 : (S ++ A)[i]? = Option.some (Option.some e') := by rw [List.getElem?_append_left z]; exact h
      refine .inl ⟨by omega, h2, by rw [List.getElem?_append_left (by omega), List.getElem?_append_left (by omega)], fun _ => by rw [put_off (by omega), cut_lt z], fun j hj => ?_⟩
      have := r.bnd i e'.1 j (by rw [← hj]; exact h2)
      omega
    · obtain ⟨rfl, rfl⟩ := last z h
      exact .inr fun hG => ⟨v, by rw [← hl, List.getElem?_append_right (Nat.le_refl _), Nat.sub_self]; rfl, ok _ (fun k hk => by rw [put_off (by omega), cut_lt hk]) put_at (fun k hk => by rw [put_off (by omega), cut_ge (by omega)]) hG⟩
  · by_cases z : i < S.length
    · rw [put_off (by omega), cut_lt z]
      refine r.empt i fun d q => h d ?_
      rw [List.getElem?_append_left z] at q ⊢
      exact q
    · by_cases y : i = S.length
      · subst y
        rw [put_at]
        rcases hm with hm | hm
        · exact absurd (by rw [List.getElem?_append_right (Nat.le_refl _), Nat.sub_self, ← hm]; rfl) (h e.1)
        · exact hm
      · rw [put_off y, cut_ge z]
  · by_cases z : i < S.length
    · rw [List.getElem?_append_left z] at h
      exact r.bnd i d j (by rw [List.getElem?_append_left z]; exact h)
    · obtain ⟨rfl, rfl⟩ := last z h
      exact hb j rfl
/-- what is held at the end is dropped -/
theorem Rel.cut {A : S3} {ws : List (Option V)} (r : Rel K N G0 H F (S ++ A) (vs ++ ws)) (hl : vs.length = S.length) (hN : N ≤ S.length) : Rel K N G0 H (cutF F S.length) S vs := by
  refine r.big (fun k => S.length ≤ k) hl (fun a u _ e => e) (fun k hk => .inl (cut_lt (by omega))) (fun k a hk m => ?_) (fun k hk => ?_) (fun k j a hk hj mk mj => ?_) (fun i e' h => ?_) (fun i h => ?_) fun i d j h => ?_
  · rw [cut_ge (by omega)] at m; cases m
  · rw [cut_ge (by omega)]; exact List.nodup_nil
  · rw [cut_ge (by omega)] at mk; cases mk
  · obtain ⟨z, _⟩ := List.getElem?_eq_some_iff.mp h
    have h2 : (S ++ A)[i]? = Option.some (Option.some e') := by rw [List.getElem?_append_left z]; exact h
    refine .inl ⟨by omega, h2, by rw [List.getElem?_append_left (by omega)], fun _ => cut_lt z, fun j hj => ?_⟩
    have := r.bnd i e'.1 j (by rw [← hj]; exact h2)
    omega
  · by_cases z : i < S.length
    · rw [cut_lt z]
      refine r.empt i fun d q => h d ?_
      rw [List.getElem?_append_left z] at q
      exact q
    · exact cut_ge z
  · obtain ⟨z, _⟩ := List.getElem?_eq_some_iff.mp h
    exact r.bnd i d j (by rw [List.getElem?_append_left z]; exact h)
theorem R.cut {A : S3} {ws : List (Option V)} (r : R K N G0 H (S ++ A) (vs ++ ws)) (hl : vs.length = S.length) (hN : N ≤ S.length) : R K N G0 H S vs := let ⟨_, r⟩ := r; ⟨_, r.cut hl hN⟩
/-- what is one's own is no tuple -/
theorem sqt_gof (own : ∀ i a, a ∈ F i → ∃ u, H a = Option.some u ∧ Mu u) {a : Addr} {xs : List V} (q : H a = Option.some (.tup xs)) : Gof H F a = Option.some (.tup xs) := by
  rw [gof_of fun i m => ?_]
  · exact q
  · obtain ⟨u, e, mu⟩ := own i a m
    rw [q] at e; cases e
    exact mu
theorem R.flatR {A : S3} {ws : List (Option V)} (r : R K N G0 H (S ++ A) (vs ++ ws)) (hl : vs.length = S.length) (hN : N ≤ S.length) (s : Same H H') {v : V} {d : PyData} (f : T.flat d = true) (h : Dt K H' v d) :
    R K N G0 H' (S ++ [Option.some (d, .shr)]) (vs ++ [Option.some v]) := by
  obtain ⟨F, r⟩ := r
  have r2 := r.same s
  refine r2.build hl hN (fun a u _ e => e) List.nodup_nil (fun a m => by cases m) (.inr rfl) (fun j e => nomatch e) fun F' h1 h2 h3 hG => ?_
  refine Dt.flat (fun a xs q => ?_) d f h
  refine sqt_gof (fun i a m => ?_) q
  by_cases z : i < S.length
  · rw [h1 i z] at m
    exact r2.here m
  · by_cases y : i = S.length
    · rw [y, h2] at m; cases m
    · rw [h3 i (by omega)] at m; cases m
end
end L2.Fb.T

namespace L2.Fb.T
open PySem PySem.Spec
open PyProof.Rows
section
variable {K : PySem.W.Frag} {N : Nat} {G0 H H' : Hp} {F F' : Nat → List Addr} {S S' T : S3} {vs vs' : List (Option V)}
/-- a name's mode when it is read -/
def vm (i : Nat) (d : PyData) : Md → Md
  | .own => if flat d then .shr else .bor i
  | .bor j => if flat d then .shr else .bor j
  | .shr => .shr
theorem R.var (r : R K N G0 H S vs) (hN : N ≤ S.length) {i : Nat} {d : PyData} {m : Md} (hi : i < N) (h : S[i]? = some (some (d, m))) : ∃ v, vs[i]? = some (some v) ∧ R K N G0 H (S ++ [some (d, vm i d m)]) (vs ++ [some v]) := by
  obtain ⟨F, r⟩ := r
  obtain ⟨v, h1, h2⟩ := r.ent i _ h
  refine ⟨v, h1, ?_⟩
  by_cases f : flat d = true
  · have : vm i d m = .shr := by cases m <;> simp [vm, f]
    rw [this]
    refine R.flatR (A := []) (ws := []) ?_ r.len hN (fun _ _ e => e) f (h2.dt (gof_same H F))
    rw [List.append_nil, List.append_nil]
    exact ⟨F, r⟩
  · have r' : Rel K N G0 H F (S ++ []) (vs ++ []) := by rw [List.append_nil, List.append_nil]; exact r
    cases m with
    | shr => exact r'.build r.len hN (fun a u _ e => e) List.nodup_nil (fun a m => by cases m) (.inr rfl) (fun j e => nomatch e) fun F' _ _ _ hG => Dt.le (same_lep hG) _ h2
    | own =>
      rw [show vm i d .own = .bor i by simp [vm, f]]
      refine r'.build r.len hN (fun a u _ e => e) List.nodup_nil (fun a m => by cases m) (.inr rfl) (fun j e => by cases e; exact hi) fun F' k1 _ _ hG => ?_
      have e := k1 i (by omega)
      have h3 : Own K (Gof H F') H v d (F i) := Own.mv hG h2 fun _ _ _ q => q
      exact Own.dt (gof_same H F') h3 _ fun a m => by rw [e]; exact m
    | bor j =>
      rw [show vm i d (.bor j) = .bor j by simp [vm, f]]
      have hj := r.bnd i d j h
      refine r'.build r.len hN (fun a u _ e => e) List.nodup_nil (fun a m => by cases m) (.inr rfl) (fun j' e => by cases e; exact hj) fun F' k1 _ _ hG => ?_
      have e := k1 j (by omega)
      refine Dt.le (same_lep fun a u q => ?_) _ h2
      by_cases z : a ∈ F j
      · rw [vis_at z] at q
        rw [vis_at (by rw [e]; exact z)]
        exact q
      · rw [vis_off z] at q
        rw [vis_off (by rw [e]; exact z)]
        exact hG _ _ q
end
/-- what is borrowed, which slots stand fast, which dicts are locked -/
structure Bs where
  br : List Nat
  pn : List Nat
  lk : List Nat
def Bs.add (B : Bs) (l : List Nat) : Bs := ⟨l ++ B.br, B.pn, B.lk⟩
/-! ### the judgements -/
abbrev TE3 := Bs → S3 → (PyData → Md → S3 → Prop) → Prop
abbrev TT3 := Bs → S3 → (Bool → S3 → Prop) → Prop
abbrev TA3 := Bs → S3 → (List (Option Ent) → S3 → Prop) → Prop
structure Ends3 where
  nx : S3 → Prop
  rt : PyData → Md → S3 → Prop
  bk : S3 → Prop := fun _ => False
  ct : S3 → Prop := fun _ => False
abbrev TS3 := Ends3 → Bs → S3 → Prop
def BorIn (T : S3) (B : Bs) : Prop := ∀ d j, some (d, Md.bor j) ∈ T → j ∈ B.br
/-- slots that stand fast -/
abbrev PV := Nat → Option V
def Fx (pv : PV) (σ : St) : Prop := ∀ i v, pv i = some v → σ[i]? = some (some v)
def FxB (pv : PV) (B : Bs) : Prop := ∀ i v, pv i = some v → i ∈ B.pn
/-- the locked: slots that stand fast -/
def LkB (G0 : Hp) (pv : PV) (B : Bs) : Prop := ∀ i ∈ B.lk, ∃ a od ks, pv i = some (.ref a) ∧ G0 a = some (.frz od (.dK ks))
/-- the state: slots S, held T -/
structure At (K : PySem.W.Frag) (N : Nat) (G0 : Hp) (pv : PV) (B : Bs) (S T : S3) (σ : St) (us : List (Option V)) (H : Hp) : Prop where
  lS : S.length = N
  lσ : σ.length = N
  lu : us.length = T.length
  r : R K N G0 H (S ++ T) (σ ++ us)
  b : BorIn T B
  fx : Fx pv σ
  fb : FxB pv B
  lk : LkB G0 pv B
def Lift (K : PySem.W.Frag) (N : Nat) (c : Bool) (te : TE) (t : TE3) : Prop :=
  ∀ {G0 : Hp} {pv : PV} {B : Bs} {S T : S3} {σ : St} {us : List (Option V)} {H : Hp} {Q : VK} {Q3 : PyData → Md → S3 → Prop}, At K N G0 pv B S T σ us H → t B S Q3 →
    (∀ v H' d m S', S'.length = N → R K N G0 H' (S' ++ (T ++ [some (d, m)])) (σ ++ (us ++ [some v])) → (c = true → Same H H') → Q3 d m S' → Q v H') → te σ H Q
def LiftT (K : PySem.W.Frag) (N : Nat) (te : TT) (t : TT3) : Prop :=
  ∀ {G0 : Hp} {pv : PV} {B : Bs} {S T : S3} {σ : St} {us : List (Option V)} {H : Hp} {Q : Bool → Hp → Prop} {Q3 : Bool → S3 → Prop}, At K N G0 pv B S T σ us H → t B S Q3 →
    (∀ b H' S', S'.length = N → R K N G0 H' (S' ++ T) (σ ++ us) → Q3 b S' → Q b H') → te σ H Q
structure Ats (ats : List (Option Nat)) (es : List (Option Ent)) (vs : List V) (σ : St) : Prop where
  no : ∀ k : Nat, ats[k]? = some none → ∃ e, es[k]? = some (some e)
  ix : ∀ k i : Nat, ats[k]? = some (some i) → es[k]? = some none ∧ ∃ v, vs[k]? = some v ∧ σ[i]? = some (some v)
/-- ats: which arguments are slots handed over as they are -/
def LiftA (K : PySem.W.Frag) (N : Nat) (ats : List (Option Nat)) (c : Bool) (te : TA) (t : TA3) : Prop :=
  ∀ {G0 : Hp} {pv : PV} {B : Bs} {S T : S3} {σ : St} {us : List (Option V)} {H : Hp} {Q : List V → Hp → Prop} {Q3 : List (Option Ent) → S3 → Prop}, At K N G0 pv B S T σ us H → t B S Q3 →
    (∀ vs H' es S', S'.length = N → vs.length = ats.length → es.length = ats.length → Ats ats es vs σ → R K N G0 H' (S' ++ (T ++ es)) (σ ++ (us ++ vs.map some)) → (c = true → Same H H') → Q3 es S' → Q vs H') → te σ H Q
structure Cov (K : PySem.W.Frag) (N : Nat) (G0 : Hp) (pv : PV) (T : S3) (us : List (Option V)) (D : Ends) (E : Ends3) : Prop where
  nx : ∀ S σ H, S.length = N → σ.length = N → R K N G0 H (S ++ T) (σ ++ us) → Fx pv σ → E.nx S → D.nx σ H
  bk : ∀ S σ H, S.length = N → σ.length = N → R K N G0 H (S ++ T) (σ ++ us) → Fx pv σ → E.bk S → D.bk σ H
  ct : ∀ S σ H, S.length = N → σ.length = N → R K N G0 H (S ++ T) (σ ++ us) → Fx pv σ → E.ct S → D.ct σ H
  rt : ∀ S σ H v d m, S.length = N → σ.length = N → R K N G0 H (S ++ (T ++ [some (d, m)])) (σ ++ (us ++ [some v])) → Fx pv σ → E.rt d m S → D.rt v H
def LiftS (K : PySem.W.Frag) (N : Nat) (ts : TS) (t : TS3) : Prop :=
  ∀ {G0 : Hp} {pv : PV} {B : Bs} {S T : S3} {σ : St} {us : List (Option V)} {H : Hp} {D : Ends} {E : Ends3}, At K N G0 pv B S T σ us H → t E B S → Cov K N G0 pv T us D E → ts D σ H
def PE3 (X : Cx) (e : Expr) (te : TE) (c : Bool) (t : TE3) : Prop := PE X e te ∧ Lift X.K X.N.length c te t
def PT3 (X : Cx) (e : Expr) (te : TT) (t : TT3) : Prop := PT X e te ∧ LiftT X.K X.N.length te t
def PW3 (X : Cx) (e : Expr) (te : TT) (t : TT3) : Prop := PW X e te ∧ LiftT X.K X.N.length te t
def PA3 (X : Cx) (es : List Expr) (te : TA) (ats : List (Option Nat)) (c : Bool) (t : TA3) : Prop := PA X es te ∧ LiftA X.K X.N.length ats c te t
def PS3 (X : Cx) (st : Stmt) (ts : TS) (t : TS3) : Prop := PS X st ts ∧ LiftS X.K X.N.length ts t
def PSs3 (X : Cx) (st : List Stmt) (ts : TS) (t : TS3) : Prop := PSs X st ts ∧ LiftS X.K X.N.length ts t
/-- the borrowed of a mode -/
def Md.bs : Md → List Nat | .bor i => [i] | _ => []
section
variable {K : PySem.W.Frag} {N : Nat} {G0 H H' : Hp} {pv : PV} {B : Bs} {S S' T : S3} {σ : St} {us : List (Option V)}
theorem At.push (a : At K N G0 pv B S T σ us H) {v : V} {d : PyData} {m : Md} (h : S'.length = N) (r : R K N G0 H' (S' ++ (T ++ [some (d, m)])) (σ ++ (us ++ [some v]))) : At K N G0 pv (B.add m.bs) S' (T ++ [some (d, m)]) σ (us ++ [some v]) H' :=
  ⟨h, a.lσ, by simp [a.lu], r, fun e j q => by
    rcases List.mem_append.mp q with q | q
    · exact List.mem_append_right _ (a.b e j q)
    · rw [List.mem_singleton] at q
      cases q
      exact List.mem_append_left _ (List.mem_singleton.mpr rfl), a.fx, a.fb, a.lk⟩
theorem At.go (a : At K N G0 pv B S T σ us H) (h : S'.length = N) (r : R K N G0 H' (S' ++ T) (σ ++ us)) : At K N G0 pv B S' T σ us H' := ⟨h, a.lσ, a.lu, r, a.b, a.fx, a.fb, a.lk⟩
theorem At.get (a : At K N G0 pv B S T σ us H) {i : Nat} {e : Ent} (hi : S[i]? = some (some e)) : ∃ v, σ[i]? = some (some v) ∧ Dt K H v e.1 := by
  obtain ⟨lt, _⟩ := List.getElem?_eq_some_iff.mp hi
  have lN := a.lS
  have lσ := a.lσ
  obtain ⟨v, h1, h2⟩ := a.r.get (i := i) (e := e) (by rw [List.getElem?_append_left lt]; exact hi)
  exact ⟨v, by rwa [List.getElem?_append_left (by omega)] at h1, h2⟩
/-- what was pushed last -/
theorem R.top {P : S3} {ps : List (Option V)} {e : Ent} {v : V} (hl : ps.length = P.length) (r : R K N G0 H (P ++ [some e]) (ps ++ [some v])) : Dt K H v e.1 := by
  obtain ⟨v', h1, h2⟩ := r.get (i := P.length) (e := e) (by rw [List.getElem?_append_right (Nat.le_refl _), Nat.sub_self]; rfl)
  rw [← hl, List.getElem?_append_right (Nat.le_refl _), Nat.sub_self] at h1
  cases h1
  exact h2
end
/-! ### names, constants -/
def tVar3 (i : Nat) : TE3 := fun B S Q => match S[i]? with | some (some (d, m)) => Q d (vm i d m) S | _ => False
def tC3 (d : PyData) : TE3 := fun B S Q => Q d .shr S
theorem lift_var {K : PySem.W.Frag} {N : Nat} (i : Nat) (hi : i < N) : Lift K N true (tVar i) (tVar3 i) := by
  intro G0 pv B S T σ us H Q Q3 a h k
  unfold tVar3 at h
  split at h
  · rename_i d m e
    have lS := a.lS
    have lσ := a.lσ
    obtain ⟨v, h1, h2⟩ := a.r.var (by rw [List.length_append]; omega) hi (i := i) (d := d) (m := m) (by rw [List.getElem?_append_left (by omega)]; exact e)
    rw [List.getElem?_append_left (by omega)] at h1
    exact ⟨v, h1, k v H d _ S lS (by rw [← List.append_assoc, ← List.append_assoc]; exact h2) (fun _ _ _ e => e) h⟩
  · exact h.elim
theorem lift_c {K : PySem.W.Frag} {N : Nat} {v : V} {d : PyData} (f : flat d = true) (hd : ∀ H, Dt K H v d) : Lift K N true (tC v) (tC3 d) := by
  intro G0 pv B S T σ us H Q Q3 a h k
  have lS := a.lS
  have lσ := a.lσ
  have lu := a.lu
  refine k v H d .shr S lS ?_ (fun _ _ _ e => e) h
  have r := R.flatR (A := []) (ws := []) (S := S ++ T) (vs := σ ++ us) (by rw [List.append_nil, List.append_nil]; exact a.r) (by simp; omega) (by simp; omega) (fun _ _ e => e) f (hd H)
  rw [List.append_assoc, List.append_assoc] at r
  exact r
section
variable {X : Cx}
theorem e_var {i : Nat} {x : Str} {pos : Pos} (h : PE X (.Name x pos) (tVar i)) (hi : i < X.N.length) : PE3 X (.Name x pos) (tVar i) true (tVar3 i) := ⟨h, lift_var i hi⟩
theorem e_int {i : Int} {j pos} : PE3 X (.Constant (.int i) j pos) (tC (.int i)) true (tC3 (.int i)) := ⟨pe_int, lift_c rfl fun _ => .int i⟩
theorem e_bl {b : Bool} {j pos} : PE3 X (.Constant (.bool b) j pos) (tC (.bl b)) true (tC3 (.bool b)) := ⟨pe_bl, lift_c rfl fun _ => .bl b⟩
theorem e_non {j pos} : PE3 X (.Constant .none j pos) (tC .non) true (tC3 .none) := ⟨pe_non, lift_c rfl fun _ => .non⟩
theorem e_str {x : Str} {j pos} : PE3 X (.Constant (.str x) j pos) (tC (.str x)) true (tC3 (.str x)) := ⟨pe_str, lift_c rfl fun _ => .str x⟩
end
/-! ### operators whose answer is flat -/
abbrev R23 := PyData → PyData → (PyData → Prop) → Prop
/-- by values -/
def OpF (K : PySem.W.Frag) (r : V → V → Hp → VK → Prop) (r3 : R23) : Prop :=
  ∀ {H : Hp} {x y : V} {dx dy : PyData} {Q : VK} {Q3 : PyData → Prop}, Dt K H x dx → Dt K H y dy → r3 dx dy Q3 → (∀ v H' d, Same H H' → flat d = true → Dt K H' v d → Q3 d → Q v H') → r x y H Q
def tOp3 (r3 : R23) (ta tb : TE3) : TE3 := fun B S Q => ta B S fun d m S1 => tb (B.add m.bs) S1 fun e m2 S2 => r3 d e fun z => Q z .shr S2
theorem lift_op {K : PySem.W.Frag} {N : Nat} {c1 c2 : Bool} {ta tb : TE} {a3 b3 : TE3} {r : V → V → Hp → VK → Prop} {r3 : R23} (ho : OpF K r r3) (ha : Lift K N c1 ta a3) (hb : Lift K N c2 tb b3) : Lift K N (c1 && c2) (tOp r ta tb) (tOp3 r3 a3 b3) := by
  intro G0 pv B S T σ us H Q Q3 a h k
  refine ha a h fun x H1 d m S1 l1 r1 c1' h1 => ?_
  have a1 := a.push l1 r1
  refine hb a1 h1 fun y H2 e m2 S2 l2 r2 c2' h2 => ?_
  have lσ := a.lσ
  have lu := a.lu
  have top := R.top (P := S2 ++ (T ++ [some (d, m)])) (ps := σ ++ (us ++ [some x])) (e := (e, m2)) (v := y) (by simp; omega) (by simpa using r2)
  have dx : Dt K H2 x d := by
    obtain ⟨x', q1, q2⟩ := r2.get (i := N + T.length) (e := (d, m)) (by
      rw [List.getElem?_append_right (by omega), List.getElem?_append_left (by simp; omega), List.getElem?_append_right (by omega)]
      simp [l2])
    rw [List.getElem?_append_right (by omega), List.getElem?_append_left (by simp; omega), List.getElem?_append_right (by omega)] at q1
    have : N + T.length - σ.length - us.length = 0 := by omega
    rw [this] at q1
    cases q1
    exact q2
  refine ho dx top h2 fun v H' z s f dz q => k v H' z .shr S2 l2 ?_ (fun c => ?_) q
  · have := R.flatR (S := S2 ++ T) (vs := σ ++ us) (A := [some (d, m), some (e, m2)]) (ws := [some x, some y]) (by simpa using r2) (by simp; omega) (by simp; omega) s f dz
    simpa using this
  · simp at c
    exact fun a u q => s _ _ (c2' c.2 _ _ (c1' c.1 _ _ q))
end L2.Fb.T

namespace L2.Fb.T
open PySem PySem.Spec
open PyProof.Rows
section
variable {K : PySem.W.Frag} {N : Nat} {G0 G G' H H' : Hp} {F F' : Nat → List Addr} {S S' T P : S3} {vs vs' ps : List (Option V)}
mutual
theorem Own.sq (hg : ∀ a xs, G a = some (.tup xs) → G' a = some (.tup xs)) {v : V} {d : PyData} {F : List Addr} : Own K G H v d F → (∀ a u, a ∈ F → H a = some u → H' a = some u) → Own K G' H' v d F
  | .non, _ => .non
  | .bl _, _ => .bl _
  | .int _, _ => .int _
  | .str _, _ => .str _
  | .tup a b, h => .tup (hg _ _ a) (OwnL.sq hg b h)
  | .lst a b, h => .lst (h _ _ (List.mem_cons_self ..) a) (OwnL.sq hg b fun x u m => h x u (List.mem_cons_of_mem _ m))
  | .dct a b, h => .dct (h _ _ (List.mem_cons_self ..) a) (OwnK.sq hg b fun x u m => h x u (List.mem_cons_of_mem _ m))
  | .dtt a b, h => .dtt (h _ _ (List.mem_cons_self ..) a) (OwnT.sq hg b fun x u m => h x u (List.mem_cons_of_mem _ m))
theorem OwnL.sq (hg : ∀ a xs, G a = some (.tup xs) → G' a = some (.tup xs)) {v : List V} {d : List PyData} {F : List Addr} : OwnL K G H v d F → (∀ a u, a ∈ F → H a = some u → H' a = some u) → OwnL K G' H' v d F
  | .nil, _ => .nil
  | .cons a b, h => .cons (Own.sq hg a fun x u m => h x u (List.mem_append_left _ m)) (OwnL.sq hg b fun x u m => h x u (List.mem_append_right _ m))
theorem OwnK.sq (hg : ∀ a xs, G a = some (.tup xs) → G' a = some (.tup xs)) {v : List (Key × V)} {d : List (PyData × PyData)} {F : List Addr} : OwnK K G H v d F → (∀ a u, a ∈ F → H a = some u → H' a = some u) → OwnK K G' H' v d F
  | .nil, _ => .nil
  | .cons a b, h => .cons (Own.sq hg a fun x u m => h x u (List.mem_append_left _ m)) (OwnK.sq hg b fun x u m => h x u (List.mem_append_right _ m))
theorem OwnT.sq (hg : ∀ a xs, G a = some (.tup xs) → G' a = some (.tup xs)) {v : List (List Key × V)} {d : List (PyData × PyData)} {F : List Addr} : OwnT K G H v d F → (∀ a u, a ∈ F → H a = some u → H' a = some u) → OwnT K G' H' v d F
  | .nil, _ => .nil
  | .cons a b, h => .cons (Own.sq hg a fun x u m => h x u (List.mem_append_left _ m)) (OwnT.sq hg b fun x u m => h x u (List.mem_append_right _ m))
end
theorem Rel.sqt (r : Rel K N G0 H F S vs) {a : Addr} {xs : List V} (q : H a = some (.tup xs)) : Gof H F a = some (.tup xs) := sqt_gof (fun i a m => r.here m) q
/-- what is held, each one's own or flat -/
def mixOwn : List (Option Ent) → Bool
  | [] => true
  | some (d, m) :: r => (decide (m = .own) || flat d) && mixOwn r
  | none :: _ => false
def dats : List (Option Ent) → List PyData
  | [] => []
  | some (d, _) :: r => d :: dats r
  | none :: r => .none :: dats r
theorem dats_len : ∀ (es : List (Option Ent)), (dats es).length = es.length
  | [] => rfl
  | some (d, m) :: r => congrArg (· + 1) (dats_len r)
  | none :: r => congrArg (· + 1) (dats_len r)
theorem own_list : ∀ (es : List (Option Ent)) (vs : List V) {P : S3} {ps : List (Option V)}, vs.length = es.length → ps.length = P.length → Rel K N G0 H F (P ++ es) (ps ++ vs.map some) → mixOwn es = true →
    ∃ L, OwnL K (Gof H F) H vs (dats es) L ∧ L.Nodup ∧ ∀ a ∈ L, ∃ k, P.length ≤ k ∧ a ∈ F k
  | [], [], _, _, _, _, _, _ => ⟨[], .nil, List.nodup_nil, fun _ m => by cases m⟩
  | some (d, m) :: es, v :: vs, P, ps, hl, hp, r, hm => by
    have hm : (m = .own ∨ flat d = true) ∧ mixOwn es = true := by simpa [mixOwn] using hm
    obtain ⟨L, o, nd, hL⟩ := own_list es vs (P := P ++ [some (d, m)]) (ps := ps ++ [some v]) (by simpa using hl) (by simp [hp]) (by simpa using r) hm.2
    obtain ⟨v', h1, h2⟩ := r.ent P.length (d, m) (by rw [List.getElem?_append_right (Nat.le_refl _), Nat.sub_self]; rfl)
    rw [← hp, List.getElem?_append_right (Nat.le_refl _), Nat.sub_self] at h1
    cases h1
    by_cases z : m = .own
    · subst z
      refine ⟨F P.length ++ L, .cons (by rw [← hp]; rw [← hp] at h2; exact h2) o, List.nodup_append.mpr ⟨r.nodup _, nd, fun a ma b mb e => ?_⟩, fun a ma => ?_⟩
      · subst e
        obtain ⟨k, hk, mk⟩ := hL a mb
        have := r.sep _ _ _ ma mk
        simp at hk
        omega
      · rcases List.mem_append.mp ma with ma | ma
        · exact ⟨_, Nat.le_refl _, ma⟩
        · obtain ⟨k, hk, mk⟩ := hL a ma
          simp at hk
          exact ⟨k, by omega, mk⟩
    · have f : flat d = true := hm.1.resolve_left z
      refine ⟨L, .cons (F := []) (Own.flat d f (Dt.flat (fun a xs q => r.sqt q) d f (h2.dt (gof_same H F)))) o, nd, fun a ma => ?_⟩
      obtain ⟨k, hk, mk⟩ := hL a ma
      simp at hk
      exact ⟨k, by omega, mk⟩
  | none :: _, _, _, _, _, _, _, hm => by simp [mixOwn] at hm
  | [], _ :: _, _, _, hl, _, _, _ => by simp at hl
  | some _ :: _, [], _, _, hl, _, _, _ => by simp at hl
/-- all of what is held, published: nothing of it is borrowed any more -/
theorem all_shr : ∀ (es : List (Option Ent)) (vs : List V) {P : S3} {ps : List (Option V)}, vs.length = es.length → ps.length = P.length → N ≤ P.length → Rel K N G0 H F (P ++ es) (ps ++ vs.map some) → (∀ e ∈ es, e ≠ none) → (∀ d j, some (d, Md.bor j) ∈ es → F j = []) →
    ∀ F', (∀ k, k < P.length → F' k = F k) → (∀ k, P.length ≤ k → F' k = []) → DtL K (Gof H F') vs (dats es)
  | [], [], _, _, _, _, _, _, _, _, _, _, _ => .nil
  | some (d, m) :: es, v :: vs, P, ps, hl, hp, hN, r, hs, hb, F', f1, f2 => by
    obtain ⟨v', h1, h2⟩ := r.ent P.length (d, m) (by rw [List.getElem?_append_right (Nat.le_refl _), Nat.sub_self]; rfl)
    rw [← hp, List.getElem?_append_right (Nat.le_refl _), Nat.sub_self] at h1
    cases h1
    have sub : ∀ k a, a ∈ F' k → a ∈ F k ∧ k < P.length := fun k a ma => by
      by_cases z : k < P.length
      · rw [f1 k z] at ma; exact ⟨ma, z⟩
      · rw [f2 k (by omega)] at ma; cases ma
    have hG : Same (Gof H F) (Gof H F') := fun a u e => by
      obtain ⟨q1, q2⟩ := gof_some e
      rw [gof_of fun k ma => q1 k (sub k a ma).1]
      exact q2
    refine .cons ?_ ?_
    · cases m with
      | shr => exact Dt.le (same_lep hG) _ h2
      | own =>
        refine Dt.le (same_lep fun a u e => ?_) _ (Own.dt (gof_same H F) h2 (F P.length) fun _ m => m)
        by_cases z : a ∈ F P.length
        · rw [vis_at z] at e
          rw [gof_of fun k ma => ?_]
          · exact e
          · obtain ⟨m1, lt⟩ := sub k a ma
            have := r.sep _ _ _ m1 z
            omega
        · rw [vis_off z] at e
          exact hG _ _ e
      | bor j =>
        have z := hb d j (List.mem_cons_self ..)
        have h2 : Dt K (vis (Gof H F) H (F j)) v d := h2
        rw [z] at h2
        exact Dt.le (same_lep fun a u e => hG _ _ (by rw [vis_off List.not_mem_nil] at e; exact e)) _ h2
    · have g1 : ∀ k, k < (P ++ [some (d, m)]).length → (put F P.length []) k = F k ∨ k = P.length := fun k _ => by
        by_cases z : k = P.length
        · exact .inr z
        · exact .inl (put_off z)
      have r' : Rel K N G0 H F ((P ++ [some (d, m)]) ++ es) ((ps ++ [some v]) ++ vs.map some) := by simpa using r
      have := all_shr es vs (P := P ++ [some (d, m)]) (ps := ps ++ [some v]) (by simpa using hl) (by simp [hp]) (by simp; omega) r' (fun e h => hs e (List.mem_cons_of_mem _ h)) (fun d j h => hb d j (List.mem_cons_of_mem _ h)) (cutF F (P.length + 1)) (fun k hk => by rw [cut_lt (by simpa using hk)]) (fun k hk => cut_ge (by simp at hk; omega))
      refine DtL.le (same_lep fun a u e => ?_) _ this
      obtain ⟨q1, q2⟩ := gof_some e
      rw [gof_of fun k ma => ?_]
      · exact q2
      · obtain ⟨m1, lt⟩ := sub k a ma
        exact q1 k (by rw [cut_lt (by omega)]; exact m1)
  | none :: _, _, _, _, _, _, _, _, hs, _, _, _, _ => absurd rfl (hs _ (List.mem_cons_self ..))
  | [], _ :: _, _, _, hl, _, _, _, _, _, _, _, _ => by simp at hl
  | some _ :: _, [], _, _, hl, _, _, _, _, _, _, _, _ => by simp at hl
/-- slot i is one's own no more -/
def dem1 (i : Nat) (S : S3) : S3 := match S[i]? with | some (some (d, .own)) => S.set i (some (d, .shr)) | _ => S
theorem dem1_len (i : Nat) (S : S3) : (dem1 i S).length = S.length := by
  unfold dem1
  split
  · rw [List.length_set]
  · rfl
theorem rel_dem (r : Rel K N G0 H F (S ++ T) vs) (i : Nat) (hi : i < S.length) : Rel K N G0 H (put F i []) (dem1 i S ++ T) vs := by
  by_cases z : ∃ d, S[i]? = some (some (d, .own))
  · obtain ⟨d, z⟩ := z
    have e1 : dem1 i S = S.set i (some (d, .shr)) := by unfold dem1; rw [z]
    have at_ : (S ++ T)[i]? = some (some (d, .own)) := by rw [List.getElem?_append_left hi]; exact z
    have get : ∀ {k : Nat}, k ≠ i → (S.set i (some (d, .shr)) ++ T)[k]? = (S ++ T)[k]? := fun {k} h => by
      by_cases y : k < S.length
      · rw [List.getElem?_append_left (by simpa using y), List.getElem?_append_left y, List.getElem?_set_ne (Ne.symm h)]
      · rw [List.getElem?_append_right (by simpa using y), List.getElem?_append_right (by omega), List.length_set]
    have geti : (S.set i (some (d, .shr)) ++ T)[i]? = some (some (d, Md.shr)) := by
      rw [List.getElem?_append_left (by simpa using hi), List.getElem?_set_self hi]
    rw [e1]
    refine r.big (fun _ => False) (by have := r.len; simpa using this) (fun a u _ e => e) (fun k _ => ?_) (fun _ _ h => h.elim) (fun _ h => h.elim) (fun _ _ _ h => h.elim) (fun k e h => ?_) (fun k h => ?_) fun k d' j h => ?_
    · by_cases y : k = i
      · exact .inr (by rw [y]; exact put_at)
      · exact .inl (put_off y)
    · by_cases y : k = i
      · subst y
        rw [geti] at h
        cases h
        obtain ⟨v, q1, q2⟩ := r.ent k _ at_
        refine .inr fun hG => ⟨v, q1, ?_⟩
        refine Dt.le (same_lep fun a u e => ?_) _ (Own.dt (gof_same H F) q2 (F k) fun _ m => m)
        by_cases w : a ∈ F k
        · rw [vis_at w] at e
          rw [gof_of fun j mj => ?_]
          · exact e
          · by_cases x : j = k
            · rw [x, put_at] at mj; cases mj
            · rw [put_off x] at mj
              exact x (r.sep _ _ _ mj w)
        · rw [vis_off w] at e
          exact hG _ _ e
      · rw [get y] at h
        exact .inl ⟨id, h, rfl, fun _ => put_off y, fun _ _ => id⟩
    · by_cases y : k = i
      · rw [y]; exact put_at
      · rw [put_off y]
        exact r.empt k fun d' q => h d' (by rw [get y]; exact q)
    · by_cases y : k = i
      · subst y
        rw [geti] at h
        cases h
      · rw [get y] at h
        exact r.bnd k d' j h
  · have e1 : dem1 i S = S := by
      unfold dem1
      split
      · rename_i d q
        exact absurd ⟨d, q⟩ z
      · rfl
    have e2 : put F i [] = F := by
      funext k
      by_cases y : k = i
      · subst y
        rw [put_at]
        exact (r.empt k fun d q => z ⟨d, by rw [List.getElem?_append_left hi] at q; exact q⟩).symm
      · exact put_off y
    rw [e1, e2]
    exact r
/-- all that is borrowed in some held things is one's own no more -/
def dems : List (Option Ent) → S3 → S3
  | [], S => S
  | some (_, .bor i) :: r, S => dems r (dem1 i S)
  | _ :: r, S => dems r S
theorem dems_len : ∀ (es : List (Option Ent)) (S : S3), (dems es S).length = S.length
  | [], _ => rfl
  | some (_, .bor i) :: r, S => by
    show (dems r (dem1 i S)).length = _
    rw [dems_len r, dem1_len]
  | some (_, .shr) :: r, S => dems_len r S
  | some (_, .own) :: r, S => dems_len r S
  | none :: r, S => dems_len r S
theorem rel_dems : ∀ (es : List (Option Ent)) {S : S3} {F : Nat → List Addr}, Rel K N G0 H F (S ++ T) vs → S.length = N → (∀ d j, some (d, Md.bor j) ∈ es → j < N) → ∃ F', Rel K N G0 H F' (L2.Fb.T.dems es S ++ T) vs ∧ (∀ d j, some (d, Md.bor j) ∈ es → F' j = []) ∧ ∀ k, F' k = F k ∨ F' k = []
  | [], S, F, r, _, _ => ⟨F, r, fun _ _ m => (by cases m), fun _ => .inl rfl⟩
  | some (d, .bor i) :: es, S, F, r, hl, hb => by
    obtain ⟨F', r', h1, h2⟩ := rel_dems es (rel_dem r i (by rw [hl]; exact hb d i (List.mem_cons_self ..))) (by rw [dem1_len]; exact hl) fun d j m => hb d j (List.mem_cons_of_mem _ m)
    refine ⟨F', r', fun d' j m => ?_, fun k => ?_⟩
    · rcases List.mem_cons.mp m with e | m
      · cases e
        rcases h2 i with q | q
        · rw [q, put_at]
        · exact q
      · exact h1 d' j m
    · rcases h2 k with q | q
      · by_cases y : k = i
        · exact .inr (by rw [q, y, put_at])
        · exact .inl (by rw [q, put_off y])
      · exact .inr q
  | some (d, .shr) :: es, S, F, r, hl, hb => by
    obtain ⟨F', r', h1, h2⟩ := rel_dems es r hl fun d j m => hb d j (List.mem_cons_of_mem _ m)
    exact ⟨F', r', fun d' j m => (List.mem_cons.mp m).elim (fun e => nomatch e) (h1 d' j), h2⟩
  | some (d, .own) :: es, S, F, r, hl, hb => by
    obtain ⟨F', r', h1, h2⟩ := rel_dems es r hl fun d j m => hb d j (List.mem_cons_of_mem _ m)
    exact ⟨F', r', fun d' j m => (List.mem_cons.mp m).elim (fun e => nomatch e) (h1 d' j), h2⟩
  | none :: es, S, F, r, hl, hb => by
    obtain ⟨F', r', h1, h2⟩ := rel_dems es r hl fun d j m => hb d j (List.mem_cons_of_mem _ m)
    exact ⟨F', r', fun d' j m => (List.mem_cons.mp m).elim (fun e => nomatch e) (h1 d' j), h2⟩
end
end L2.Fb.T

namespace L2.Fb.T
open PySem PySem.Spec
open PyProof.Rows
section
variable {K : PySem.W.Frag} {N : Nat} {G0 G G' H H' : Hp} {F F' : Nat → List Addr} {S S' T P : S3} {vs : List V} {ps : List (Option V)} {es : List (Option Ent)}
theorem upd_keep {p : Addr} {o : HO} (hp : H p = none) : Same H (upd H p o) := same_new hp
theorem flat_list_of {L : List Addr} : True := trivial
/-- a new list of one's own -/
theorem R.newL (r : R K N G0 H (P ++ es) (ps ++ vs.map some)) (hl : vs.length = es.length) (hp : ps.length = P.length) (hN : N ≤ P.length) (hm : mixOwn es = true) {p : Addr} (np : H p = none) :
    R K N G0 (upd H p (.lst vs)) (P ++ [some (.list (dats es), .own)]) (ps ++ [some (.ref p)]) := by
  obtain ⟨F, r⟩ := r
  obtain ⟨L, o, nd, hL⟩ := own_list es vs hl hp r hm
  have pn : p ∉ L := fun m => by
    obtain ⟨k, _, mk⟩ := hL p m
    obtain ⟨u, e, _⟩ := r.here mk
    rw [np] at e; cases e
  refine r.build hp hN (fun a u _ e => same_new np _ _ e) (L := p :: L) (List.nodup_cons.mpr ⟨pn, nd⟩) (fun a m => ?_) (.inl rfl) (fun j e => nomatch e) fun F' f1 f2 f3 hG => ?_
  · rcases List.mem_cons.mp m with e | m
    · subst e; exact .inl np
    · exact .inr (hL a m)
  · show Own K _ _ _ _ (F' P.length)
    rw [f2]
    exact .lst upd_same (OwnL.mv hG o fun a u _ e => same_new np _ _ e)
theorem R.newTo (r : R K N G0 H (P ++ es) (ps ++ vs.map some)) (hl : vs.length = es.length) (hp : ps.length = P.length) (hN : N ≤ P.length) (hm : mixOwn es = true) {p : Addr} (np : H p = none) :
    R K N G0 (upd H p (.tup vs)) (P ++ [some (.tuple (dats es), .own)]) (ps ++ [some (.ref p)]) := by
  obtain ⟨F, r⟩ := r
  obtain ⟨L, o, nd, hL⟩ := own_list es vs hl hp r hm
  refine r.build hp hN (fun a u _ e => same_new np _ _ e) (L := L) nd (fun a m => .inr (hL a m)) (.inl rfl) (fun j e => nomatch e) fun F' f1 f2 f3 hG => ?_
  show Own K _ _ _ _ (F' P.length)
  rw [f2]
  refine .tup ?_ (OwnL.mv hG o fun a u _ e => same_new np _ _ e)
  rw [gof_of fun k mk => ?_]
  · exact upd_same
  · have no : ∀ k, p ∉ F k := fun k mk => by
      obtain ⟨u, e, _⟩ := r.here mk
      rw [np] at e; cases e
    by_cases z : k < P.length
    · rw [f1 k z] at mk; exact no k mk
    · by_cases y : k = P.length
      · rw [y, f2] at mk
        obtain ⟨k', _, m'⟩ := hL p mk
        exact no k' m'
      · rw [f3 k (by omega)] at mk; cases mk
/-- a new thing over what is held, all of it everybody's -/
theorem R.newS (r : R K N G0 H ((S ++ T) ++ es) (ps ++ vs.map some)) (hl : vs.length = es.length) (hp : ps.length = (S ++ T).length) (hS : S.length = N) (hs : ∀ e ∈ es, e ≠ none) {p : Addr} (np : H p = none) {o : HO} {d : PyData}
    (hd : ∀ G, G p = some o → DtL K G vs (dats es) → Dt K G (.ref p) d) (mu : True) : R K N G0 (upd H p o) ((dems es S ++ T) ++ [some (d, .shr)]) (ps ++ [some (.ref p)]) := by
  obtain ⟨F, r⟩ := r
  have hb : ∀ d j, some (d, Md.bor j) ∈ es → j < N := fun d j m => by
    obtain ⟨k, hk⟩ := List.mem_iff_getElem?.mp m
    exact r.bnd ((S ++ T).length + k) d j (by rw [List.getElem?_append_right (by omega)]; simpa using hk)
  obtain ⟨F1, r1, z1, z2⟩ := rel_dems (T := T ++ es) es (by simpa using r) hS hb
  have r2 : Rel K N G0 H F1 ((dems es S ++ T) ++ es) (ps ++ vs.map some) := by simpa using r1
  have lP : (dems es S ++ T).length = (S ++ T).length := by simp [dems_len]
  have lN : N ≤ (dems es S ++ T).length := by rw [lP]; simp; omega
  refine r2.build (by rw [lP]; exact hp) lN (fun a u _ e => same_new np _ _ e) List.nodup_nil (fun a m => by cases m) (.inr rfl) (fun j e => nomatch e) fun F' f1 f2 f3 hG => ?_
  have no : ∀ k, p ∉ F1 k := fun k mk => by
    obtain ⟨u, e, _⟩ := r2.here mk
    rw [np] at e; cases e
  have f4 : ∀ k, (dems es S ++ T).length ≤ k → F' k = [] := fun k hk => by
    by_cases y : k = (dems es S ++ T).length
    · rw [y]; exact f2
    · exact f3 k (by omega)
  refine hd _ ?_ (DtL.le (same_lep fun a u e => ?_) _ (all_shr es vs hl (by rw [lP]; exact hp) lN r2 hs z1 F' f1 f4))
  · rw [gof_of fun k mk => ?_]
    · exact upd_same
    · by_cases z : k < (dems es S ++ T).length
      · rw [f1 k z] at mk; exact no k mk
      · rw [f4 k (by omega)] at mk; cases mk
  · obtain ⟨q1, q2⟩ := gof_some e
    rw [gof_of q1]
    exact same_new np _ _ q2
end
/-! ### arguments -/
def tNil3 : TA3 := fun B S Q => Q [] S
def tCons3 (ta : TE3) (tr : TA3) : TA3 := fun B S Q => ta B S fun d m S1 => tr (B.add m.bs) S1 fun es S2 => Q (some (d, m) :: es) S2
/-- a slot handed over as it is -/
def tConsAt (i : Nat) (tr : TA3) : TA3 := fun B S Q => tr B S fun es S2 => Q (none :: es) S2
section
variable {K : PySem.W.Frag} {N : Nat} {c c1 c2 : Bool} {ats : List (Option Nat)}
theorem lift_nil : LiftA K N [] true tNil tNil3 := by
  intro G0 pv B S T σ us H Q Q3 a h k
  exact k [] H [] S a.lS rfl rfl ⟨fun k e => by simp at e, fun k i e => by simp at e⟩ (by simpa using a.r) (fun _ _ _ e => e) h
theorem lift_cons {te : TE} {t : TE3} {ta : TA} {tr : TA3} (h1 : Lift K N c1 te t) (h2 : LiftA K N ats c2 ta tr) : LiftA K N (none :: ats) (c1 && c2) (tCons te ta) (tCons3 t tr) := by
  intro G0 pv B S T σ us H Q Q3 a h k
  refine h1 a h fun x H1 d m S1 l1 r1 k1 q1 => ?_
  have a1 := a.push l1 r1
  refine h2 a1 q1 fun vs H2 es S2 l2 lv le lat r2 k2 q2 => ?_
  refine k (x :: vs) H2 (some (d, m) :: es) S2 l2 (by simp [lv]) (by simp [le]) ⟨fun j e => ?_, fun j i e => ?_⟩ (by simpa using r2) (fun e a u q => ?_) q2
  · cases j with
    | zero => exact ⟨(d, m), rfl⟩
    | succ j =>
      obtain ⟨e', h'⟩ := lat.no j (by simpa using e)
      exact ⟨e', by simpa using h'⟩
  · cases j with
    | zero => simp at e
    | succ j =>
      obtain ⟨e1, v, e2, e3⟩ := lat.ix j i (by simpa using e)
      exact ⟨by simpa using e1, v, by simpa using e2, e3⟩
  · simp at e
    exact k2 e.2 _ _ (k1 e.1 _ _ q)
theorem lift_consAt {i : Nat} (hi : i < N) {ta : TA} {tr : TA3} (h2 : LiftA K N ats c2 ta tr) : LiftA K N (some i :: ats) c2 (tCons (tVar i) ta) (fun B S Q => (∃ e, S[i]? = some (some e)) ∧ tConsAt i tr B S Q) := by
  intro G0 pv B S T σ us H Q Q3 a h k
  obtain ⟨⟨e, he⟩, h⟩ := h
  obtain ⟨v, hv, _⟩ := a.get he
  refine ⟨v, hv, ?_⟩
  have lS := a.lS
  have lσ := a.lσ
  have lu := a.lu
  have a1 : At K N G0 pv B S (T ++ [none]) σ (us ++ [some v]) H := by
    refine ⟨lS, lσ, by simp [lu], ?_, fun d j m => ?_, a.fx, a.fb, a.lk⟩
    · obtain ⟨F, r⟩ := a.r
      refine ⟨F, r.big (fun _ => False) (by simp; omega) (fun a u _ e => e) (fun _ _ => .inl rfl) (fun _ _ h => h.elim) (fun _ h => h.elim) (fun _ _ _ h => h.elim) (fun j e h => ?_) (fun j h => ?_) fun j d k h => ?_⟩
      · by_cases z : j < (S ++ T).length
        · rw [← List.append_assoc, List.getElem?_append_left z] at h
          exact .inl ⟨id, h, by rw [← List.append_assoc, List.getElem?_append_left (by simp at z ⊢; omega)], fun _ => rfl, fun _ _ => id⟩
        · rw [← List.append_assoc, List.getElem?_append_right (by omega)] at h
          have := List.mem_of_getElem? h
          simp at this
      · refine r.empt j fun d q => h d ?_
        obtain ⟨lt, _⟩ := List.getElem?_eq_some_iff.mp q
        rw [← List.append_assoc, List.getElem?_append_left lt]
        exact q
      · by_cases z : j < (S ++ T).length
        · rw [← List.append_assoc, List.getElem?_append_left z] at h
          exact r.bnd j d k h
        · rw [← List.append_assoc, List.getElem?_append_right (by omega)] at h
          have := List.mem_of_getElem? h
          simp at this
    · rcases List.mem_append.mp m with m | m
      · exact a.b d j m
      · simp at m
  refine h2 a1 h fun vs H2 es S2 l2 lv le lat r2 k2 q2 => ?_
  refine k (v :: vs) H2 (none :: es) S2 l2 (by simp [lv]) (by simp [le]) ⟨fun j e => ?_, fun j i' e => ?_⟩ (by simpa using r2) k2 q2
  · cases j with
    | zero => simp at e
    | succ j =>
      obtain ⟨e', h'⟩ := lat.no j (by simpa using e)
      exact ⟨e', by simpa using h'⟩
  · cases j with
    | zero =>
      simp at e
      subst e
      exact ⟨rfl, v, rfl, hv⟩
    | succ j =>
      obtain ⟨e1, v, e2, e3⟩ := lat.ix j i' (by simpa using e)
      exact ⟨by simpa using e1, v, by simpa using e2, e3⟩
/-- no slot among them -/
def nones (ats : List (Option Nat)) : Bool := ats.all fun x => x.isNone
theorem Ats.full {es : List (Option Ent)} {vs : List V} {σ : St} (h : Ats ats es vs σ) (hl : es.length = ats.length) (n : nones ats = true) : ∀ e ∈ es, e ≠ none := fun e m z => by
  subst z
  obtain ⟨k, hk⟩ := List.mem_iff_getElem?.mp m
  obtain ⟨lt, _⟩ := List.getElem?_eq_some_iff.mp hk
  have e0 : ats[k]? = some (ats[k]'(by omega)) := List.getElem?_eq_getElem (by omega)
  have : (ats[k]'(by omega)).isNone = true := List.all_eq_true.mp n _ (List.getElem_mem _)
  cases q : ats[k]'(by omega) with
  | none =>
    rw [q] at e0
    obtain ⟨e, h'⟩ := h.no k e0
    rw [hk] at h'
    cases h'
  | some i =>
    rw [q] at this
    cases this
/-- a list, a tuple as written -/
def tLst3 (t : TA3) : TE3 := fun B S Q => t B S fun es S1 => if mixOwn es then Q (.list (dats es)) .own S1 else Q (.list (dats es)) .shr (dems es S1)
def tTup3 (t : TA3) : TE3 := fun B S Q => t B S fun es S1 => if flatL (dats es) then Q (.tuple (dats es)) .shr S1 else if mixOwn es then Q (.tuple (dats es)) .own S1 else Q (.tuple (dats es)) .shr (dems es S1)
theorem get_all {G0 H : Hp} : ∀ (es : List (Option Ent)) (vs : List V) {P : S3} {ps : List (Option V)}, R K N G0 H (P ++ es) (ps ++ vs.map some) → ps.length = P.length → vs.length = es.length → (∀ e ∈ es, e ≠ none) → DtL K H vs (dats es)
  | [], [], _, _, _, _, _, _ => .nil
  | some (d, m) :: es, v :: vs, P, ps, r, hp, hl, hs => by
    obtain ⟨v', h1, h2⟩ := r.get (i := P.length) (e := (d, m)) (by rw [List.getElem?_append_right (Nat.le_refl _), Nat.sub_self]; rfl)
    rw [← hp, List.getElem?_append_right (Nat.le_refl _), Nat.sub_self] at h1
    cases h1
    exact .cons h2 (get_all es vs (P := P ++ [some (d, m)]) (ps := ps ++ [some v]) (by simpa using r) (by simp [hp]) (by simpa using hl) fun e m => hs e (List.mem_cons_of_mem _ m))
  | none :: _, _, _, _, _, _, _, hs => absurd rfl (hs _ (List.mem_cons_self ..))
  | [], _ :: _, _, _, _, _, hl, _ => by simp at hl
  | some _ :: _, [], _, _, _, _, hl, _ => by simp at hl
theorem lift_lst {ta : TA} {t : TA3} (hn : nones ats = true) (hz : ats.length ≤ 1000) (h : LiftA K N ats c ta t) : Lift K N c (tLst ta) (tLst3 t) := by
  intro G0 pv B S T σ us H Q Q3 a q k
  have lS := a.lS
  have lσ := a.lσ
  have lu := a.lu
  have line : 50000 < sizeLine := by decide
  refine h a q fun vs H1 es S1 l1 lv le lat r1 k1 q1 => ⟨by omega, fun p np => ?_⟩
  by_cases m : mixOwn es = true
  · rw [if_pos m] at q1
    refine k _ _ _ _ S1 l1 ?_ (fun hc a u e => same_new np _ _ (k1 hc _ _ e)) q1
    have := R.newL (P := S1 ++ T) (ps := σ ++ us) (by simpa using r1) (by omega) (by simp; omega) (by simp; omega) m np
    simpa using this
  · rw [if_neg m] at q1
    refine k _ _ _ _ (dems es S1) (by rw [dems_len]; exact l1) ?_ (fun hc a u e => same_new np _ _ (k1 hc _ _ e)) q1
    have := R.newS (S := S1) (T := T) (ps := σ ++ us) (by simpa using r1) (by omega) (by simp; omega) l1 (lat.full le hn) np (o := .lst vs) (d := .list (dats es)) (fun G e d => .lst e d) trivial
    simpa using this
theorem lift_tup {ta : TA} {t : TA3} (hn : nones ats = true) (hz : ats.length ≤ 1000) (h : LiftA K N ats c ta t) : Lift K N c (tTup ta) (tTup3 t) := by
  intro G0 pv B S T σ us H Q Q3 a q k
  have lS := a.lS
  have lσ := a.lσ
  have lu := a.lu
  have line : 50000 < sizeLine := by decide
  refine h a q fun vs H1 es S1 l1 lv le lat r1 k1 q1 => ⟨by omega, fun p np => ?_⟩
  have r1' : R K N G0 H1 ((S1 ++ T) ++ es) ((σ ++ us) ++ vs.map some) := by simpa using r1
  by_cases f : flatL (dats es) = true
  · rw [if_pos f] at q1
    refine k _ _ _ _ S1 l1 ?_ (fun hc a u e => same_new np _ _ (k1 hc _ _ e)) q1
    have dl := get_all (P := S1 ++ T) (ps := σ ++ us) es vs r1' (by simp; omega) (by omega) (lat.full le hn)
    have := R.flatR (S := S1 ++ T) (vs := σ ++ us) r1' (by simp; omega) (by simp; omega) (same_new (o := .tup vs) np) (d := .tuple (dats es)) (v := .ref p) (by simpa [L2.Fb.T.flat] using f) (.tup upd_same (DtL.le (same_lep (same_new np)) _ dl))
    simpa using this
  · rw [if_neg f] at q1
    by_cases m : mixOwn es = true
    · rw [if_pos m] at q1
      refine k _ _ _ _ S1 l1 ?_ (fun hc a u e => same_new np _ _ (k1 hc _ _ e)) q1
      have := R.newTo (P := S1 ++ T) (ps := σ ++ us) r1' (by omega) (by simp; omega) (by simp; omega) m np
      simpa using this
    · rw [if_neg m] at q1
      refine k _ _ _ _ (dems es S1) (by rw [dems_len]; exact l1) ?_ (fun hc a u e => same_new np _ _ (k1 hc _ _ e)) q1
      have := R.newS (S := S1) (T := T) (ps := σ ++ us) r1' (by omega) (by simp; omega) l1 (lat.full le hn) np (o := .tup vs) (d := .tuple (dats es)) (fun G e d => .tup e d) trivial
      simpa using this
end
section
variable {X : Cx} {pos : Pos} {es : List Expr} {ats : List (Option Nat)} {c c1 c2 : Bool}
theorem a_nil : PA3 X [] tNil [] true tNil3 := ⟨pa_nil, lift_nil⟩
theorem a_cons {e : Expr} {t : TE3} {tr : TA3} {te : TE} {ta : TA} (h1 : PE3 X e te c1 t) (h2 : PA3 X es ta ats c2 tr) (hs : starEach (e :: es) X.env = (false, eval e X.env) :: starEach es X.env := by rfl) : PA3 X (e :: es) (tCons te ta) (none :: ats) (c1 && c2) (tCons3 t tr) := ⟨pa_cons h1.1 h2.1 hs, lift_cons h1.2 h2.2⟩
theorem a_at {i : Nat} {x : Str} {p : Pos} {tr : TA3} {ta : TA} (h1 : PE X (.Name x p) (tVar i)) (hi : i < X.N.length) (h2 : PA3 X es ta ats c2 tr) (hs : starEach (.Name x p :: es) X.env = (false, eval (.Name x p) X.env) :: starEach es X.env := by rfl) :
    PA3 X (.Name x p :: es) (tCons (tVar i) ta) (some i :: ats) c2 (fun B S Q => (∃ e, S[i]? = some (some e)) ∧ tConsAt i tr B S Q) := ⟨pa_cons h1 h2.1 hs, lift_consAt hi h2.2⟩
theorem e_lst {t : TA3} {ta : TA} (h : PA3 X es ta ats c t) (hn : nones ats = true := by rfl) (hz : ats.length ≤ 1000 := by decide) : PE3 X (.List es pos) (tLst ta) c (tLst3 t) := ⟨pe_lst h.1, lift_lst hn hz h.2⟩
theorem e_tup {x1} {t : TA3} {ta : TA} (h : PA3 X es ta ats c t) (hn : nones ats = true := by rfl) (hz : ats.length ≤ 1000 := by decide) : PE3 X (.Tuple es x1 pos) (tTup ta) c (tTup3 t) := ⟨pe_tup h.1, lift_tup hn hz h.2⟩
end
end L2.Fb.T

namespace L2.Fb.T
open PySem PySem.Spec
open PyProof.Rows
/-! ### calls of defs -/
abbrev C3 := List PyData → (PyData → Md → List PyData → Prop) → Prop
/-- the parameters as they come: io ones one's own -/
def ents : List Bool → List PyData → S3
  | b :: bs, d :: ds => some (d, if b = true then .own else .shr) :: ents bs ds
  | _, _ => []
/-- .. behind the call -/
def outs : List Bool → List PyData → S3
  | b :: bs, d :: ds => (if b = true then some (d, .own) else none) :: outs bs ds
  | _, _ => []
def sp3 (K : PySem.W.Frag) (ios : List Bool) (c : C3) : Sp := fun vs H Q _ => ∃ G0 ds, vs.length = ios.length ∧ ds.length = ios.length ∧ R K 0 G0 H (ents ios ds) (vs.map some) ∧ (∀ (k : Nat) d v, ios[k]? = some false → ds[k]? = some d → vs[k]? = some v → Dt K G0 v d) ∧
  ∃ k, c ds k ∧ ∀ r m ds', ds'.length = ios.length → (m = .shr ∨ m = .own) → k r m ds' → ∀ v H', R K 0 G0 H' (outs ios ds' ++ [some (r, m)]) (vs.map some ++ [some v]) → Q v H'
section
variable {K : PySem.W.Frag} {N : Nat} {G0 G G' H H' : Hp} {F F' : Nat → List Addr} {S S' T P : S3} {vs : List V} {ps : List (Option V)} {es : List (Option Ent)} {σ : St} {us : List (Option V)}
theorem ents_len : ∀ (bs : List Bool) (ds : List PyData), ds.length = bs.length → (ents bs ds).length = bs.length
  | [], [], _ => rfl
  | b :: bs, d :: ds, h => by
    show (ents bs ds).length + 1 = bs.length + 1
    rw [ents_len bs ds (by simpa using h)]
  | [], _ :: _, h => by simp at h
  | _ :: _, [], h => by simp at h
theorem outs_len : ∀ (bs : List Bool) (ds : List PyData), ds.length = bs.length → (outs bs ds).length = bs.length
  | [], [], _ => rfl
  | b :: bs, d :: ds, h => by
    show (outs bs ds).length + 1 = bs.length + 1
    rw [outs_len bs ds (by simpa using h)]
  | [], _ :: _, h => by simp at h
  | _ :: _, [], h => by simp at h
theorem ents_get : ∀ (bs : List Bool) (ds : List PyData) (k : Nat) (e : Ent), (ents bs ds)[k]? = some (some e) → ∃ b d, bs[k]? = some b ∧ ds[k]? = some d ∧ e = (d, if b = true then .own else .shr)
  | b :: bs, d :: ds, 0, e, h => by
    cases h
    exact ⟨b, d, rfl, rfl, rfl⟩
  | b :: bs, d :: ds, k + 1, e, h => ents_get bs ds k e h
  | [], _, k, e, h => by simp [ents] at h
  | _ :: _, [], k, e, h => by simp [ents] at h
theorem ents_of : ∀ (bs : List Bool) (ds : List PyData) (k : Nat) (b : Bool) (d : PyData), bs[k]? = some b → ds[k]? = some d → (ents bs ds)[k]? = some (some (d, if b = true then .own else .shr))
  | b :: bs, d :: ds, 0, _, _, h, h' => by
    cases h
    cases h'
    rfl
  | b :: bs, d :: ds, k + 1, _, _, h, h' => ents_of bs ds k _ _ h h'
theorem outs_get : ∀ (bs : List Bool) (ds : List PyData) (k : Nat) (e : Ent), (outs bs ds)[k]? = some (some e) → ∃ d, bs[k]? = some true ∧ ds[k]? = some d ∧ e = (d, .own)
  | b :: bs, d :: ds, 0, e, h => by
    cases b with
    | true =>
      cases h
      exact ⟨d, rfl, rfl, rfl⟩
    | false => cases h
  | b :: bs, d :: ds, k + 1, e, h => outs_get bs ds k e h
  | [], _, k, e, h => by simp [outs] at h
  | _ :: _, [], k, e, h => by simp [outs] at h
theorem outs_of : ∀ (bs : List Bool) (ds : List PyData) (k : Nat) (d : PyData), bs[k]? = some true → ds[k]? = some d → (outs bs ds)[k]? = some (some (d, .own))
  | b :: bs, d :: ds, 0, _, h, h' => by
    cases h
    cases h'
    rfl
  | b :: bs, d :: ds, k + 1, _, h, h' => outs_of bs ds k _ h h'
/-! the caller's side -/
def look3 : List (Option Nat) → List PyData → Nat → Option PyData
  | some i :: r, d :: ds, k => if i = k then some d else look3 r ds k
  | none :: r, _ :: ds, k => look3 r ds k
  | _, _, _ => none
def killE (ats : List (Option Nat)) : Option Ent → Option Ent
  | some (d, .bor j) => if ats.contains (some j) then none else some (d, .bor j)
  | e => e
/-- the slots behind a call -/
def aft (ats : List (Option Nat)) (ds : List PyData) : Nat → S3 → S3
  | _, [] => []
  | k, e :: r => (match look3 ats ds k with | some d => some (d, .own) | none => killE ats e) :: aft ats ds (k + 1) r
def isOwn (S : S3) (i : Nat) : Bool := match S[i]? with | some (some (_, .own)) => true | _ => false
def ioOf : List (Option Nat) → List Nat
  | [] => []
  | some i :: r => i :: ioOf r
  | none :: r => ioOf r
def freeE (ats : List (Option Nat)) : Option Ent → Bool
  | some (_, .bor j) => !ats.contains (some j)
  | _ => true
def okA (B : Bs) (ats : List (Option Nat)) (es : List (Option Ent)) (S : S3) : Bool := ((ioOf ats).all fun i => !B.br.contains i && isOwn S i) && (decide (ioOf ats).Nodup && es.all (freeE ats))
def argD (S : S3) : List (Option Nat) → List (Option Ent) → List PyData
  | some i :: r, _ :: es => (match S[i]? with | some (some (d, _)) => d | _ => .none) :: argD S r es
  | none :: r, some (d, _) :: es => d :: argD S r es
  | none :: r, none :: es => .none :: argD S r es
  | _, _ => []
def ios (ats : List (Option Nat)) : List Bool := ats.map fun x => x.isSome
def demE : Option Ent → Option Ent
  | some (d, _) => some (d, .shr)
  | none => none
def demAll (S : S3) : S3 := S.map demE
theorem aft_len (ats : List (Option Nat)) (ds : List PyData) : ∀ (k : Nat) (S : S3), (aft ats ds k S).length = S.length
  | _, [] => rfl
  | k, _ :: r => congrArg (· + 1) (aft_len ats ds (k + 1) r)
theorem aft_get (ats : List (Option Nat)) (ds : List PyData) : ∀ (n : Nat) (S : S3) (k : Nat), (aft ats ds n S)[k]? = (S[k]?).map fun e => match look3 ats ds (n + k) with | some d => some (d, .own) | none => killE ats e
  | n, [], k => by simp [aft]
  | n, e :: r, 0 => rfl
  | n, e :: r, k + 1 => by
    show (aft ats ds (n + 1) r)[k]? = _
    rw [aft_get ats ds (n + 1) r k, show n + 1 + k = n + (k + 1) by omega]
    rfl
theorem io_mem : ∀ {ats : List (Option Nat)} {i : Nat}, i ∈ ioOf ats ↔ ∃ k : Nat, ats[k]? = some (some i)
  | [], i => by simp [ioOf]
  | some j :: r, i => by
    show i ∈ j :: ioOf r ↔ _
    rw [List.mem_cons, io_mem]
    constructor
    · rintro (rfl | ⟨k, h⟩)
      · exact ⟨0, rfl⟩
      · exact ⟨k + 1, h⟩
    · rintro ⟨k, h⟩
      cases k with
      | zero => cases h; exact .inl rfl
      | succ k => exact .inr ⟨k, h⟩
  | none :: r, i => by
    show i ∈ ioOf r ↔ _
    rw [io_mem]
    constructor
    · rintro ⟨k, h⟩
      exact ⟨k + 1, h⟩
    · rintro ⟨k, h⟩
      cases k with
      | zero => cases h
      | succ k => exact ⟨k, h⟩
theorem io_inj : ∀ {ats : List (Option Nat)} {k j i : Nat}, (ioOf ats).Nodup → ats[k]? = some (some i) → ats[j]? = some (some i) → k = j
  | [], k, j, i, _, h, _ => by simp at h
  | some x :: r, k, j, i, nd, h, h' => by
    have nd : x ∉ ioOf r ∧ (ioOf r).Nodup := List.nodup_cons.mp nd
    cases k with
    | zero =>
      cases h
      cases j with
      | zero => rfl
      | succ j => exact absurd (io_mem.mpr ⟨j, h'⟩) nd.1
    | succ k =>
      cases j with
      | zero =>
        cases h'
        exact absurd (io_mem.mpr ⟨k, h⟩) nd.1
      | succ j => rw [io_inj nd.2 (k := k) (j := j) h h']
  | none :: r, k, j, i, nd, h, h' => by
    cases k with
    | zero => cases h
    | succ k =>
      cases j with
      | zero => cases h'
      | succ j => rw [io_inj (ats := r) nd (k := k) (j := j) h h']
theorem look_none : ∀ {ats : List (Option Nat)} {ds : List PyData} {i : Nat}, ds.length = ats.length → (look3 ats ds i = none ↔ i ∉ ioOf ats)
  | [], _, i, _ => by simp [look3, ioOf]
  | some x :: r, d :: ds, i, h => by
    show (if x = i then some d else look3 r ds i) = none ↔ i ∉ x :: ioOf r
    by_cases z : x = i
    · simp [z]
    · rw [if_neg z, look_none (by simpa using h)]
      simp [Ne.symm z]
  | none :: r, d :: ds, i, h => by
    show look3 r ds i = none ↔ i ∉ ioOf r
    exact look_none (by simpa using h)
  | some x :: r, [], i, h => by simp at h
  | none :: r, [], i, h => by simp at h
theorem look_some : ∀ {ats : List (Option Nat)} {ds : List PyData} {i : Nat} {d : PyData}, look3 ats ds i = some d → ∃ k : Nat, ats[k]? = some (some i) ∧ ds[k]? = some d
  | some x :: r, e :: ds, i, d, h => by
    have h : (if x = i then some e else look3 r ds i) = some d := h
    by_cases z : x = i
    · rw [if_pos z] at h
      cases h
      subst z
      exact ⟨0, rfl, rfl⟩
    · rw [if_neg z] at h
      obtain ⟨k, a, b⟩ := look_some h
      exact ⟨k + 1, a, b⟩
  | none :: r, e :: ds, i, d, h => by
    obtain ⟨k, a, b⟩ := look_some (ats := r) (ds := ds) h
    exact ⟨k + 1, a, b⟩
  | [], _, _, _, h => by simp [look3] at h
  | some _ :: _, [], _, _, h => by simp [look3] at h
  | none :: _, [], _, _, h => by simp [look3] at h
theorem argD_len (S : S3) : ∀ (ats : List (Option Nat)) (es : List (Option Ent)), es.length = ats.length → (argD S ats es).length = ats.length
  | [], [], _ => rfl
  | some i :: r, _ :: es, h => congrArg (· + 1) (argD_len S r es (by simpa using h))
  | none :: r, some (d, m) :: es, h => congrArg (· + 1) (argD_len S r es (by simpa using h))
  | none :: r, none :: es, h => congrArg (· + 1) (argD_len S r es (by simpa using h))
  | [], _ :: _, h => by simp at h
  | some _ :: _, [], h => by simp at h
  | none :: _, [], h => by simp at h
theorem argD_io (S : S3) : ∀ (ats : List (Option Nat)) (es : List (Option Ent)) (k i : Nat) (d e : PyData) (m : Md), ats[k]? = some (some i) → (argD S ats es)[k]? = some d → S[i]? = some (some (e, m)) → d = e
  | some j :: r, x :: es, 0, i, d, e, m, h, h', h2 => by
    have h : some (some j) = some (some i) := h
    cases h
    have h' : some (match S[j]? with | some (some (d, _)) => d | _ => PyData.none) = some d := h'
    rw [h2] at h'
    exact (Option.some.inj h').symm
  | some j :: r, x :: es, k + 1, i, d, e, m, h, h', h2 => argD_io S r es k i d e m h h' h2
  | none :: r, some x :: es, k + 1, i, d, e, m, h, h', h2 => argD_io S r es k i d e m h h' h2
  | none :: r, none :: es, k + 1, i, d, e, m, h, h', h2 => argD_io S r es k i d e m h h' h2
  | none :: _, _, 0, _, _, _, _, h, _, _ => by simp at h
  | some _ :: _, [], _, _, _, _, _, _, h', _ => by simp [argD] at h'
  | none :: _, [], _, _, _, _, _, _, h', _ => by simp [argD] at h'
  | [], _, _, _, _, _, _, h, _, _ => by simp at h
theorem argD_rd (S : S3) : ∀ (ats : List (Option Nat)) (es : List (Option Ent)) (k : Nat) (d : PyData) (e : Ent), ats[k]? = some none → (argD S ats es)[k]? = some d → es[k]? = some (some e) → d = e.1
  | some j :: r, x :: es, k + 1, d, e, h, h', h2 => argD_rd S r es k d e h h' h2
  | none :: r, some x :: es, 0, d, e, h, h', h2 => by
    cases h2
    cases h'
    rfl
  | none :: r, some x :: es, k + 1, d, e, h, h', h2 => argD_rd S r es k d e h h' h2
  | none :: r, none :: es, k + 1, d, e, h, h', h2 => argD_rd S r es k d e h h' h2
  | some j :: r, x :: es, 0, d, e, h, h', h2 => by simp at h
  | none :: r, none :: es, 0, d, e, h, h', h2 => by simp at h2
  | some _ :: _, [], _, _, _, _, h', _ => by simp [argD] at h'
  | none :: _, [], _, _, _, _, h', _ => by simp [argD] at h'
  | [], _, _, _, _, h, _, _ => by simp at h
theorem io_true {ats : List (Option Nat)} {k : Nat} : (ios ats)[k]? = some true ↔ ∃ i, ats[k]? = some (some i) := by
  unfold ios
  rw [List.getElem?_map]
  cases h : ats[k]? with
  | none => simp
  | some o => cases o <;> simp
theorem io_false {ats : List (Option Nat)} {k : Nat} : (ios ats)[k]? = some false ↔ ats[k]? = some none := by
  unfold ios
  rw [List.getElem?_map]
  cases h : ats[k]? with
  | none => simp
  | some o => cases o <;> simp
/-- the slots that are handed over, at the callee's -/
def Fio (F : Nat → List Addr) (ats : List (Option Nat)) (k : Nat) : List Addr := match ats[k]? with | some (some i) => F i | _ => []
theorem fio_mem {F : Nat → List Addr} {ats : List (Option Nat)} {k : Nat} {a : Addr} (h : a ∈ Fio F ats k) : ∃ i, ats[k]? = some (some i) ∧ a ∈ F i := by
  unfold Fio at h
  split at h
  · rename_i i e
    exact ⟨i, e, h⟩
  · cases h
theorem R.call {B : Bs} {ats : List (Option Nat)} (r : R K N G0 H ((S ++ T) ++ es) (ps ++ vs.map some)) (lS : S.length = N) (lp : ps.length = (S ++ T).length) (lv : vs.length = ats.length) (le : es.length = ats.length) (A : Ats ats es vs (ps.take N)) (hb : BorIn T B) (ok : okA B ats es S = true) :
    ∃ Gc, ((∀ x ∈ ats, x = none) → Same H Gc) ∧ R K 0 Gc H (ents (ios ats) (argD S ats es)) (vs.map some) ∧ (∀ (k : Nat) d v, (ios ats)[k]? = some false → (argD S ats es)[k]? = some d → vs[k]? = some v → Dt K Gc v d) ∧
      ∀ ds' rd m v H', ds'.length = (ios ats).length → (m = .shr ∨ m = .own) → R K 0 Gc H' (outs (ios ats) ds' ++ [some (rd, m)]) (vs.map some ++ [some v]) →
        (flat rd = true → R K N G0 H' ((aft ats ds' 0 S ++ T) ++ [some (rd, .shr)]) (ps ++ [some v])) ∧ (m = .own → R K N G0 H' ((aft ats ds' 0 S ++ T) ++ [some (rd, .own)]) (ps ++ [some v])) := by
  obtain ⟨F, r⟩ := r
  have ok : (∀ i ∈ ioOf ats, i ∉ B.br ∧ isOwn S i = true) ∧ (ioOf ats).Nodup ∧ ∀ e ∈ es, freeE ats e = true := by
    simp only [okA, Bool.and_eq_true, List.all_eq_true, decide_eq_true_eq, Bool.not_eq_true', List.contains_eq_mem, decide_eq_false_iff_not] at ok
    exact ⟨ok.1, ok.2.1, ok.2.2⟩
  obtain ⟨ok1, nd, ok3⟩ := ok
  have own : ∀ {k i : Nat}, ats[k]? = some (some i) → i < N ∧ i ∉ B.br ∧ ∃ d, S[i]? = some (some (d, Md.own)) := fun {k i} h => by
    obtain ⟨h1, h2⟩ := ok1 i (io_mem.mpr ⟨k, h⟩)
    unfold isOwn at h2
    split at h2
    · rename_i d e
      obtain ⟨lt, _⟩ := List.getElem?_eq_some_iff.mp e
      exact ⟨by omega, h1, d, e⟩
    · cases h2
  have inP : ∀ {i : Nat} {x : Option Ent}, S[i]? = some x → ((S ++ T) ++ es)[i]? = some x := fun {i x} h => by
    obtain ⟨lt, _⟩ := List.getElem?_eq_some_iff.mp h
    rw [List.append_assoc, List.getElem?_append_left lt]
    exact h
  have sub : ∀ k a, a ∈ Fio F ats k → ∃ i, a ∈ F i := fun k a m => let ⟨i, _, h⟩ := fio_mem m; ⟨i, h⟩
  have hG : Same (Gof H F) (Gof H (Fio F ats)) := fun a u e => by
    obtain ⟨q1, q2⟩ := gof_some e
    rw [gof_of fun k m => let ⟨i, h⟩ := sub k a m; q1 i h]
    exact q2
  have hval : ∀ {k i : Nat}, ats[k]? = some (some i) → ∃ v, vs[k]? = some v ∧ ps[i]? = some (some v) := fun {k i} h => by
    obtain ⟨_, v, h1, h2⟩ := A.ix k i h
    refine ⟨v, h1, ?_⟩
    rw [List.getElem?_take] at h2
    split at h2
    · exact h2
    · cases h2
  have esz : ∀ {k : Nat} {e : Ent}, es[k]? = some (some e) → ∃ v, vs[k]? = some v ∧ En K (Gof H F) H F (N + T.length + k) v e.1 e.2 ∧ ∀ j, e.2 = .bor j → j < N ∧ j ∉ ioOf ats := fun {k e} h => by
    have e1 : ((S ++ T) ++ es)[N + T.length + k]? = some (some e) := by
      rw [List.getElem?_append_right (by simp; omega), show N + T.length + k - (S ++ T).length = k by simp; omega]
      exact h
    obtain ⟨v, h1, h2⟩ := r.ent _ _ e1
    rw [List.getElem?_append_right (by rw [lp]; simp; omega), show N + T.length + k - ps.length = k by rw [lp]; simp; omega, List.getElem?_map] at h1
    cases q : vs[k]? with
    | none => rw [q] at h1; simp at h1
    | some v' =>
      rw [q] at h1
      cases h1
      refine ⟨v, rfl, h2, fun j ej => ?_⟩
      obtain ⟨d, m⟩ := e
      have ej : m = .bor j := ej
      subst ej
      refine ⟨r.bnd _ d j e1, fun mj => ?_⟩
      have := ok3 _ (List.mem_of_getElem? h)
      obtain ⟨k', hk'⟩ := io_mem.mp mj
      have mm : some j ∈ ats := List.mem_of_getElem? hk'
      simp [freeE, mm] at this
  -- what is not handed over is seen
  have seen : ∀ (j : Nat), j ∉ ioOf ats → Same (vis (Gof H F) H (F j)) (Gof H (Fio F ats)) := fun j hj a u e => by
    by_cases z : a ∈ F j
    · rw [vis_at z] at e
      rw [gof_of fun k m => ?_]
      · exact e
      · obtain ⟨i, hi, mi⟩ := fio_mem m
        rw [r.sep _ _ _ mi z] at hi
        exact hj (io_mem.mpr ⟨k, hi⟩)
    · rw [vis_off z] at e
      exact hG _ _ e
  have ioN : ∀ {j : Nat}, j ∈ ioOf ats → j < N := fun {j} m => let ⟨k, h⟩ := io_mem.mp m; (own h).1
  have rd : ∀ (k : Nat) d v, (ios ats)[k]? = some false → (argD S ats es)[k]? = some d → vs[k]? = some v → Dt K (Gof H (Fio F ats)) v d := fun k d v h1 h2 h3 => by
    have h1 := io_false.mp h1
    obtain ⟨e, he⟩ := A.no k h1
    have := argD_rd S ats es k d e h1 h2 he
    subst this
    obtain ⟨v', q1, q2, q3⟩ := esz he
    rw [h3] at q1
    cases q1
    obtain ⟨d, m⟩ := e
    cases m with
    | shr => exact Dt.le (same_lep hG) _ q2
    | own => exact Dt.le (same_lep (seen _ fun m => by have := ioN m; omega)) _ (Own.dt (gof_same H F) q2 _ fun _ m => m)
    | bor j => exact Dt.le (same_lep (seen j (q3 j rfl).2)) _ q2
  have lA := argD_len S ats es le
  have lI : (ios ats).length = ats.length := List.length_map ..
  have all : (∀ x ∈ ats, x = none) → Same H (Gof H (Fio F ats)) := fun hn a u e => by
    rw [gof_of fun k m => ?_]
    · exact e
    · obtain ⟨i, hi, _⟩ := fio_mem m
      cases hn _ (List.mem_of_getElem? hi)
  refine ⟨Gof H (Fio F ats), all, ⟨Fio F ats, ?_, fun _ _ e => e, fun k => ?_, fun k j a mk mj => ?_, fun k e h => ?_, fun k h => ?_, fun k d j h => ?_⟩, rd, fun ds' rdt m v H' lds hm r2 => ?_⟩
  · rw [List.length_map, ents_len _ _ (by rw [lA, lI]), lI, lv]
  · unfold Fio
    split
    · exact r.nodup _
    · exact List.nodup_nil
  · obtain ⟨i, hi, mi⟩ := fio_mem mk
    obtain ⟨i', hi', mi'⟩ := fio_mem mj
    have := r.sep _ _ _ mi mi'
    subst this
    exact io_inj nd hi hi'
  · obtain ⟨b, d, hb, hd, rfl⟩ := ents_get _ _ _ _ h
    cases b with
    | true =>
      obtain ⟨i, hi⟩ := io_true.mp hb
      obtain ⟨lt, _, d', hd'⟩ := own hi
      obtain ⟨v, e1, e2⟩ := hval hi
      obtain ⟨v', q1, q2⟩ := r.ent i _ (inP hd')
      rw [List.getElem?_append_left (by rw [lp]; simp; omega), e2] at q1
      cases q1
      have := argD_io S ats es k i d d' .own hi hd hd'
      subst this
      refine ⟨v, by rw [List.getElem?_map, e1]; rfl, ?_⟩
      show Own K _ H v d (Fio F ats k)
      have ef : Fio F ats k = F i := by unfold Fio; rw [hi]
      rw [ef]
      exact Own.mv hG q2 fun _ _ _ e => e
    | false =>
      have := io_false.mp hb
      obtain ⟨e, he⟩ := A.no k this
      obtain ⟨v, q1, _, _⟩ := esz he
      exact ⟨v, by rw [List.getElem?_map, q1]; rfl, rd k d v hb hd q1⟩
  · unfold Fio
    split
    · rename_i i e
      obtain ⟨lt, _⟩ := List.getElem?_eq_some_iff.mp e
      have ltD : k < (argD S ats es).length := by rw [lA]; exact lt
      exact absurd (ents_of _ _ k true _ (io_true.mpr ⟨i, e⟩) (List.getElem?_eq_getElem ltD)) (h _)
    · rfl
  · obtain ⟨b, d', hb, hd, e⟩ := ents_get _ _ _ _ h
    cases b <;> cases e
  · obtain ⟨F2, r2⟩ := r2
    have lI2 : (outs (ios ats) ds').length = ats.length := by rw [outs_len _ _ lds, lI]
    -- the new footprints
    let n := (S ++ T).length
    have hn : n = N + T.length := by simp [n, lS]
    let kOf : Nat → Option Nat := fun i => ats.findIdx? fun o => decide (o = some i)
    have kOf1 : ∀ {i k : Nat}, kOf i = some k → ats[k]? = some (some i) := fun {i k} h => by
      obtain ⟨lt, h1, _⟩ := List.findIdx?_eq_some_iff_getElem.mp h
      rw [List.getElem?_eq_getElem lt, of_decide_eq_true h1]
    have kOf2 : ∀ {i k : Nat}, ats[k]? = some (some i) → kOf i = some k := fun {i k} h => by
      cases q : kOf i with
      | none =>
        have := List.findIdx?_eq_none_iff.mp q (some i) (List.mem_of_getElem? h)
        simp at this
      | some k' => rw [io_inj nd (kOf1 q) h]
    let F' : Nat → List Addr := fun i => match kOf i with | some k => F2 k | none => if i < n then F i else if i = n then F2 ats.length else []
    have F'io : ∀ {i k : Nat}, ats[k]? = some (some i) → F' i = F2 k := fun {i k} h => by show (match kOf i with | some k => _ | none => _) = _; rw [kOf2 h]
    have F'no : ∀ {i : Nat}, i ∉ ioOf ats → F' i = if i < n then F i else if i = n then F2 ats.length else [] := fun {i} h => by
      have : kOf i = none := by
        cases q : kOf i with
        | none => rfl
        | some k => exact absurd (io_mem.mpr ⟨k, kOf1 q⟩) h
      show (match kOf i with | some k => _ | none => _) = _
      rw [this]
    have kept : ∀ a u, (∀ k, (k ∈ ioOf ats ∨ n ≤ k) → a ∉ F k) → H a = some u → H' a = some u := fun a u h e => by
      have : Gof H (Fio F ats) a = some u := by
        rw [gof_of fun k m => ?_]
        · exact e
        · obtain ⟨i, hi, mi⟩ := fio_mem m
          exact h i (.inl (io_mem.mpr ⟨k, hi⟩)) mi
      exact (gof_some (r2.base _ _ this)).2
    have new2 : ∀ k a, a ∈ F2 k → H a = none ∨ ∃ i, i ∈ ioOf ats ∧ a ∈ F i := fun k a m => by
      cases e : H a with
      | none => exact .inl rfl
      | some u =>
        by_cases z : ∃ i, i ∈ ioOf ats ∧ a ∈ F i
        · exact .inr z
        · have : Gof H (Fio F ats) a = some u := by
            rw [gof_of fun k m => ?_]
            · exact e
            · obtain ⟨i, hi, mi⟩ := fio_mem m
              exact z ⟨i, io_mem.mpr ⟨k, hi⟩, mi⟩
          exact absurd m ((gof_some (r2.base _ _ this)).1 k)
    have big : ∀ (m' : Md), (m' = .own → m = .own) → (m' = .shr ∨ m' = .own) → (m' = .shr → flat rdt = true) → R K N G0 H' ((aft ats ds' 0 S ++ T) ++ [some (rdt, m')]) (ps ++ [some v]) := fun m' hm1 hm2 hm3 => by
      have lE : (aft ats ds' 0 S ++ T).length = n := by simp [n, aft_len]
      refine ⟨fun i => if m' = .own ∨ i ≠ n then F' i else [], r.big (fun k => k ∈ ioOf ats ∨ n ≤ k) (by simp [aft_len]; rw [lp]; simp [n]; omega) kept (fun k hk => .inl ?_) (fun k a hk ma => ?_) (fun k hk => ?_) (fun k j a hk hj mk mj => ?_) (fun i e h => ?_) (fun i h => ?_) fun i d j h => ?_⟩
      · have h1 : k ∉ ioOf ats := fun z => hk (.inl z)
        have h2 : k < n := by
          by_cases z : k < n
          · exact z
          · exact absurd (.inr (by omega)) hk
        rw [if_pos (.inr (by omega)), F'no h1, if_pos h2]
      · have g : ∃ k', a ∈ F2 k' := by
          split at ma
          · by_cases z : k ∈ ioOf ats
            · obtain ⟨k', hk'⟩ := io_mem.mp z
              rw [F'io hk'] at ma
              exact ⟨k', ma⟩
            · rw [F'no z, if_neg (by have := hk.resolve_left z; omega)] at ma
              split at ma
              · exact ⟨_, ma⟩
              · cases ma
          · cases ma
        obtain ⟨k', ma'⟩ := g
        rcases new2 k' a ma' with e | ⟨i, hi, mi⟩
        · exact .inl e
        · exact .inr ⟨i, .inl hi, mi⟩
      · split
        · by_cases z : k ∈ ioOf ats
          · obtain ⟨k', hk'⟩ := io_mem.mp z
            rw [F'io hk']
            exact r2.nodup _
          · rw [F'no z, if_neg (by have := hk.resolve_left z; omega)]
            split
            · exact r2.nodup _
            · exact List.nodup_nil
        · exact List.nodup_nil
      · have g : ∀ {k : Nat}, (k ∈ ioOf ats ∨ n ≤ k) → a ∈ (if m' = .own ∨ k ≠ n then F' k else []) → (∃ k', ats[k']? = some (some k) ∧ a ∈ F2 k') ∨ (k = n ∧ a ∈ F2 ats.length) := fun {k} hk ma => by
          split at ma
          · by_cases z : k ∈ ioOf ats
            · obtain ⟨k', hk'⟩ := io_mem.mp z
              rw [F'io hk'] at ma
              exact .inl ⟨k', hk', ma⟩
            · rw [F'no z, if_neg (by have := hk.resolve_left z; omega)] at ma
              split at ma
              · rename_i y
                exact .inr ⟨y, ma⟩
              · cases ma
          · cases ma
        have lt_ : ∀ {k' i : Nat}, ats[k']? = some (some i) → k' < ats.length := fun h => (List.getElem?_eq_some_iff.mp h).1
        rcases g hk mk with ⟨k', e1, m1⟩ | ⟨e1, m1⟩
        · rcases g hj mj with ⟨j', e2, m2⟩ | ⟨e2, m2⟩
          · have := r2.sep _ _ _ m1 m2
            subst this
            rw [e1] at e2
            cases e2
            rfl
          · have := r2.sep _ _ _ m1 m2
            have := lt_ e1
            omega
        · rcases g hj mj with ⟨j', e2, m2⟩ | ⟨e2, m2⟩
          · have := r2.sep _ _ _ m1 m2
            have := lt_ e2
            omega
          · omega
      · have mu : ∀ i a, a ∈ (fun i => if m' = .own ∨ i ≠ n then F' i else []) i → ∃ u, H' a = some u ∧ Mu u := fun i a ma => by
          have ma : a ∈ (if m' = .own ∨ i ≠ n then F' i else []) := ma
          split at ma
          · by_cases z : i ∈ ioOf ats
            · obtain ⟨k', hk'⟩ := io_mem.mp z
              rw [F'io hk'] at ma
              exact r2.here ma
            · rw [F'no z] at ma
              split at ma
              · obtain ⟨u, e1, e2⟩ := r.here ma
                refine ⟨u, kept a u (fun k hk mk => ?_) e1, e2⟩
                have := r.sep _ _ _ ma mk
                subst this
                rename_i y _
                exact hk.elim z (by omega)
              · split at ma
                · exact r2.here ma
                · cases ma
          · cases ma
        have tr : ∀ a xs, Gof H' F2 a = some (.tup xs) → Gof H' (fun i => if m' = .own ∨ i ≠ n then F' i else []) a = some (.tup xs) := fun a xs q => sqt_gof mu (gof_same H' F2 _ _ q)
        by_cases z : i < n
        · rw [List.getElem?_append_left (by omega)] at h
          by_cases zN : i < N
          · rw [List.getElem?_append_left (by rw [aft_len]; omega), aft_get, Nat.zero_add] at h
            cases hS : S[i]? with
            | none => rw [hS] at h; cases h
            | some e0 =>
              rw [hS] at h
              have h := Option.some.inj h
              cases q : look3 ats ds' i with
              | some d =>
                rw [q] at h
                cases h
                obtain ⟨k, hk, hd⟩ := look_some q
                have ok := outs_of (ios ats) ds' k d (io_true.mpr ⟨i, hk⟩) hd
                obtain ⟨lt, _⟩ := List.getElem?_eq_some_iff.mp ok
                obtain ⟨v', q1, q2⟩ := r2.ent k (d, .own) (by rw [List.getElem?_append_left lt]; exact ok)
                obtain ⟨v2, e1, e2⟩ := hval hk
                rw [List.getElem?_append_left (by rw [List.length_map]; omega), List.getElem?_map, e1] at q1
                cases q1
                refine .inr fun _ => ⟨v', by rw [List.getElem?_append_left (by rw [lp]; simp; omega)]; exact e2, ?_⟩
                show Own K _ H' v' d (if m' = .own ∨ i ≠ n then F' i else [])
                rw [if_pos (.inr (by omega)), F'io hk]
                exact Own.sq tr q2 fun _ _ _ e => e
              | none =>
                rw [q] at h
                have hi : i ∉ ioOf ats := (look_none (by rw [lds, lI])).mp q
                have h0 : e0 = some e ∧ ∀ j, e.2 = .bor j → j ∉ ioOf ats := by
                  cases e0 with
                  | none => cases h
                  | some x =>
                    obtain ⟨d, m0⟩ := x
                    cases m0 with
                    | shr => cases h; exact ⟨rfl, fun j e => nomatch e⟩
                    | own => cases h; exact ⟨rfl, fun j e => nomatch e⟩
                    | bor j =>
                      have h : (if ats.contains (some j) then none else some (d, Md.bor j)) = some e := h
                      split at h
                      · cases h
                      · rename_i y
                        cases h
                        refine ⟨rfl, fun j' e mj => ?_⟩
                        cases e
                        obtain ⟨k, hk⟩ := io_mem.mp mj
                        have : some j ∈ ats := List.mem_of_getElem? hk
                        simp [this] at y
                obtain ⟨rfl, hb2⟩ := h0
                refine .inl ⟨fun hk => hk.elim hi (by omega), inP hS, ?_, fun _ => ?_, fun j ej hk => ?_⟩
                · rw [List.getElem?_append_left (by rw [lp]; simp; omega), List.getElem?_append_left (by rw [lp]; simp; omega)]
                · rw [if_pos (.inr (by omega)), F'no hi, if_pos z]
                · have := r.bnd i e.1 j (by rw [← ej]; exact inP hS)
                  exact hk.elim (hb2 j ej) (by omega)
          · rw [List.getElem?_append_right (by rw [aft_len]; omega), aft_len] at h
            have hi : i ∉ ioOf ats := fun m => zN (ioN m)
            have hZ : ((S ++ T) ++ es)[i]? = some (some e) := by
              rw [List.getElem?_append_left (by simp; omega), List.getElem?_append_right (by omega)]
              exact h
            refine .inl ⟨fun hk => hk.elim hi (by omega), hZ, ?_, fun _ => ?_, fun j ej hk => ?_⟩
            · rw [List.getElem?_append_left (by rw [lp]; simp; omega), List.getElem?_append_left (by rw [lp]; simp; omega)]
            · rw [if_pos (.inr (by omega)), F'no hi, if_pos z]
            · have := r.bnd i e.1 j (by rw [← ej]; exact hZ)
              refine hk.elim (fun m => ?_) (by omega)
              obtain ⟨k, hk⟩ := io_mem.mp m
              have jb := hb e.1 j (by rw [← ej]; exact List.mem_of_getElem? h)
              exact (own hk).2.1 jb
        · obtain ⟨lt, _⟩ := List.getElem?_eq_some_iff.mp h
          have : i = n := by simp [aft_len] at lt; omega
          subst this
          rw [List.getElem?_append_right (by omega), lE, Nat.sub_self] at h
          cases h
          refine .inr fun _ => ⟨v, by rw [List.getElem?_append_right (by rw [lp]; exact Nat.le_refl _), lp, Nat.sub_self]; rfl, ?_⟩
          obtain ⟨v', q1, q2⟩ := r2.ent ats.length (rdt, m) (by rw [List.getElem?_append_right (by omega), lI2, Nat.sub_self]; rfl)
          rw [List.getElem?_append_right (by rw [List.length_map]; omega), List.length_map, lv, Nat.sub_self] at q1
          cases q1
          rcases hm2 with y | y
          · subst y
            exact Dt.flat (fun a xs q => sqt_gof mu q) rdt (hm3 rfl) (q2.dt (gof_same H' F2))
          · have y2 := hm1 y
            subst y y2
            show Own K _ H' _ rdt (if Md.own = .own ∨ n ≠ n then F' n else [])
            rw [if_pos (.inl rfl), F'no (fun m => by have := ioN m; omega), if_neg (by omega), if_pos rfl]
            exact Own.sq tr q2 fun _ _ _ e => e
      · split
        · rename_i y
          by_cases z : i ∈ ioOf ats
          · obtain ⟨k, hk⟩ := io_mem.mp z
            obtain ⟨lt, _, d0, hd0⟩ := own hk
            cases q : look3 ats ds' i with
            | none => exact absurd z ((look_none (by rw [lds, lI])).mp q)
            | some d =>
              refine absurd ?_ (h d)
              rw [List.getElem?_append_left (by omega), List.getElem?_append_left (by rw [aft_len]; omega), aft_get, hd0, Nat.zero_add, q]
              rfl
          · rw [F'no z]
            split
            · rename_i lt
              refine r.empt i fun d q => ?_
              rw [List.getElem?_append_left (by simp; omega)] at q
              refine h d ?_
              rw [List.getElem?_append_left (by omega)]
              by_cases zN : i < N
              · rw [List.getElem?_append_left (by omega)] at q
                rw [List.getElem?_append_left (by rw [aft_len]; omega), aft_get, q, Nat.zero_add, (look_none (by rw [lds, lI])).mpr z]
                rfl
              · rw [List.getElem?_append_right (by omega)] at q
                rw [List.getElem?_append_right (by rw [aft_len]; omega), aft_len]
                exact q
            · split
              · rename_i _ e
                subst e
                rcases y with y | y
                · exact absurd (by rw [List.getElem?_append_right (by omega), lE, Nat.sub_self, y]; rfl) (h rdt)
                · exact absurd rfl y
              · rfl
        · rfl
      · by_cases z : i < n
        · rw [List.getElem?_append_left (by omega)] at h
          by_cases zN : i < N
          · rw [List.getElem?_append_left (by rw [aft_len]; omega), aft_get, Nat.zero_add] at h
            cases hS : S[i]? with
            | none => rw [hS] at h; cases h
            | some e0 =>
              rw [hS] at h
              have h := Option.some.inj h
              cases q : look3 ats ds' i with
              | some d => rw [q] at h; cases h
              | none =>
                rw [q] at h
                have h0 : e0 = some (d, .bor j) := by
                  cases e0 with
                  | none => cases h
                  | some x =>
                    obtain ⟨d, m0⟩ := x
                    cases m0 with
                    | shr => cases h
                    | own => cases h
                    | bor j =>
                      have h : (if ats.contains (some j) then none else some (d, Md.bor j)) = some _ := h
                      split at h
                      · cases h
                      · cases h; rfl
                subst h0
                exact r.bnd i d j (inP hS)
          · rw [List.getElem?_append_right (by rw [aft_len]; omega), aft_len] at h
            refine r.bnd i d j ?_
            rw [List.getElem?_append_left (by simp; omega), List.getElem?_append_right (by omega)]
            exact h
        · obtain ⟨lt, _⟩ := List.getElem?_eq_some_iff.mp h
          have : i = n := by simp [aft_len] at lt; omega
          subst this
          rw [List.getElem?_append_right (by omega), lE, Nat.sub_self] at h
          cases h
          rcases hm2 with y | y <;> cases y
    exact ⟨fun f => big .shr (fun e => nomatch e) (.inl rfl) fun _ => f, fun e => big .own (fun _ => e) (.inr rfl) fun e => nomatch e⟩
end
end L2.Fb.T

namespace L2.Fb.T
open PySem PySem.Spec
open PyProof.Rows
/-- f(..): the slots handed over come back as the callee left them -/
def tCall3 (ats : List (Option Nat)) (c : C3) (t : TA3) : TE3 := fun B S Q => t B S fun es S1 => okA B ats es S1 = true ∧ c (argD S1 ats es) fun r m ds' =>
  if flat r = true then Q r .shr (aft ats ds' 0 S1) else m = .own ∧ Q r .own (aft ats ds' 0 S1)
section
variable {K : PySem.W.Frag} {N : Nat} {G0 H H' : Hp} {c c1 c2 : Bool} {ats : List (Option Nat)} {S S' T : S3} {σ : St} {us : List (Option V)}
theorem lift_call {ta : TA} {t : TA3} {cc : C3} {E : XK} (h : LiftA K N ats c ta t) : Lift K N (c && nones ats) (tCal (sp3 K (ios ats) cc) E ta) (tCall3 ats cc t) := by
  intro G0 pv B S T σ us H Q Q3 a q k
  have lS := a.lS
  have lσ := a.lσ
  have lu := a.lu
  refine h a q fun vs H1 es S1 l1 lv le lat r1 k1 ⟨ok, q1⟩ => ?_
  have r1' : R K N G0 H1 ((S1 ++ T) ++ es) ((σ ++ us) ++ vs.map some) := by simpa using r1
  have hσ : (σ ++ us).take N = σ := by rw [← lσ, List.take_left']; rfl
  have lI : (ios ats).length = ats.length := List.length_map ..
  obtain ⟨Gc, i0, i1, i2, i3⟩ := R.call (B := B) r1' l1 (by simp; omega) lv le (by rw [hσ]; exact lat) a.b ok
  refine ⟨Gc, argD S1 ats es, by omega, by rw [argD_len _ _ _ le, lI], i1, i2, _, q1, fun r m ds' ld hm hk v H' r2 => ?_⟩
  obtain ⟨j1, j2⟩ := i3 ds' r m v H' ld hm r2
  have calm : (c && nones ats) = true → Same H H' := fun e => by
    have e : c = true ∧ nones ats = true := by simpa using e
    have hG := i0 fun x mx => by
      have := List.all_eq_true.mp e.2 x mx
      cases x with
      | none => rfl
      | some i => cases this
    obtain ⟨F2, r2⟩ := r2
    exact fun a u q => (gof_some (r2.base _ _ (hG _ _ (k1 e.1 _ _ q)))).2
  by_cases f : flat r = true
  · rw [if_pos f] at hk
    exact k _ _ _ _ _ (by rw [aft_len]; exact l1) (by simpa using j1 f) calm hk
  · rw [if_neg f] at hk
    exact k _ _ _ _ _ (by rw [aft_len]; exact l1) (by simpa using j2 hk.1) calm hk.2
/-! ### statements -/
def Md.un (i : Nat) : Md → Md
  | .bor j => if j = i then .shr else .bor j
  | m => m
theorem R.store {d : PyData} {m : Md} {v : V} (r : R K N G0 H ((S ++ T) ++ [some (d, m)]) ((σ ++ us) ++ [some v])) (lS : S.length = N) (lσ : σ.length = N) (lu : us.length = T.length) {i : Nat} (hi : i < N) : R K N G0 H (S.set i (some (d, m.un i)) ++ T) (σ.set i (some v) ++ us) := by
  obtain ⟨F, r⟩ := r
  have ln : (S ++ T).length = N + T.length := by simp [lS]
  obtain ⟨v', q1, q2⟩ := r.ent (N + T.length) (d, m) (by rw [List.getElem?_append_right (by omega), ln, Nat.sub_self]; rfl)
  rw [List.getElem?_append_right (by simp; omega), show N + T.length - (σ ++ us).length = 0 by simp; omega] at q1
  cases q1
  let F' : Nat → List Addr := fun k => if k = i then F (N + T.length) else if N + T.length ≤ k then [] else F k
  have Fi : F' i = F (N + T.length) := if_pos rfl
  have Fg : ∀ {k}, N + T.length ≤ k → F' k = [] := fun {k} h => by show (if k = i then _ else if N + T.length ≤ k then _ else _) = _; rw [if_neg (by omega), if_pos h]
  have Fk : ∀ {k}, k ≠ i → k < N + T.length → F' k = F k := fun {k} h h' => by show (if k = i then _ else if N + T.length ≤ k then _ else _) = _; rw [if_neg h, if_neg (by omega)]
  have get : ∀ {k : Nat} {x : Option Ent}, k ≠ i → (S.set i (some (d, m.un i)) ++ T)[k]? = some x → k < N + T.length ∧ ((S ++ T) ++ [some (d, m)])[k]? = some x := fun {k x} h e => by
    obtain ⟨lt, _⟩ := List.getElem?_eq_some_iff.mp e
    simp [lS] at lt
    refine ⟨lt, ?_⟩
    rw [List.getElem?_append_left (by omega)]
    by_cases y : k < N
    · rw [List.getElem?_append_left (by simp; omega), List.getElem?_set_ne (Ne.symm h)] at e
      rw [List.getElem?_append_left (by omega)]
      exact e
    · rw [List.getElem?_append_right (by simp; omega), List.length_set] at e
      rw [List.getElem?_append_right (by omega)]
      exact e
  have geti : (S.set i (some (d, m.un i)) ++ T)[i]? = some (some (d, m.un i)) := by rw [List.getElem?_append_left (by simp; omega), List.getElem?_set_self (by omega)]
  have vget : ∀ {k : Nat}, k ≠ i → k < N + T.length → (σ.set i (some v) ++ us)[k]? = ((σ ++ us) ++ [some v])[k]? := fun {k} h h' => by
    rw [List.getElem?_append_left (l₁ := σ ++ us) (by simp; omega)]
    by_cases y : k < N
    · rw [List.getElem?_append_left (by simp; omega), List.getElem?_append_left (by omega), List.getElem?_set_ne (Ne.symm h)]
    · rw [List.getElem?_append_right (by simp; omega), List.getElem?_append_right (by omega), List.length_set]
  -- F' is less, but for its order
  have F'sub : ∀ k a, a ∈ F' k → (∃ j, a ∈ F j ∧ j ≠ i) := fun k a ma => by
    by_cases z : k = i
    · rw [z, Fi] at ma
      exact ⟨_, ma, by omega⟩
    · by_cases y : N + T.length ≤ k
      · rw [Fg y] at ma; cases ma
      · rw [Fk z (by omega)] at ma
        exact ⟨k, ma, z⟩
  have vis_ok : Same (vis (Gof H F) H (F i)) (Gof H F') := fun a u e => by
    by_cases z : a ∈ F i
    · rw [vis_at z] at e
      rw [gof_of fun k mk => ?_]
      · exact e
      · obtain ⟨j, mj, ne⟩ := F'sub k a mk
        exact ne (r.sep _ _ _ mj z)
    · rw [vis_off z] at e
      obtain ⟨q1, q2⟩ := gof_some e
      rw [gof_of fun k mk => let ⟨j, mj, _⟩ := F'sub k a mk; q1 j mj]
      exact q2
  refine ⟨F', r.big (fun k => k = i ∨ N + T.length ≤ k) (by simp; omega) (fun a u _ e => e) (fun k hk => .inl (Fk (fun z => hk (.inl z)) (by have : ¬ N + T.length ≤ k := fun z => hk (.inr z); omega))) (fun k a hk ma => ?_) (fun k hk => ?_) (fun k j a hk hj mk mj => ?_) (fun k e h => ?_) (fun k h => ?_) fun k d' j h => ?_⟩
  · rcases hk with rfl | hk
    · rw [Fi] at ma
      exact .inr ⟨_, .inr (Nat.le_refl _), ma⟩
    · rw [Fg hk] at ma; cases ma
  · rcases hk with rfl | hk
    · rw [Fi]; exact r.nodup _
    · rw [Fg hk]; exact List.nodup_nil
  · rcases hk with rfl | hk
    · rcases hj with rfl | hj
      · rfl
      · rw [Fg hj] at mj; cases mj
    · rw [Fg hk] at mk; cases mk
  · by_cases z : k = i
    · subst z
      rw [geti] at h
      cases h
      refine .inr fun hG => ⟨v, by rw [List.getElem?_append_left (by simp; omega), List.getElem?_set_self (by omega)], ?_⟩
      cases m with
      | shr => exact Dt.le (same_lep hG) _ q2
      | own =>
        show Own K _ H v d (F' k)
        rw [Fi]
        exact Own.mv hG q2 fun _ _ _ e => e
      | bor j =>
        have q2 : Dt K (vis (Gof H F) H (F j)) v d := q2
        by_cases y : j = k
        · subst y
          rw [show (Md.bor j).un j = .shr by simp [Md.un]]
          exact Dt.le (same_lep vis_ok) _ q2
        · rw [show (Md.bor j).un k = .bor j by simp [Md.un, y]]
          have hj := r.bnd _ d j (show ((S ++ T) ++ [some (d, Md.bor j)])[N + T.length]? = _ by rw [List.getElem?_append_right (by omega), ln, Nat.sub_self]; rfl)
          refine Dt.le (same_lep fun a u e => ?_) _ q2
          have ej := Fk y (by omega)
          by_cases w : a ∈ F j
          · rw [vis_at w] at e
            rw [vis_at (by rw [ej]; exact w)]
            exact e
          · rw [vis_off w] at e
            rw [vis_off (by rw [ej]; exact w)]
            exact hG _ _ e
    · obtain ⟨lt, h'⟩ := get z h
      by_cases y : e.2 = .bor i
      · refine .inr fun hG => ?_
        obtain ⟨w, e1, e2⟩ := r.ent k e h'
        refine ⟨w, by rw [vget z lt]; exact e1, ?_⟩
        obtain ⟨d2, m2⟩ := e
        have y : m2 = .bor i := y
        subst y
        have e2 : Dt K (vis (Gof H F) H (F i)) w d2 := e2
        refine Dt.le (same_lep fun a u q => ?_) _ e2
        have q' := vis_ok _ _ q
        rw [vis_off fun ma => (gof_some q').1 _ ma]
        exact q'
      · refine .inl ⟨fun hk => hk.elim z (by omega), h', vget z lt, fun _ => Fk z lt, fun j ej hk => ?_⟩
        have := r.bnd k e.1 j (by rw [← ej]; exact h')
        rcases hk with rfl | hk
        · exact y ej
        · omega
  · by_cases z : k = i
    · subst z
      rw [Fi]
      refine r.empt _ fun d' q => ?_
      rw [List.getElem?_append_right (by omega), ln, Nat.sub_self] at q
      cases q
      exact h d (by rw [geti]; rfl)
    · by_cases y : N + T.length ≤ k
      · exact Fg y
      · rw [Fk z (by omega)]
        refine r.empt k fun d' q => h d' ?_
        rw [List.getElem?_append_left (by omega)] at q
        by_cases w : k < N
        · rw [List.getElem?_append_left (by simp; omega), List.getElem?_set_ne (Ne.symm z)]
          rw [List.getElem?_append_left (by omega)] at q
          exact q
        · rw [List.getElem?_append_right (by simp; omega), List.length_set]
          rw [List.getElem?_append_right (by omega)] at q
          exact q
  · by_cases z : k = i
    · subst z
      rw [geti] at h
      cases m with
      | shr => cases h
      | own => cases h
      | bor j' =>
        have h : some (some (d, (Md.bor j').un k)) = some (some (d', Md.bor j)) := h
        by_cases y : j' = k
        · simp [Md.un, y] at h
        · simp [Md.un, y] at h
          obtain ⟨_, rfl⟩ := h
          exact r.bnd _ d j' (show ((S ++ T) ++ [some (d, Md.bor j')])[N + T.length]? = _ by rw [List.getElem?_append_right (by omega), ln, Nat.sub_self]; rfl)
    · exact r.bnd k d' j (get z h).2
end
end L2.Fb.T

namespace L2.Fb.T
open PySem PySem.Spec
open PyProof.Rows
/-! ### statements -/
def tSet3 (i : Nat) (t : TE3) : TS3 := fun E B S => if B.pn.contains i = true then False else t B S fun d m S1 => E.nx (S1.set i (some (d, m.un i)))
def tRet3 (t : TE3) : TS3 := fun E B S => t B S E.rt
def tRetN3 : TS3 := fun E B S => E.rt .none .shr S
def tDrop3 (t : TE3) : TS3 := fun E B S => t B S fun _ _ S1 => E.nx S1
def tNext3 : TS3 := fun E B S => E.nx S
def tSeq3 (t u : TS3) : TS3 := fun E B S => t { E with nx := u E B } B S
def tIf3 (c : TT3) (t u : TS3) : TS3 := fun E B S => c B S fun b S1 => if b = true then t E B S1 else u E B S1
def tBrk3 : TS3 := fun E B S => E.bk S
def tCnt3 : TS3 := fun E B S => E.ct S
def tNever3 : TS3 := fun E B S => False
def tVal3 (t : TE3) : TT3 := fun B S Q => t B S fun d m S1 => match d with | .bool b => Q b S1 | _ => False
def tNot3 (t : TT3) : TT3 := fun B S Q => t B S fun b S1 => Q (!b) S1
def tAnd3 (t u : TT3) : TT3 := fun B S Q => t B S fun b S1 => if b = true then u B S1 Q else Q false S1
def tOr3 (t u : TT3) : TT3 := fun B S Q => t B S fun b S1 => if b = true then Q true S1 else u B S1 Q
section
variable {K : PySem.W.Frag} {N : Nat} {G0 H H' : Hp} {c c1 c2 : Bool} {S S' T : S3} {σ : St} {us : List (Option V)} {te : TE} {t t1 t2 : TE3} {pv : PV} {B : Bs} {D : Ends} {E : Ends3} {ts us' : TS} {s3 u3 : TS3} {tc tc2 : TT} {c3 d3 : TT3}
theorem Fx.set {i : Nat} {v : V} (h : Fx pv σ) (hb : FxB pv B) (hi : B.pn.contains i = false) : Fx pv (σ.set i (some v)) := fun j w e => by
  have : j ≠ i := fun z => by
    subst z
    have := hb j w e
    simp [this] at hi
  rw [List.getElem?_set_ne (Ne.symm this)]
  exact h j w e
theorem lift_set {i : Nat} (hi : i < N) (h : Lift K N c te t) : LiftS K N (tAsg te (gName i)) (tSet3 i t) := by
  intro G0 pv B S T σ us H D E a q V
  unfold tSet3 at q
  cases hb : B.pn.contains i with
  | true => rw [hb, if_pos rfl] at q; exact q.elim
  | false =>
    rw [hb, if_neg Bool.false_ne_true] at q
    refine h a q fun v H' d m S' l r _ q => ?_
    refine V.nx _ _ _ (by rw [List.length_set]; exact l) (by rw [List.length_set]; exact a.lσ) ?_ (a.fx.set a.fb hb) q
    exact R.store (by simpa using r) l a.lσ a.lu hi
theorem lift_ret (h : Lift K N c te t) : LiftS K N (tRet te) (tRet3 t) := fun a q V => h a q fun v H' d m S' l r _ q => V.rt _ _ _ _ _ _ l a.lσ r a.fx q
theorem lift_drop (h : Lift K N c te t) : LiftS K N (tDrop te) (tDrop3 t) := by
  intro G0 pv B S T σ us H D E a q V
  have lu := a.lu
  have lσ := a.lσ
  refine h a q fun v H' d m S' l r _ q => V.nx _ _ _ l a.lσ ?_ a.fx q
  exact R.cut (S := S' ++ T) (vs := σ ++ us) (A := [some (d, m)]) (ws := [some v]) (by simpa using r) (by simp; omega) (by simp; omega)
theorem lift_next : LiftS K N tNext tNext3 := fun a q V => V.nx _ _ _ a.lS a.lσ a.r a.fx q
theorem lift_brk : LiftS K N tBreak tBrk3 := fun a q V => V.bk _ _ _ a.lS a.lσ a.r a.fx q
theorem lift_cnt : LiftS K N tCont tCnt3 := fun a q V => V.ct _ _ _ a.lS a.lσ a.r a.fx q
theorem lift_never {t : TS} : LiftS K N t tNever3 := fun a q V => q.elim
theorem lift_retN : LiftS K N tRetN tRetN3 := by
  intro G0 pv B S T σ us H D E a q V
  have lS := a.lS
  have lu := a.lu
  have lσ := a.lσ
  refine V.rt _ _ _ _ _ _ a.lS a.lσ ?_ a.fx q
  have := R.flatR (S := S ++ T) (vs := σ ++ us) (A := []) (ws := []) (by simpa using a.r) (by simp; omega) (by simp; omega) (fun _ _ e => e) (d := .none) rfl .non
  simpa using this
theorem At.of (a : At K N G0 pv B S T σ us H) {S' : S3} {σ' : St} (l : S'.length = N) (l' : σ'.length = N) (r : R K N G0 H' (S' ++ T) (σ' ++ us)) (f : Fx pv σ') : At K N G0 pv B S' T σ' us H' := ⟨l, l', a.lu, r, a.b, f, a.fb, a.lk⟩
theorem lift_seq (h1 : LiftS K N ts s3) (h2 : LiftS K N us' u3) : LiftS K N (tSeq ts us') (tSeq3 s3 u3) := fun a q V =>
  h1 a q ⟨fun S' σ' H' l l' r f q => h2 (a.of l l' r f) q V, V.bk, V.ct, V.rt⟩
theorem lift_if (hc : LiftT K N tc c3) (h1 : LiftS K N ts s3) (h2 : LiftS K N us' u3) : LiftS K N (tIfS tc ts us') (tIf3 c3 s3 u3) := fun a q V =>
  hc a q fun b H' S' l r q => by
    have a' := a.of l a.lσ r a.fx
    cases b with
    | true => exact h1 a' (by simpa using q) V
    | false => exact h2 a' (by simpa using q) V
theorem bool_at {v : V} {b : Bool} (h : Dt K H v (.bool b)) : v = .bl b := by cases h; rfl
theorem lift_val (h : Lift K N c te t) : LiftT K N (tB te) (tVal3 t) := by
  intro G0 pv B S T σ us H Q Q3 a q k
  have lu := a.lu
  have lσ := a.lσ
  refine h a q fun v H' d m S' l r _ q => ?_
  have top := R.top (P := S' ++ T) (ps := σ ++ us) (e := (d, m)) (v := v) (by simp; omega) (by simpa using r)
  split at q
  · rename_i b
    refine ⟨b, bool_at top, k _ _ _ l ?_ q⟩
    exact R.cut (S := S' ++ T) (vs := σ ++ us) (A := [some (.bool b, m)]) (ws := [some v]) (by simpa using r) (by simp; omega) (by simp; omega)
  · exact q.elim
theorem lift_not (h : LiftT K N tc c3) : LiftT K N (tNot tc) (tNot3 c3) := fun a q k => h a q fun b H' S' l r q => k _ _ _ l r q
theorem lift_and (h1 : LiftT K N tc c3) (h2 : LiftT K N tc2 d3) : LiftT K N (tAnd tc tc2) (tAnd3 c3 d3) := fun a q k => h1 a q fun b H' S' l r q => by
  cases b with
  | true => exact h2 (a.of l a.lσ r a.fx) (by simpa using q) k
  | false => exact k _ _ _ l r (by simpa using q)
theorem lift_or (h1 : LiftT K N tc c3) (h2 : LiftT K N tc2 d3) : LiftT K N (tOr tc tc2) (tOr3 c3 d3) := fun a q k => h1 a q fun b H' S' l r q => by
  cases b with
  | true => exact k _ _ _ l r (by simpa using q)
  | false => exact h2 (a.of l a.lσ r a.fx) (by simpa using q) k
end
section
variable {X : Cx} {pos : Pos} {c : Bool} {t : TE3} {e : Expr} {st : Stmt} {rest a b : List Stmt} {s u : TS3} {tt t2 : TT3} {ce : Expr} {te : TE} {ts ts' : TS} {w w2 : TT}
theorem s_set {i : Nat} {x : Str} {pos' : Pos} (hN : X.N.Nodup) (hi : X.N[i]? = some x) (hx : Loc X.env.scope x) (h : PE3 X e te c t) (hs : swapsWith e (some (.Name x pos')) pos.line X.env = pure false := by rfl) (hf : X.fn x = true ∨ X.env.scope.names.lookup x = some .local := by first | exact .inl rfl | exact .inr rfl | assumption) :
    PS3 X (.Assign [.Name x pos'] e pos) (tAsg te (gName i)) (tSet3 i t) := ⟨ps_set hN hi hx h.1 hs hf, lift_set (List.getElem?_eq_some_iff.mp hi).1 h.2⟩
theorem s_ret (h : PE3 X e te c t) : PS3 X (.Return (some e) pos) (tRet te) (tRet3 t) := ⟨ps_ret h.1, lift_ret h.2⟩
theorem s_retN : PS3 X (.Return none pos) tRetN tRetN3 := ⟨ps_retN, lift_retN⟩
theorem s_expr (h : PE3 X e te c t) (hs : swapsWith e none pos.line X.env = pure false := by rfl) : PS3 X (.Expr e pos) (tDrop te) (tDrop3 t) := ⟨ps_expr h.1 hs, lift_drop h.2⟩
theorem s_pass : PS3 X (.Pass pos) tNext tNext3 := ⟨ps_pass, lift_next⟩
theorem s_break : PS3 X (.Break pos) tBreak tBrk3 := ⟨ps_break, lift_brk⟩
theorem s_cont : PS3 X (.Continue pos) tCont tCnt3 := ⟨ps_continue, lift_cnt⟩
theorem s_never : PS3 X st tNever tNever3 := ⟨ps_never, lift_never⟩
theorem ss_nil : PSs3 X [] tNext tNext3 := ⟨pss_nil, lift_next⟩
theorem ss_one (h : PS3 X st ts s) : PSs3 X [st] ts s := ⟨pss_one h.1, h.2⟩
theorem ss_cons (h1 : PS3 X st ts s) (h2 : PSs3 X rest ts' u) : PSs3 X (st :: rest) (tSeq ts ts') (tSeq3 s u) := ⟨pss_cons h1.1 h2.1, lift_seq h1.2 h2.2⟩
theorem s_if (hc : PT3 X ce w tt) (ha : PSs3 X a ts s) (hb : PSs3 X b ts' u) : PS3 X (.If ce a b pos) (tIfS w ts ts') (tIf3 tt s u) := ⟨ps_if hc.1 ha.1 hb.1, lift_if hc.2 ha.2 hb.2⟩
theorem t_val (h : PE3 X e te c t) (he : ∀ whole, isTrue e X.env whole = (do let v ← whole; standAt e.pos; holding [v] (truthy v)) := by intro _; rfl) : PT3 X e (tB te) (tVal3 t) := ⟨pt_val h.1 he, lift_val h.2⟩
theorem t_not (h : PT3 X e w tt) : PT3 X (.UnaryOp .Not e pos) (tNot w) (tNot3 tt) := ⟨pt_not h.1, lift_not h.2⟩
theorem w_and1 (h : PT3 X e w tt) : PW3 X (.BoolOp .And [e] pos) w tt := ⟨pw_and1 h.1, h.2⟩
theorem w_or1 (h : PT3 X e w tt) : PW3 X (.BoolOp .Or [e] pos) w tt := ⟨pw_or1 h.1, h.2⟩
theorem w_and {f : Expr} {es : List Expr} (h : PT3 X e w tt) (h2 : PW3 X (.BoolOp .And (f :: es) pos) w2 t2) : PW3 X (.BoolOp .And (e :: f :: es) pos) (tAnd w w2) (tAnd3 tt t2) := ⟨pw_and h.1 h2.1, lift_and h.2 h2.2⟩
theorem w_or {f : Expr} {es : List Expr} (h : PT3 X e w tt) (h2 : PW3 X (.BoolOp .Or (f :: es) pos) w2 t2) : PW3 X (.BoolOp .Or (e :: f :: es) pos) (tOr w w2) (tOr3 tt t2) := ⟨pw_or h.1 h2.1, lift_or h.2 h2.2⟩
theorem PW3.pt (h : PW3 X e w tt) : PT3 X e w tt := ⟨h.1.pt, h.2⟩
theorem PSs3.nox {sts : List Stmt} (h : PSs3 X.nox sts ts s) : PSs3 X sts ts s := ⟨h.1.nox, h.2⟩
/-- a call of a def -/
theorem e_call {CX : CXT} {k : Nat} {stm : Stmt} {ps : List Str} {cc : C3} {x : Str} {p : Pos} {es : List Expr} {ats : List (Option Nat)} {ta : TA} {t3 : TA3} {K : PySem.W.Frag} (hK : X.K = K) (C : Cal X.prog X.w X.K X.mg X.base CX k x stm ps (sp3 K (ios ats) cc)) (hr : Room k X.A) (hg : Gl X x) (hx : Passes CX X (fun _ _ _ => False)) (ha : PA3 X (e :: es) ta ats c t3)
    (hdb : (x == ("__debug__" : Str)) = false := by decide) (he : starEach (e :: es) X.env = (false, eval e X.env) :: starEach es X.env := by rfl) (hpl : (backTo pos (starEach es X.env)).any (·.1) = false := by rfl) : PE3 X (.Call (.Name x p) (e :: es) [] pos) (tCal (sp3 K (ios ats) cc) (fun _ _ _ => False) ta) (c && nones ats) (tCall3 ats cc t3) :=
  ⟨pe_callC C hr hg hx ha.1 hdb he hpl, by subst hK; exact lift_call ha.2⟩
end
end L2.Fb.T

namespace L2.Fb.T
open PySem PySem.Spec
open PyProof.Rows
section
variable {K : PySem.W.Frag} {N : Nat} {G0 H H' : Hp} {c c1 c2 : Bool} {S S' T P : S3} {σ : St} {us ps : List (Option V)} {te : TE} {t t1 t2 : TE3} {pv : PV} {B : Bs} {D : Ends} {E : Ends3} {ts us' : TS} {s3 u3 : TS3} {tc tc2 : TT} {c3 d3 : TT3} {es A : List (Option Ent)} {ws : List (Option V)}
/-- one thing stays, what is held below it goes -/
theorem R.mid {d : PyData} {m : Md} {v : V} (r : R K N G0 H ((P ++ es) ++ [some (d, m)]) ((ps ++ ws) ++ [some v])) (hl : ps.length = P.length) (hw : ws.length = es.length) (hN : N ≤ P.length) : R K N G0 H (P ++ [some (d, m)]) (ps ++ [some v]) := by
  obtain ⟨F, r⟩ := r
  have ln : (P ++ es).length = P.length + es.length := by simp
  have e0 : ((P ++ es) ++ [some (d, m)])[P.length + es.length]? = some (some (d, m)) := by rw [List.getElem?_append_right (by omega), ln, Nat.sub_self]; rfl
  obtain ⟨v', q1, q2⟩ := r.ent _ _ e0
  rw [List.getElem?_append_right (by simp; omega), show P.length + es.length - (ps ++ ws).length = 0 by simp; omega] at q1
  cases q1
  have r' : Rel K N G0 H F (P ++ (es ++ [some (d, m)])) (ps ++ (ws ++ [some v])) := by simpa using r
  cases m with
  | shr => exact r'.build hl hN (fun a u _ e => e) List.nodup_nil (fun a m => by cases m) (.inr rfl) (fun j e => nomatch e) fun F' _ _ _ hG => Dt.le (same_lep hG) _ q2
  | own =>
    refine r'.build hl hN (fun a u _ e => e) (r.nodup (P.length + es.length)) (fun a m => .inr ⟨_, by omega, m⟩) (.inl rfl) (fun j e => nomatch e) fun F' _ f2 _ hG => ?_
    show Own K _ H v d (F' P.length)
    rw [f2]
    exact Own.mv hG q2 fun _ _ _ e => e
  | bor j =>
    have hj := r.bnd _ d j e0
    refine r'.build hl hN (fun a u _ e => e) List.nodup_nil (fun a m => by cases m) (.inr rfl) (fun j' e => by cases e; exact hj) fun F' f1 _ _ hG => ?_
    have q2 : Dt K (vis (Gof H F) H (F j)) v d := q2
    refine Dt.le (same_lep fun a u q => ?_) _ q2
    have ej := f1 j (by omega)
    by_cases w : a ∈ F j
    · rw [vis_at w] at q
      rw [vis_at (by rw [ej]; exact w)]
      exact q
    · rw [vis_off w] at q
      rw [vis_off (by rw [ej]; exact w)]
      exact hG _ _ q
/-- one's own thing given to all -/
theorem R.pub {d : PyData} {v : V} (r : R K N G0 H (P ++ [some (d, .own)]) (ps ++ [some v])) (hl : ps.length = P.length) (hN : N ≤ P.length) : R K N G0 H (P ++ [some (d, .shr)]) (ps ++ [some v]) := by
  obtain ⟨F, r⟩ := r
  obtain ⟨v', q1, q2⟩ := r.ent P.length (d, .own) (by rw [List.getElem?_append_right (Nat.le_refl _), Nat.sub_self]; rfl)
  rw [← hl, List.getElem?_append_right (Nat.le_refl _), Nat.sub_self] at q1
  cases q1
  refine r.build hl hN (fun a u _ e => e) List.nodup_nil (fun a m => by cases m) (.inr rfl) (fun j e => nomatch e) fun F' f1 f2 f3 hG => ?_
  have q2 : Own K (Gof H F) H v d (F P.length) := q2
  refine Dt.le (same_lep fun a u q => ?_) _ (Own.dt (gof_same H F) q2 _ fun _ m => m)
  by_cases w : a ∈ F P.length
  · rw [vis_at w] at q
    rw [gof_of fun k mk => ?_]
    · exact q
    · by_cases z : k < P.length
      · rw [f1 k z] at mk
        have := r.sep _ _ _ mk w
        omega
      · by_cases y : k = P.length
        · rw [y, f2] at mk; cases mk
        · rw [f3 k (by omega)] at mk; cases mk
  · rw [vis_off w] at q
    exact hG _ _ q
def pubM : Md → Md | .own => .shr | m => m
theorem R.pub' {d : PyData} {m : Md} {v : V} (r : R K N G0 H (P ++ [some (d, m)]) (ps ++ [some v])) (hl : ps.length = P.length) (hN : N ≤ P.length) : R K N G0 H (P ++ [some (d, pubM m)]) (ps ++ [some v]) := by
  cases m with
  | own => exact r.pub hl hN
  | shr => exact r
  | bor j => exact r
/-! ### what is walked -/
def bsA : List (Option Ent) → List Nat
  | [] => []
  | some (_, m) :: r => m.bs ++ bsA r
  | none :: r => bsA r
theorem bsA_mem : ∀ {es : List (Option Ent)} {d : PyData} {j : Nat}, some (d, Md.bor j) ∈ es → j ∈ bsA es
  | [], _, _, h => by cases h
  | some (d', m) :: r, d, j, h => by
    show j ∈ m.bs ++ bsA r
    rcases List.mem_cons.mp h with e | h
    · cases e
      exact List.mem_append_left _ (List.mem_singleton.mpr rfl)
    · exact List.mem_append_right _ (bsA_mem h)
  | none :: r, d, j, h => by
    rcases List.mem_cons.mp h with e | h
    · cases e
    · show j ∈ bsA r
      exact bsA_mem h
theorem At.more (a : At K N G0 pv B S T σ us H) (l : S'.length = N) (hw : ws.length = es.length) (r : R K N G0 H' (S' ++ (T ++ es)) (σ ++ (us ++ ws))) : At K N G0 pv (B.add (bsA es)) S' (T ++ es) σ (us ++ ws) H' :=
  ⟨l, a.lσ, by simp [a.lu, hw], r, fun d j m => (List.mem_append.mp m).elim (fun m => List.mem_append_right _ (a.b d j m)) fun m => List.mem_append_left _ (bsA_mem m), a.fx, a.fb, a.lk⟩
structure Wk (K : PySem.W.Frag) (N : Nat) (G0 : Hp) (T : S3) (us : List (Option V)) (J : It) (n : Nat) (item : Nat → Ent) : Prop where
  go : ∀ {H : Hp} {S A : S3} {σ : St} {ws : List (Option V)}, S.length = N → σ.length = N → ws.length = A.length → R K N G0 H (S ++ (T ++ A)) (σ ++ (us ++ ws)) → ∀ i, i < n → J.go i H ∧ ∀ x H', J.yld i H x H' → R K N G0 H' (S ++ (T ++ (A ++ [some (item i)]))) (σ ++ (us ++ (ws ++ [some x])))
  stop : ∀ {H : Hp} {S A : S3} {σ : St} {ws : List (Option V)}, S.length = N → σ.length = N → ws.length = A.length → R K N G0 H (S ++ (T ++ A)) (σ ++ (us ++ ws)) → J.stop n H
abbrev TI3 := Bs → S3 → (List (Option Ent) → Nat → (Nat → Ent) → S3 → Prop) → Prop
def LiftI (K : PySem.W.Frag) (N : Nat) (wi : TI) (t : TI3) : Prop :=
  ∀ {G0 : Hp} {pv : PV} {B : Bs} {S T : S3} {σ : St} {us : List (Option V)} {H : Hp} {Q : It → Hp → Prop} {Q3 : List (Option Ent) → Nat → (Nat → Ent) → S3 → Prop}, At K N G0 pv B S T σ us H → t B S Q3 →
    (∀ J H' es ws n item S', S'.length = N → ws.length = es.length → R K N G0 H' (S' ++ (T ++ es)) (σ ++ (us ++ ws)) → Wk K N G0 (T ++ es) (us ++ ws) J n item → Q3 es n item S' → Q J H') → wi σ H Q
def PI3 (X : Cx) (tg iter : Expr) (wi : TI) (t : TI3) : Prop := PI X tg iter wi ∧ LiftI X.K X.N.length wi t
/-- a part's mode -/
def im (m : Md) (d : PyData) : Md := match m with | .bor j => if flat d then .shr else .bor j | _ => .shr
def tList3 (t : TE3) : TI3 := fun B S Q => t B S fun d m S1 => match d with | .list ds => Q [some (d, pubM m)] ds.length (fun i => (ds.getD i .none, im m (ds.getD i .none))) S1 | _ => False
/-- a part of what is held, held too -/
theorem R.part {Z : S3} {zs : List (Option V)} {p : Nat} {d e : PyData} {m : Md} {v x : V} (r : R K N G0 H Z zs) (e0 : Z[p]? = some (some (d, m))) (ev : zs[p]? = some (some v)) (hN : N ≤ Z.length) (hm : m ≠ .own) (h : ∀ G, Same G H → Dt K G v d → Dt K G x e) : R K N G0 H (Z ++ [some (e, im m e)]) (zs ++ [some x]) := by
  obtain ⟨F, r⟩ := r
  obtain ⟨v', q1, q2⟩ := r.ent p (d, m) e0
  rw [ev] at q1
  cases q1
  have r' : Rel K N G0 H F (Z ++ []) (zs ++ []) := by rw [List.append_nil, List.append_nil]; exact r
  have hl' := r.len
  cases m with
  | own => exact absurd rfl hm
  | shr => exact r'.build hl' hN (fun a u _ e => e) List.nodup_nil (fun a m => by cases m) (.inr rfl) (fun j e => nomatch e) fun F' _ _ _ hG => Dt.le (same_lep hG) _ (h _ (gof_same H F) q2)
  | bor j =>
    have q2 : Dt K (vis (Gof H F) H (F j)) v d := q2
    have q3 := h _ (vis_same (gof_same H F)) q2
    by_cases f : flat e = true
    · rw [show im (.bor j) e = .shr by simp [im, f]]
      refine R.flatR (A := []) (ws := []) (by rw [List.append_nil, List.append_nil]; exact ⟨F, r⟩) hl' hN (fun _ _ e => e) f (Dt.le (same_lep (vis_same (gof_same H F))) _ q3)
    · rw [show im (.bor j) e = .bor j by simp [im, f]]
      have hj := r.bnd _ d j e0
      refine r'.build hl' hN (fun a u _ e => e) List.nodup_nil (fun a m => by cases m) (.inr rfl) (fun j' e => by cases e; exact hj) fun F' f1 _ _ hG => ?_
      refine Dt.le (same_lep fun a u q => ?_) _ q3
      have ej := f1 j (by omega)
      by_cases w : a ∈ F j
      · rw [vis_at w] at q
        rw [vis_at (by rw [ej]; exact w)]
        exact q
      · rw [vis_off w] at q
        rw [vis_off (by rw [ej]; exact w)]
        exact hG _ _ q
theorem getD_some {α : Type} {l : List α} {i : Nat} {x z : α} (h : l[i]? = some x) : l.getD i z = x := by rw [List.getD_eq_getElem?_getD, h]; rfl
theorem lift_list (h : Lift K N c te t) : LiftI K N (iList K te) (tList3 t) := by
  intro G0 pv B S T σ us H Q Q3 a q k
  have lu := a.lu
  have lσ := a.lσ
  refine h a q fun v H' d m S' l r _ q => ?_
  have r1 : R K N G0 H' ((S' ++ T) ++ [some (d, pubM m)]) ((σ ++ us) ++ [some v]) := R.pub' (by simpa using r) (by simp; omega) (by simp; omega)
  split at q
  · rename_i ds
    have top := R.top (P := S' ++ T) (ps := σ ++ us) (e := (.list ds, m)) (v := v) (by simp; omega) (by simpa using r)
    cases top with
    | lst sl dl =>
    rename_i p xs
    refine ⟨p, rfl, ⟨xs, .inl (.inl sl)⟩, k (Itl K p) H' [some (.list ds, pubM m)] [some (.ref p)] ds.length _ S' l rfl (by simpa using r1) ⟨?_, ?_⟩ q⟩
    · intro H1 S1 A σ1 ws l1 l1' lw r1 i hi
      have e0 : (S1 ++ ((T ++ [some (.list ds, pubM m)]) ++ A))[N + T.length]? = some (some (.list ds, pubM m)) := by
        rw [List.getElem?_append_right (by omega), List.append_assoc, List.getElem?_append_right (by omega), show N + T.length - S1.length - T.length = 0 by omega]; rfl
      have ev : (σ1 ++ ((us ++ [some (.ref p)]) ++ ws))[N + T.length]? = some (some (.ref p)) := by
        rw [List.getElem?_append_right (by omega), List.append_assoc, List.getElem?_append_right (by omega), show N + T.length - σ1.length - us.length = 0 by omega]; rfl
      obtain ⟨v1, q1, top1⟩ := r1.get e0
      rw [ev] at q1
      cases q1
      cases top1 with
      | lst sl1 dl1 =>
      rename_i xs1
      obtain ⟨x1, hx1, dx1⟩ := dl1.of i ds[i] (List.getElem?_eq_getElem hi)
      refine ⟨⟨xs1, x1, .inl (.inl sl1), hx1⟩, ?_⟩
      rintro x H2 ⟨rfl, hx⟩
      have := hx xs1 (.inl (.inl sl1))
      rw [hx1] at this
      cases this
      have := R.part (x := x1) (e := ds[i]) r1 e0 ev (by simp; omega) (by cases m <;> simp [pubM]) fun G hG dG => by
        cases dG with
        | lst s' d' =>
          obtain ⟨x', e1, e2⟩ := d'.of i ds[i] (List.getElem?_eq_getElem hi)
          have s'' := hx _ (.inl (.inl (hG _ _ s')))
          rw [e1] at s''
          cases s''
          exact e2
      have e1 : ds.getD i .none = ds[i] := getD_some (List.getElem?_eq_getElem hi)
      rw [e1]
      have e2 : im (pubM m) ds[i] = im m ds[i] := by cases m <;> rfl
      rw [e2] at this
      simpa using this
    · intro H1 S1 A σ1 ws l1 l1' lw r1
      have e0 : (S1 ++ ((T ++ [some (.list ds, pubM m)]) ++ A))[N + T.length]? = some (some (.list ds, pubM m)) := by
        rw [List.getElem?_append_right (by omega), List.append_assoc, List.getElem?_append_right (by omega), show N + T.length - S1.length - T.length = 0 by omega]; rfl
      have ev : (σ1 ++ ((us ++ [some (.ref p)]) ++ ws))[N + T.length]? = some (some (.ref p)) := by
        rw [List.getElem?_append_right (by omega), List.append_assoc, List.getElem?_append_right (by omega), show N + T.length - σ1.length - us.length = 0 by omega]; rfl
      obtain ⟨v1, q1, top1⟩ := r1.get e0
      rw [ev] at q1
      cases q1
      cases top1 with
      | lst sl1 dl1 => exact ⟨_, .inl (.inl sl1), by rw [dl1.len]; exact Nat.le_refl _⟩
  · exact q.elim
/-! ### targets -/
abbrev TG3 := Bs → Ent → S3 → (S3 → Prop) → Prop
def LiftG (K : PySem.W.Frag) (N : Nat) (vs : List Nat) (g : TG) (t : TG3) : Prop :=
  ∀ {G0 : Hp} {pv : PV} {B : Bs} {S T : S3} {σ : St} {us : List (Option V)} {H : Hp} {v : V} {e : Ent} {Q : St → Hp → Prop} {Q3 : S3 → Prop}, S.length = N → σ.length = N → us.length = T.length → Fx pv σ → FxB pv B → LkB G0 pv B → R K N G0 H (S ++ (T ++ [some e])) (σ ++ (us ++ [some v])) → t B e S Q3 →
    (∀ σ' S', S'.length = N → σ'.length = N → R K N G0 H (S' ++ T) (σ' ++ us) → Fx pv σ' → (∀ j, j ∉ vs → σ'[j]? = σ[j]?) → Q3 S' → Q σ' H) → g v σ H Q
def gName3 (i : Nat) : TG3 := fun B e S Q => if B.pn.contains i = true then False else Q (S.set i (some (e.1, e.2.un i)))
theorem lift_name {i : Nat} (hi : i < N) : LiftG K N [i] (gName i) (gName3 i) := by
  intro G0 pv B S T σ us H v e Q Q3 l lσ lu fx fb _ r q k
  unfold gName3 at q
  cases hb : B.pn.contains i with
  | true => rw [hb, if_pos rfl] at q; exact q.elim
  | false =>
    rw [hb, if_neg Bool.false_ne_true] at q
    exact k _ _ (by rw [List.length_set]; exact l) (by rw [List.length_set]; exact lσ) (R.store (by simpa using r) l lσ lu hi) (fx.set fb hb) (fun j hj => by rw [List.getElem?_set_ne (fun z => hj (List.mem_singleton.mpr z.symm))]) q
def PG3 (X : Cx) (tg : Expr) (vs : List Nat) (g : TG) (t : TG3) : Prop := PG X tg g ∧ LiftG X.K X.N.length vs g t
/-! ### for -/
def loopF (B : Bs) (g : TG3) (tb : TS3) (E : Ends3) (item : Nat → Ent) : Nat → Nat → S3 → Prop
  | 0, _, S => E.nx S
  | r + 1, i, S => g B (item i) S fun S2 => tb { E with nx := loopF B g tb E item r (i + 1), ct := loopF B g tb E item r (i + 1), bk := E.nx } B S2
def tFor3 (ti : TI3) (g : TG3) (tb : TS3) : TS3 := fun E B S => ti B S fun es n item S1 => loopF (B.add (bsA es)) g tb E item n 0 S1
theorem lift_for {vs : List Nat} {wi : TI} {ti : TI3} {g : TG} {g3 : TG3} (hi : LiftI K N wi ti) (hg : LiftG K N vs g g3) (hb : LiftS K N ts s3) : LiftS K N (tFor wi g ts) (tFor3 ti g3 s3) := by
  intro G0 pv B S T σ us H D E a q V
  have lu := a.lu
  have lσ := a.lσ
  refine hi a q fun J H1 es ws n item S1 l1 lw r1 wk q => ?_
  refine ⟨fun i m σ' H' => m = n - i ∧ i ≤ n ∧ ∃ S', S'.length = N ∧ σ'.length = N ∧ R K N G0 H' (S' ++ (T ++ es)) (σ' ++ (us ++ ws)) ∧ Fx pv σ' ∧ loopF (B.add (bsA es)) g3 s3 E item (n - i) i S', ⟨n, rfl, Nat.zero_le _, S1, l1, lσ, r1, a.fx, q⟩, ?_⟩
  rintro i m σ' H' ⟨rfl, hi, S', l', lσ', r', fx', q'⟩
  have drop : ∀ {S2 : S3} {σ2 : St} {H2 : Hp}, S2.length = N → σ2.length = N → R K N G0 H2 (S2 ++ (T ++ es)) (σ2 ++ (us ++ ws)) → R K N G0 H2 (S2 ++ T) (σ2 ++ us) := fun {S2 σ2 H2} e1 e2 r => R.cut (S := S2 ++ T) (vs := σ2 ++ us) (A := es) (ws := ws) (by simpa using r) (by simp; omega) (by simp; omega)
  by_cases hlt : i < n
  · obtain ⟨go, yl⟩ := wk.go (A := []) (ws := []) l' lσ' rfl (by simpa using r') i hlt
    refine .inr ⟨go, fun σ2 H2 => ∃ S2, S2.length = N ∧ σ2.length = N ∧ R K N G0 H2 (S2 ++ (T ++ es)) (σ2 ++ (us ++ ws)) ∧ Fx pv σ2 ∧ loopF (B.add (bsA es)) g3 s3 E item (n - (i + 1)) (i + 1) S2, ?_, ?_⟩
    · rintro σ2 H2 ⟨S2, e1, e2, e3, e4, e5⟩
      exact ⟨n - (i + 1), by omega, rfl, by omega, S2, e1, e2, e3, e4, e5⟩
    · intro x H2 y
      have r2 : R K N G0 H2 (S' ++ ((T ++ es) ++ [some (item i)])) (σ' ++ ((us ++ ws) ++ [some x])) := by simpa using yl x H2 y
      rw [show n - i = (n - (i + 1)) + 1 by omega] at q'
      have fb' : FxB pv (B.add (bsA es)) := a.fb
      have lk' : LkB G0 pv (B.add (bsA es)) := a.lk
      refine hg (T := T ++ es) (us := us ++ ws) l' lσ' (by simp [lu, lw]) fx' fb' lk' r2 q' fun σ3 S3 l3 lσ3 r3 fx3 _ q3 => ?_
      have a3 : At K N G0 pv (B.add (bsA es)) S3 (T ++ es) σ3 (us ++ ws) H2 := ⟨l3, lσ3, by simp [lu, lw], r3, fun d j m => (List.mem_append.mp m).elim (fun m => List.mem_append_right _ (a.b d j m)) fun m => List.mem_append_left _ (bsA_mem m), fx3, fb', lk'⟩
      refine hb a3 q3 ⟨fun S4 σ4 H4 e1 e2 e3 e4 e5 => ⟨S4, e1, e2, e3, e4, e5⟩, fun S4 σ4 H4 e1 e2 e3 e4 e5 => V.nx _ _ _ e1 e2 (drop e1 e2 e3) e4 e5, fun S4 σ4 H4 e1 e2 e3 e4 e5 => ⟨S4, e1, e2, e3, e4, e5⟩, fun S4 σ4 H4 v d m e1 e2 e3 e4 e5 => V.rt _ _ _ _ _ _ e1 e2 ?_ e4 e5⟩
      have := R.mid (P := S4 ++ T) (ps := σ4 ++ us) (es := es) (ws := ws) (d := d) (m := m) (v := v) (by simpa using e3) (by simp; omega) lw (by simp; omega)
      simpa using this
  · have : i = n := by omega
    subst this
    rw [Nat.sub_self] at q'
    exact .inl ⟨wk.stop (A := []) (ws := []) l' lσ' rfl (by simpa using r'), V.nx _ _ _ l' lσ' (drop l' lσ' r') fx' q'⟩
/-! ### while -/
def tWhile3 (c : TT3) (tb : TS3) : TS3 := fun E B S => ∃ W : Nat → S3 → Prop, (∃ m, W m S) ∧ ∀ m S, S.length = S.length → W m S → c B S fun b S1 => if b = true then tb { E with nx := fun S2 => ∃ m', m' < m ∧ W m' S2, ct := fun S2 => ∃ m', m' < m ∧ W m' S2, bk := E.nx } B S1 else E.nx S1
theorem lift_while (hc : LiftT K N tc c3) (hb : LiftS K N ts s3) : LiftS K N (tWhile tc ts) (tWhile3 c3 s3) := by
  intro G0 pv B S T σ us H D E a q V
  obtain ⟨W, ⟨m0, w0⟩, turn⟩ := q
  refine ⟨fun m σ' H' => ∃ S', At K N G0 pv B S' T σ' us H' ∧ W m S', ⟨m0, S, a, w0⟩, ?_⟩
  rintro m σ' H' ⟨S', a', w'⟩
  refine hc a' (turn m S' rfl w') fun b H2 S2 l2 r2 q2 => ?_
  have a2 := a'.of l2 a'.lσ r2 a'.fx
  cases b with
  | true =>
    refine ⟨fun σ3 H3 => ∃ m', m' < m ∧ ∃ S3, At K N G0 pv B S3 T σ3 us H3 ∧ W m' S3, ?_, ?_⟩
    · rintro σ3 H3 ⟨m', h1, S3, h2, h3⟩
      exact ⟨m', h1, S3, h2, h3⟩
    · have q2 : s3 { E with nx := fun S2 => ∃ m', m' < m ∧ W m' S2, ct := fun S2 => ∃ m', m' < m ∧ W m' S2, bk := E.nx } B S2 := by simpa using q2
      exact hb a2 q2 ⟨fun S4 σ4 H4 e1 e2 e3 e4 ⟨m', h1, h2⟩ => ⟨m', h1, S4, a2.of e1 e2 e3 e4, h2⟩, V.nx, fun S4 σ4 H4 e1 e2 e3 e4 ⟨m', h1, h2⟩ => ⟨m', h1, S4, a2.of e1 e2 e3 e4, h2⟩, V.rt⟩
  | false => exact V.nx _ _ _ l2 a'.lσ r2 a'.fx (by simpa using q2)
end
section
variable {X : Cx} {pos : Pos} {c : Bool} {e iter tg : Expr} {body : List Stmt} {te : TE} {t : TE3} {ts : TS} {s : TS3} {wi : TI} {ti : TI3} {g : TG} {g3 : TG3} {w : TT} {tt : TT3} {vs : List Nat}
theorem i_list {K : PySem.W.Frag} (hK : X.K = K) (h : PE3 X e te c t) : PI3 X tg e (iList K te) (tList3 t) := by subst hK; exact ⟨pi_list h.1, lift_list h.2⟩
theorem g_name {i : Nat} {x : Str} (hN : X.N.Nodup) (hi : X.N[i]? = some x) (hx : Loc X.env.scope x) (hf : X.fn x = true ∨ X.env.scope.names.lookup x = some .local := by first | exact .inl rfl | exact .inr rfl | assumption) : PG3 X (.Name x pos) [i] (gName i) (gName3 i) := ⟨pg_name hN hi hx hf, lift_name (List.getElem?_eq_some_iff.mp hi).1⟩
theorem s_for (hp : PassesOwn (model X.prog X.w) X.A X.env X.xe) (hc : X.calm = true) (hi : PI3 X tg iter wi ti) (hg : PG3 X tg vs g g3) (hb : PSs3 X body ts s)
    (hs : ∀ x, foldedSetIterable iter X.env x = pure x := by intro _; rfl) : PS3 X (.For tg iter body [] pos) (tFor wi g ts) (tFor3 ti g3 s) := ⟨ps_for hp hc hi.1 hg.1 hb.1 hs, lift_for hi.2 hg.2 hb.2⟩
theorem s_while (hp : PassesOwn (model X.prog X.w) X.A X.env X.xe) (hc : PT3 X e w tt) (hb : PSs3 X body ts s) : PS3 X (.While e body [] pos) (tWhile w ts) (tWhile3 tt s) := ⟨ps_while hp hc.1 hb.1, lift_while hc.2 hb.2⟩
end
end L2.Fb.T

namespace L2.Fb.T
open PySem PySem.Spec
open PyProof.Rows
def isIo (ios : List Bool) (k : Nat) : Bool := match ios[k]? with | some b => b | none => false
/-- all handed over are still one's own -/
def okO : Nat → List Bool → S3 → Bool
  | k, true :: r, S => isOwn S k && okO (k + 1) r S
  | k, false :: r, S => okO (k + 1) r S
  | _, [], _ => true
def outD : Nat → List Bool → S3 → List PyData → List PyData
  | k, true :: r, S, _ :: ds => (match S[k]? with | some (some (d, _)) => d | _ => .none) :: outD (k + 1) r S ds
  | k, false :: r, S, d :: ds => d :: outD (k + 1) r S ds
  | _, _, _, _ => []
def fin3 (ios : List Bool) (ds : List PyData) (kk : PyData → Md → List PyData → Prop) (r : PyData) (m : Md) (S : S3) : Prop := okO 0 ios S = true ∧ if flat r = true then kk r .shr (outD 0 ios S ds) else m = .own ∧ kk r .own (outD 0 ios S ds)
def ends3 (ios : List Bool) (ds : List PyData) (kk : PyData → Md → List PyData → Prop) : Ends3 := { nx := fun S => fin3 ios ds kk .none .shr S, rt := fin3 ios ds kk }
def pinB : Nat → List Bool → List Nat
  | k, true :: r => k :: pinB (k + 1) r
  | k, false :: r => pinB (k + 1) r
  | _, [] => []
def S0 (n : Nat) (ios : List Bool) (ds : List PyData) : S3 := ents ios ds ++ List.replicate (n - ios.length) none
section
variable {K : PySem.W.Frag} {N : Nat} {G0 H H' : Hp} {S S' T P : S3} {σ : St} {vs : List V} {ios : List Bool} {ds : List PyData}
theorem okO_get : ∀ {ios : List Bool} {n : Nat} {S : S3} {k : Nat}, okO n ios S = true → ios[k]? = some true → ∃ d, S[n + k]? = some (some (d, Md.own))
  | b :: r, n, S, 0, h, e => by
    cases e
    have h : isOwn S n = true ∧ okO (n + 1) r S = true := by simpa [okO] using h
    have h1 := h.1
    unfold isOwn at h1
    split at h1
    · rename_i d e
      exact ⟨d, e⟩
    · cases h1
  | true :: r, n, S, k + 1, h, e => by
    have h : isOwn S n = true ∧ okO (n + 1) r S = true := by simpa [okO] using h
    obtain ⟨d, h'⟩ := okO_get (n := n + 1) (k := k) h.2 e
    exact ⟨d, by rw [← h', show n + 1 + k = n + (k + 1) by omega]⟩
  | false :: r, n, S, k + 1, h, e => by
    obtain ⟨d, h'⟩ := okO_get (n := n + 1) (k := k) (show okO (n + 1) r S = true from h) e
    exact ⟨d, by rw [← h', show n + 1 + k = n + (k + 1) by omega]⟩
  | [], _, _, _, _, e => by simp at e
theorem outD_len : ∀ {ios : List Bool} {n : Nat} {S : S3} {ds : List PyData}, ds.length = ios.length → (outD n ios S ds).length = ios.length
  | [], _, _, [], _ => rfl
  | true :: r, n, S, _ :: ds, h => congrArg (· + 1) (outD_len (by simpa using h))
  | false :: r, n, S, _ :: ds, h => congrArg (· + 1) (outD_len (by simpa using h))
  | [], _, _, _ :: _, h => by simp at h
  | true :: _, _, _, [], h => by simp at h
  | false :: _, _, _, [], h => by simp at h
theorem outD_get : ∀ {ios : List Bool} {n : Nat} {S : S3} {ds : List PyData} {k : Nat} {d e : PyData} {m : Md}, ios[k]? = some true → (outD n ios S ds)[k]? = some d → S[n + k]? = some (some (e, m)) → d = e
  | b :: r, n, S, x :: ds, 0, d, e, m, h, h', h2 => by
    cases h
    have h' : some (match S[n]? with | some (some (d, _)) => d | _ => PyData.none) = some d := h'
    have h2 : S[n]? = some (some (e, m)) := h2
    rw [h2] at h'
    exact (Option.some.inj h').symm
  | true :: r, n, S, x :: ds, k + 1, d, e, m, h, h', h2 => outD_get (ios := r) (n := n + 1) (ds := ds) (k := k) h h' (by rw [← h2, show n + 1 + k = n + (k + 1) by omega])
  | false :: r, n, S, x :: ds, k + 1, d, e, m, h, h', h2 => outD_get (ios := r) (n := n + 1) (ds := ds) (k := k) h h' (by rw [← h2, show n + 1 + k = n + (k + 1) by omega])
  | [], _, _, _, _, _, _, _, h, _, _ => by simp at h
  | true :: _, _, _, [], _, _, _, _, _, h', _ => by simp [outD] at h'
  | false :: _, _, _, [], _, _, _, _, _, h', _ => by simp [outD] at h'
theorem Rel.reN {M : Nat} {F : Nat → List Addr} {vs : List (Option V)} (r : Rel K N G0 H F S vs) (h : ∀ (i : Nat) (d : PyData) (j : Nat), S[i]? = some (some (d, Md.bor j)) → j < M) : Rel K M G0 H F S vs := ⟨r.len, r.base, r.nodup, r.sep, r.ent, r.empt, h⟩
theorem R.fin {r : PyData} {m : Md} {v : V} (R0 : R K N G0 H (S ++ [some (r, m)]) (σ ++ [some v])) (lS : S.length = N) (lσ : σ.length = N) (lv : vs.length = ios.length) (ld : ds.length = ios.length) (hn : ios.length ≤ N) (fx : ∀ (k : Nat) w, ios[k]? = some true → vs[k]? = some w → σ[k]? = some (some w))
    (ok : okO 0 ios S = true) (m' : Md) (hm : (m' = .shr ∧ flat r = true) ∨ (m' = .own ∧ m = .own)) : R K 0 G0 H (outs ios (outD 0 ios S ds) ++ [some (r, m')]) (vs.map some ++ [some v]) := by
  obtain ⟨F, R0⟩ := R0
  have lO : (outs ios (outD 0 ios S ds)).length = ios.length := outs_len _ _ (outD_len ld)
  have e0 : (S ++ [some (r, m)])[N]? = some (some (r, m)) := by rw [List.getElem?_append_right (by omega), lS, Nat.sub_self]; rfl
  obtain ⟨v', q1, q2⟩ := R0.ent N (r, m) e0
  rw [List.getElem?_append_right (by omega), lσ, Nat.sub_self] at q1
  cases q1
  let F' : Nat → List Addr := fun k => if ios[k]? = some true then F k else if k = ios.length ∧ m' = .own then F N else []
  have Fio : ∀ {k : Nat}, ios[k]? = some true → F' k = F k := fun h => if_pos h
  have Fno : ∀ {k : Nat}, ios[k]? ≠ some true → F' k = if k = ios.length ∧ m' = .own then F N else [] := fun h => if_neg h
  have io_lt : ∀ {k : Nat}, ios[k]? = some true → k < ios.length := fun h => (List.getElem?_eq_some_iff.mp h).1
  have nb : ∀ (i : Nat) (d : PyData) (j : Nat), (outs ios (outD 0 ios S ds) ++ [some (r, m')])[i]? = some (some (d, Md.bor j)) → False := fun i d j h => by
    by_cases z : i < ios.length
    · rw [List.getElem?_append_left (by omega)] at h
      obtain ⟨d, h1, h2, e⟩ := outs_get _ _ _ _ h
      cases e
    · obtain ⟨lt, _⟩ := List.getElem?_eq_some_iff.mp h
      have : i = ios.length := by simp [lO] at lt; omega
      subst this
      rw [List.getElem?_append_right (by omega), lO, Nat.sub_self] at h
      cases h
      rcases hm with ⟨e, _⟩ | ⟨e, _⟩ <;> cases e
  have main : Rel K N G0 H F' (outs ios (outD 0 ios S ds) ++ [some (r, m')]) (vs.map some ++ [some v]) := ?_
  · exact ⟨F', main.reN fun i d j h => (nb i d j h).elim⟩
  refine (R0.big (fun k => ios[k]? ≠ some true) (by simp [lO, lv]) (fun a u _ e => e) (fun k hk => .inl (Fio (by simpa using hk))) (fun k a hk ma => ?_) (fun k hk => ?_) (fun k j a hk hj mk mj => ?_) (fun i e h => ?_) (fun i h => ?_) fun i d j h => (nb i d j h).elim)
  · rw [Fno hk] at ma
    split at ma
    · exact .inr ⟨N, fun z => by have := io_lt z; omega, ma⟩
    · cases ma
  · rw [Fno hk]
    split
    · exact R0.nodup _
    · exact List.nodup_nil
  · rw [Fno hk] at mk
    rw [Fno hj] at mj
    split at mk
    · rename_i y1
      split at mj
      · rename_i y2
        omega
      · cases mj
    · cases mk
  · by_cases z : i < ios.length
    · rw [List.getElem?_append_left (by omega)] at h
      obtain ⟨d, h1, h2, rfl⟩ := outs_get _ _ _ _ h
      obtain ⟨d', h3⟩ := okO_get (n := 0) ok h1
      rw [Nat.zero_add] at h3
      have := outD_get (n := 0) (k := i) (e := d') (m := .own) h1 h2 (by rw [Nat.zero_add]; exact h3)
      subst this
      refine .inl ⟨fun y => y h1, by rw [List.getElem?_append_left (by omega)]; exact h3, ?_, fun _ => Fio h1, fun j e => nomatch e⟩
      have lt : i < vs.length := by omega
      have := fx i vs[i] h1 (List.getElem?_eq_getElem lt)
      rw [List.getElem?_append_left (by simp; omega), List.getElem?_map, List.getElem?_eq_getElem lt, List.getElem?_append_left (by omega), this]
      rfl
    · obtain ⟨lt, _⟩ := List.getElem?_eq_some_iff.mp h
      have : i = ios.length := by simp [lO] at lt; omega
      subst this
      rw [List.getElem?_append_right (by omega), lO, Nat.sub_self] at h
      cases h
      refine .inr fun hG => ⟨v, by rw [List.getElem?_append_right (by simp; omega), List.length_map, lv, Nat.sub_self]; rfl, ?_⟩
      have nio : ios[ios.length]? ≠ some true := fun z => by have := io_lt z; omega
      rcases hm with ⟨rfl, f⟩ | ⟨rfl, rfl⟩
      · refine Dt.flat (fun a xs q => ?_) r f (q2.dt (gof_same H F))
        refine sqt_gof (fun k a mk => ?_) q
        by_cases y : ios[k]? = some true
        · rw [Fio y] at mk
          exact R0.here mk
        · rw [Fno y] at mk
          simp at mk
      · show Own K _ H v r (F' ios.length)
        rw [Fno nio, if_pos ⟨rfl, rfl⟩]
        exact Own.mv hG q2 fun _ _ _ e => e
  · by_cases z : ios[i]? = some true
    · have zl := io_lt z
      have lt : i < (outD 0 ios S ds).length := by rw [outD_len ld]; exact zl
      exact absurd (by rw [List.getElem?_append_left (by omega)]; exact outs_of _ _ i _ z (List.getElem?_eq_getElem lt)) (h _)
    · rw [Fno z]
      split
      · rename_i y
        exact absurd (by rw [y.1, List.getElem?_append_right (by omega), lO, Nat.sub_self, y.2]; rfl) (h r)
      · rfl
theorem pinB_mem : ∀ {ios : List Bool} {n k : Nat}, ios[k]? = some true → (n + k) ∈ pinB n ios
  | b :: r, n, 0, h => by
    cases h
    exact List.mem_cons_self ..
  | true :: r, n, k + 1, h => by
    have := pinB_mem (n := n + 1) (k := k) (ios := r) h
    rw [show n + (k + 1) = n + 1 + k by omega]
    exact List.mem_cons_of_mem _ this
  | false :: r, n, k + 1, h => by
    have := pinB_mem (n := n + 1) (k := k) (ios := r) h
    rw [show n + (k + 1) = n + 1 + k by omega]
    exact this
  | [], _, _, h => by simp at h
/-- the rule for a def -/
theorem ok3 {P : Program} {w : World} {mg : Str → Option Value} {base : Heap} {x qual : Str} {st : Stmt} {f : Addr} {fd : FuncData} {Nm pn : List Str} {k : Nat} {cc : C3} (F : Fun K x qual st f fd) (Sc : FnScope Nm pn (defScope st)) (hp : pn.length = ios.length) (hz : ios.length ≤ Nm.length)
    (body : ∀ cdv A outer s H E, Room k (A.deeper (envOfC qual (defScope st) s.heap.objs.size f cdv)) → ∃ ts t, PSs3 (cxOf CX0 P w K mg base Nm qual (defScope st) f cdv A outer s H E).nox (defBody st) ts t ∧ ∀ ds kk, ds.length = ios.length → cc ds kk → t (ends3 ios ds kk) ⟨[], pinB 0 ios, []⟩ (S0 Nm.length ios ds)) :
    FnOk P w K mg base CX0 (k + 1) f fd pn (sp3 K ios cc) := by
  refine F.ok Sc (fun vs H Q E h => ?_) (fun cdv A outer s H vs Q E hr h => ?_)
  · obtain ⟨_, _, h, _⟩ := h
    omega
  · obtain ⟨G0, ds, lv, ld, r, rd, kk, hk, fin⟩ := h
    obtain ⟨ts, t, p, rd2⟩ := body cdv A outer s H E hr
    refine ⟨ts, p.1, ?_⟩
    have q := rd2 ds kk ld hk
    have lE : (ents ios ds).length = ios.length := ents_len _ _ ld
    have lS0 : (S0 Nm.length ios ds).length = Nm.length := by simp [S0, lE]; omega
    have lσ : (start Nm vs).length = Nm.length := by simp [start]; omega
    have gt : ∀ {k : Nat} {e : Ent}, (S0 Nm.length ios ds ++ [])[k]? = some (some e) → k < ios.length ∧ (ents ios ds)[k]? = some (some e) := fun {k e} h => by
      rw [List.append_nil] at h
      unfold S0 at h
      by_cases z : k < ios.length
      · rw [List.getElem?_append_left (by omega)] at h
        exact ⟨z, h⟩
      · rw [List.getElem?_append_right (by omega), List.getElem?_replicate] at h
        split at h <;> cases h
    have vt : ∀ {k : Nat}, k < ios.length → (start Nm vs ++ [])[k]? = (vs.map some)[k]? := fun {k} h => by
      rw [List.append_nil]
      unfold start
      rw [List.getElem?_append_left (by simp; omega)]
    have a : At K Nm.length G0 (fun k => if isIo ios k = true then vs[k]? else none) ⟨[], pinB 0 ios, []⟩ (S0 Nm.length ios ds) [] (start Nm vs) [] H := by
      refine ⟨lS0, lσ, rfl, ?_, fun d j m => (by cases m), fun k v e => ?_, fun k v e => ?_, fun i m => (by cases m)⟩
      · obtain ⟨F0, r⟩ := r
        refine ⟨F0, (r.reN (M := Nm.length) fun i d j h => absurd (r.bnd i d j h) (by omega)).big (fun _ => False) (by simp [lS0, lσ]) (fun a u _ e => e) (fun _ _ => .inl rfl) (fun _ _ h => h.elim) (fun _ h => h.elim) (fun _ _ _ h => h.elim) (fun i e h => ?_) (fun i h => ?_) fun i d j h => ?_⟩
        · obtain ⟨z, h'⟩ := gt h
          exact .inl ⟨id, h', vt z, fun _ => rfl, fun _ _ => id⟩
        · refine r.empt i fun d q => h d ?_
          obtain ⟨lt, _⟩ := List.getElem?_eq_some_iff.mp q
          rw [List.append_nil]
          unfold S0
          rw [List.getElem?_append_left lt]
          exact q
        · obtain ⟨z, h'⟩ := gt h
          have := r.bnd i d j h'
          omega
      · have e : (if isIo ios k = true then vs[k]? else none) = some v := e
        split at e
        · obtain ⟨lt, _⟩ := List.getElem?_eq_some_iff.mp e
          have := vt (k := k) (by omega)
          rw [List.append_nil, List.getElem?_map, e] at this
          exact this
        · cases e
      · have e : (if isIo ios k = true then vs[k]? else none) = some v := e
        split at e
        · rename_i h
          have : ios[k]? = some true := by
            unfold isIo at h
            split at h
            · rename_i b hb
              rw [hb, h]
            · cases h
          have := pinB_mem (n := 0) this
          rw [Nat.zero_add] at this
          exact this
        · cases e
    have done : ∀ S σ H' v r m, S.length = Nm.length → σ.length = Nm.length → R K Nm.length G0 H' (S ++ [some (r, m)]) (σ ++ [some v]) → Fx (fun k => if isIo ios k = true then vs[k]? else none) σ → fin3 ios ds kk r m S → Q v H' := fun S σ H' v r m l l' R0 fx q => by
      obtain ⟨ok, q⟩ := q
      have fx' : ∀ (k : Nat) w, ios[k]? = some true → vs[k]? = some w → σ[k]? = some (some w) := fun k w h1 h2 => fx k w (by
        show (if isIo ios k = true then vs[k]? else none) = some w
        rw [if_pos (by unfold isIo; rw [h1])]
        exact h2)
      by_cases fl : flat r = true
      · rw [if_pos fl] at q
        exact fin r .shr _ (outD_len ld) (.inl rfl) q v H' (R0.fin l l' lv ld hz fx' ok .shr (.inl ⟨rfl, fl⟩))
      · rw [if_neg fl] at q
        exact fin r .own _ (outD_len ld) (.inr rfl) q.2 v H' (R0.fin l l' lv ld hz fx' ok .own (.inr ⟨rfl, q.1⟩))
    refine p.2 a q ⟨fun S σ H' l l' r' fx q => ?_, fun S σ H' l l' r' fx q => q.elim, fun S σ H' l l' r' fx q => q.elim, fun S σ H' v d m l l' r' fx q => ?_⟩
    · have : R K Nm.length G0 H' (S ++ [some (.none, .shr)]) (σ ++ [some .non]) := R.flatR (A := []) (ws := []) r' (by rw [l', l]) (by rw [l]; exact Nat.le_refl _) (fun _ _ e => e) rfl .non
      exact done S σ H' .non .none .shr l l' this fx q
    · have r'' : R K Nm.length G0 H' (S ++ ([] ++ [some (d, m)])) (σ ++ ([] ++ [some v])) := r'
      exact done S σ H' v d m l l' (by simpa using r'') fx q
end
end L2.Fb.T

namespace L2.Fb.T
open PySem PySem.Spec
open PyProof.Rows
section
variable {K : PySem.W.Frag} {N : Nat} {G0 G H H' : Hp} {c c1 c2 : Bool} {S S' T P : S3} {σ : St} {us ps : List (Option V)} {te : TE} {t t1 t2 : TE3} {pv : PV} {B : Bs} {D : Ends} {E : Ends3} {ts us' : TS} {s3 u3 : TS3} {tc tc2 : TT} {c3 d3 : TT3} {es A : List (Option Ent)} {ws : List (Option V)}
theorem OwnL.app : ∀ {xs ys : List V} {ds es : List PyData} {F F' : List Addr}, OwnL K G H xs ds F → OwnL K G H ys es F' → OwnL K G H (xs ++ ys) (ds ++ es) (F ++ F')
  | _, _, _, _, _, _, .nil, h => h
  | _, _, _, _, _, _, .cons a b, h => by
    rw [List.append_assoc]
    exact .cons a (OwnL.app b h)
theorem OwnL.len : ∀ {xs : List V} {ds : List PyData} {F : List Addr}, OwnL K G H xs ds F → xs.length = ds.length
  | _, _, _, .nil => rfl
  | _, _, _, .cons a b => congrArg (· + 1) (OwnL.len b)
/-- one thing more in a list that is held -/
theorem R.appL {ds : List PyData} {d : PyData} {m : Md} {q : Addr} {y : V} (r : R K N G0 H (P ++ [some (.list ds, .own), some (d, m)]) (ps ++ [some (.ref q), some y])) (hl : ps.length = P.length) (hN : N ≤ P.length) (hm : flat d = true ∨ m = .own) :
    ∃ xs, H q = some (.lst xs) ∧ xs.length = ds.length ∧ R K N G0 (upd H q (.lst (xs ++ [y]))) (P ++ [some (.list (ds ++ [d]), .own)]) (ps ++ [some (.ref q)]) := by
  obtain ⟨F, r⟩ := r
  obtain ⟨v1, q1, q2⟩ := r.ent P.length (.list ds, .own) (by rw [List.getElem?_append_right (Nat.le_refl _), Nat.sub_self]; rfl)
  rw [← hl, List.getElem?_append_right (Nat.le_refl _), Nat.sub_self] at q1
  cases q1
  obtain ⟨y', q3, q4⟩ := r.ent (P.length + 1) (d, m) (by rw [List.getElem?_append_right (by omega), show P.length + 1 - P.length = 1 by omega]; rfl)
  rw [List.getElem?_append_right (by omega), show P.length + 1 - ps.length = 1 by omega] at q3
  cases q3
  have q2 : Own K (Gof H F) H (.ref q) (.list ds) (F P.length) := q2
  generalize hF : F P.length = Fp at q2
  cases q2 with
  | lst hq ol =>
  rename_i xs Fc
  refine ⟨xs, hq, ol.len, ?_⟩
  have nd := r.nodup P.length
  rw [hF] at nd
  obtain ⟨nd1, nd2⟩ := List.nodup_cons.mp nd
  -- the new thing's own places
  obtain ⟨L, oL, ndL, hL⟩ : ∃ L, Own K (Gof H F) H y d L ∧ L.Nodup ∧ (∀ a ∈ L, a ∈ F (P.length + 1)) := by
    rcases hm with f | rfl
    · exact ⟨[], Own.flat d f (Dt.flat (fun a xs q => r.sqt q) d f (q4.dt (gof_same H F))), List.nodup_nil, fun a m => by cases m⟩
    · exact ⟨F (P.length + 1), q4, r.nodup _, fun _ m => m⟩
  have qF : q ∈ F P.length := by rw [hF]; exact List.mem_cons_self ..
  have qL : q ∉ L := fun m => by
    have := r.sep _ _ _ qF (hL q m)
    omega
  have keep : ∀ a u, a ≠ q → H a = some u → upd H q (.lst (xs ++ [y])) a = some u := fun a u ne e => by rw [upd_ne ne]; exact e
  refine r.build hl hN (fun a u h e => keep a u (fun z => h P.length (Nat.le_refl _) (by rw [z]; exact qF)) e) (L := q :: (Fc ++ L)) ?_ (fun a m => .inr ?_) (.inl rfl) (fun j e => nomatch e) fun F' f1 f2 f3 hG => ?_
  · refine List.nodup_cons.mpr ⟨fun m => (List.mem_append.mp m).elim nd1 qL, List.nodup_append.mpr ⟨nd2, ndL, fun a ma b mb e => ?_⟩⟩
    subst e
    have := r.sep _ _ _ (show a ∈ F P.length by rw [hF]; exact List.mem_cons_of_mem _ ma) (hL a mb)
    omega
  · rcases List.mem_cons.mp m with e | m
    · exact ⟨_, Nat.le_refl _, by rw [e]; exact qF⟩
    · rcases List.mem_append.mp m with m | m
      · exact ⟨_, Nat.le_refl _, by rw [hF]; exact List.mem_cons_of_mem _ m⟩
      · exact ⟨_, by omega, hL a m⟩
  · show Own K _ _ _ _ (F' P.length)
    rw [f2]
    have oc : OwnL K (Gof (upd H q (.lst (xs ++ [y]))) F') (upd H q (.lst (xs ++ [y]))) xs ds Fc := OwnL.mv hG ol fun a u m e => keep a u (fun z => nd1 (by rw [← z]; exact m)) e
    have ol2 : OwnL K (Gof (upd H q (.lst (xs ++ [y]))) F') (upd H q (.lst (xs ++ [y]))) [y] [d] (L ++ []) := .cons (Own.mv hG oL fun a u m e => keep a u (fun z => qL (by rw [← z]; exact m)) e) .nil
    rw [List.append_nil] at ol2
    exact .lst upd_same (oc.app ol2)
/-! ### comprehensions -/
def wipe3 (S : S3) : List Nat → S3
  | [] => S
  | v :: vs => (wipe3 S vs).set v none
theorem wipe3_len (S : S3) : ∀ vs, (wipe3 S vs).length = S.length
  | [] => rfl
  | v :: vs => by rw [wipe3, List.length_set, wipe3_len S vs]
theorem wipe3_get (S : S3) : ∀ (vs : List Nat) (k : Nat) (e : Ent), (wipe3 S vs)[k]? = some (some e) → k ∉ vs ∧ S[k]? = some (some e)
  | [], k, e, h => ⟨List.not_mem_nil, h⟩
  | v :: vs, k, e, h => by
    have h : ((wipe3 S vs).set v none)[k]? = some (some e) := h
    by_cases z : v = k
    · subst z
      rw [List.getElem?_set] at h
      simp at h
    · rw [List.getElem?_set_ne z] at h
      obtain ⟨h1, h2⟩ := wipe3_get S vs k e h
      exact ⟨fun m => (List.mem_cons.mp m).elim (fun e => z e.symm) h1, h2⟩
theorem wipe_get (σ : St) : ∀ (vs : List Nat) (k : Nat), k ∉ vs → (wipe σ vs)[k]? = σ[k]?
  | [], _, _ => rfl
  | v :: vs, k, h => by
    show ((wipe σ vs).set v none)[k]? = _
    rw [List.getElem?_set_ne fun z => h (by rw [z]; exact List.mem_cons_self ..)]
    exact wipe_get σ vs k fun m => h (List.mem_cons_of_mem _ m)
theorem wipe_none (σ : St) : ∀ (vs : List Nat) (k : Nat), k ∈ vs → k < σ.length → (wipe σ vs)[k]? = some none
  | v :: vs, k, h, lt => by
    show ((wipe σ vs).set v none)[k]? = _
    by_cases z : v = k
    · subst z
      rw [List.getElem?_set_self (by rw [wipe_length]; exact lt)]
    · rw [List.getElem?_set_ne z]
      exact wipe_none σ vs k ((List.mem_cons.mp h).resolve_left fun e => z e.symm) lt
  | [], k, h, _ => by cases h
theorem wipe_eq {σ σ' : St} {vs : List Nat} (l : σ'.length = σ.length) (h : ∀ j, j ∉ vs → σ'[j]? = σ[j]?) : wipe σ' vs = wipe σ vs := by
  apply List.ext_getElem?
  intro k
  by_cases z : k ∈ vs
  · by_cases lt : k < σ.length
    · rw [wipe_none σ' vs k z (by omega), wipe_none σ vs k z lt]
    · rw [List.getElem?_eq_none (by rw [wipe_length]; omega), List.getElem?_eq_none (by rw [wipe_length]; omega)]
  · rw [wipe_get σ' vs k z, wipe_get σ vs k z, h k z]
/-- slots forgotten, whatever stands there -/
theorem R.wipe {σ σ' : St} {vs : List Nat} (r : R K N G0 H (S ++ T) (σ ++ us)) (lS : S.length = N) (lσ : σ.length = N) (lσ' : σ'.length = N) (h : ∀ j, j ∉ vs → σ'[j]? = σ[j]?) : R K N G0 H (wipe3 S vs ++ T) (σ' ++ us) := by
  obtain ⟨F, r⟩ := r
  have lw := wipe3_len S vs
  have gt : ∀ {k : Nat} {e : Ent}, (wipe3 S vs ++ T)[k]? = some (some e) → (S ++ T)[k]? = some (some e) ∧ (k < N → k ∉ vs) := fun {k e} q => by
    by_cases z : k < N
    · rw [List.getElem?_append_left (by omega)] at q
      obtain ⟨h1, h2⟩ := wipe3_get S vs k e q
      exact ⟨by rw [List.getElem?_append_left (by omega)]; exact h2, fun _ => h1⟩
    · rw [List.getElem?_append_right (by omega)] at q
      exact ⟨by rw [List.getElem?_append_right (by omega), ← lw]; exact q, fun lt => absurd lt z⟩
  have len0 := r.len
  refine ⟨fun k => if k ∈ vs ∧ k < N then [] else F k, r.big (fun _ => False) (by simp at len0 ⊢; omega) (fun a u _ e => e) (fun k _ => ?_) (fun _ _ h => h.elim) (fun _ h => h.elim) (fun _ _ _ h => h.elim) (fun i e q => ?_) (fun i q => ?_) fun i d j q => r.bnd i d j (gt q).1⟩
  · by_cases z : k ∈ vs ∧ k < N
    · exact .inr (if_pos z)
    · exact .inl (if_neg z)
  · obtain ⟨h1, h2⟩ := gt q
    refine .inl ⟨id, h1, ?_, fun _ => if_neg fun z => h2 z.2 z.1, fun _ _ => id⟩
    by_cases z : i < N
    · rw [List.getElem?_append_left (by omega), List.getElem?_append_left (by omega), h i (h2 z)]
    · rw [List.getElem?_append_right (by omega), List.getElem?_append_right (by omega), lσ, lσ']
  · show (if i ∈ vs ∧ i < N then [] else F i) = []
    by_cases z : i ∈ vs ∧ i < N
    · exact if_pos z
    · rw [if_neg z]
      refine r.empt i fun d e => q d ?_
      by_cases y : i < N
      · rw [List.getElem?_append_left (by omega)] at e ⊢
        have : ∀ vs : List Nat, i ∉ vs → (wipe3 S vs)[i]? = S[i]? := fun vs => by
          induction vs with
          | nil => exact fun _ => rfl
          | cons v vs ih =>
            intro hv
            show ((wipe3 S vs).set v none)[i]? = _
            rw [List.getElem?_set_ne fun z => hv (by rw [z]; exact List.mem_cons_self ..)]
            exact ih fun m => hv (List.mem_cons_of_mem _ m)
        rw [this vs fun m => z ⟨m, y⟩]
        exact e
      · rw [List.getElem?_append_right (by omega)] at e ⊢
        rw [lw]
        exact e
/-- tests of a comprehension -/
def tYes3 : TT3 := fun B S Q => Q true S
def compF (B : Bs) (g : TG3) (tt : TT3) (te : TE3) (vs : List Nat) (item : Nat → Ent) (k : List PyData → S3 → Prop) : Nat → Nat → List PyData → S3 → Prop
  | 0, _, acc, S => k acc (wipe3 S vs)
  | r + 1, i, acc, S => g B (item i) (wipe3 S vs) fun S2 => tt B S2 fun b S3 => if b = true then te B S3 fun d m S4 => (flat d = true ∨ m = .own) ∧ compF B g tt te vs item k r (i + 1) (acc ++ [d]) S4 else compF B g tt te vs item k r (i + 1) acc S3
def freeV (B : Bs) (vs : List Nat) : Bool := vs.all fun v => !B.pn.contains v
def tLc3 (ti : TI3) (g : TG3) (tt : TT3) (te : TE3) (vs : List Nat) : TE3 := fun B S Q => ti B S fun es n item S1 => freeV B vs = true ∧ n ≤ 50000 ∧ compF (B.add (bsA es)) g tt te vs item (fun acc S2 => Q (.list acc) .own S2) n 0 [] S1
theorem wipe3_off (S : S3) : ∀ (vs : List Nat) (k : Nat), k ∉ vs → (wipe3 S vs)[k]? = S[k]?
  | [], _, _ => rfl
  | v :: vs, k, h => by
    show ((wipe3 S vs).set v none)[k]? = _
    rw [List.getElem?_set_ne fun z => h (by rw [z]; exact List.mem_cons_self ..)]
    exact wipe3_off S vs k fun m => h (List.mem_cons_of_mem _ m)
theorem wipe3_at (S : S3) : ∀ (vs : List Nat) (k : Nat), k ∈ vs → k < S.length → (wipe3 S vs)[k]? = some none
  | v :: vs, k, h, lt => by
    show ((wipe3 S vs).set v none)[k]? = _
    by_cases z : v = k
    · subst z
      rw [List.getElem?_set_self (by rw [wipe3_len]; exact lt)]
    · rw [List.getElem?_set_ne z]
      exact wipe3_at S vs k ((List.mem_cons.mp h).resolve_left fun e => z e.symm) lt
  | [], k, h, _ => by cases h
theorem wipe3_idem (S : S3) (vs : List Nat) : wipe3 (wipe3 S vs) vs = wipe3 S vs := by
  apply List.ext_getElem?
  intro k
  by_cases z : k ∈ vs
  · by_cases lt : k < S.length
    · rw [wipe3_at _ vs k z (by rw [wipe3_len]; exact lt), wipe3_at S vs k z lt]
    · rw [List.getElem?_eq_none (by rw [wipe3_len, wipe3_len]; omega), List.getElem?_eq_none (by rw [wipe3_len]; omega)]
  · rw [wipe3_off _ vs k z]
theorem Fx.wipe {vs : List Nat} (h : Fx pv σ) (hb : FxB pv B) (hv : freeV B vs = true) : Fx pv (L2.wipe σ vs) := fun k w e => by
  have : k ∉ vs := fun m => by
    have h1 := List.all_eq_true.mp hv k m
    have h2 := hb k w e
    simp [h2] at h1
  rw [wipe_get σ vs k this]
  exact h k w e
theorem lift_yes : LiftT K N tYes tYes3 := fun a q k => k _ _ _ a.lS a.r q
theorem lift_lc {vs : List Nat} {wi : TI} {ti : TI3} {g : TG} {g3 : TG3} {tt : TT} {t3 : TT3} (hi : LiftI K N wi ti) (hg : LiftG K N vs g g3) (ht : LiftT K N tt t3) (he : Lift K N c te t) : Lift K N false (tLc wi g tt te vs) (tLc3 ti g3 t3 t vs) := by
  intro G0 pv B S T σ us H Q Q3 a q k
  have lu := a.lu
  have lσ := a.lσ
  have line : 50000 < sizeLine := by decide
  refine hi a q fun J H1 es ws n item S1 l1 lw r1 wk ⟨fv, hn, q⟩ => ?_
  intro Dd nD
  have fb' : FxB pv (B.add (bsA es)) := a.fb
  have lk' : LkB G0 pv (B.add (bsA es)) := a.lk
  have fxw : Fx pv (wipe σ vs) := a.fx.wipe a.fb fv
  have lwσ : (wipe σ vs).length = N := by rw [wipe_length]; exact lσ
  have bor2 : ∀ {acc : List PyData}, BorIn ((T ++ es) ++ [some (.list acc, .own)]) (B.add (bsA es)) := fun {acc} d j m => by
    rcases List.mem_append.mp m with m | m
    · exact (List.mem_append.mp m).elim (fun m => List.mem_append_right _ (a.b d j m)) fun m => List.mem_append_left _ (bsA_mem m)
    · simp at m
  refine ⟨fun i m H' => m = n - i ∧ i ≤ n ∧ ∃ S' acc, S'.length = N ∧ acc.length ≤ i ∧ R K N G0 H' (wipe3 S' vs ++ ((T ++ es) ++ [some (.list acc, .own)])) (wipe σ vs ++ ((us ++ ws) ++ [some (.ref Dd)])) ∧ compF (B.add (bsA es)) g3 t3 t vs item (fun acc S2 => Q3 (.list acc) .own S2) (n - i) i acc S',
    ⟨n, rfl, Nat.zero_le _, S1, [], l1, Nat.le_refl _, ?_, q⟩, ?_⟩
  · have := R.newL (P := S1 ++ (T ++ es)) (ps := σ ++ (us ++ ws)) (es := []) (vs := []) (by simpa using r1) rfl (by simp; omega) (by simp; omega) rfl nD
    have := R.wipe (S := S1) (T := (T ++ es) ++ [some (.list [], .own)]) (σ := σ) (us := (us ++ ws) ++ [some (.ref Dd)]) (σ' := wipe σ vs) (vs := vs) (by simpa [dats] using this) l1 lσ lwσ fun j hj => wipe_get σ vs j hj
    exact this
  · rintro i m H2 ⟨rfl, hi', S2, acc, l2, la, r2, q2⟩
    have lw2 : (wipe3 S2 vs).length = N := by rw [wipe3_len]; exact l2
    by_cases hlt : i < n
    · obtain ⟨go, yl⟩ := wk.go (A := [some (.list acc, .own)]) (ws := [some (.ref Dd)]) lw2 lwσ rfl r2 i hlt
      rw [show n - i = (n - (i + 1)) + 1 by omega] at q2
      refine .inr ⟨go, fun H' => ∃ S' acc, S'.length = N ∧ acc.length ≤ i + 1 ∧ R K N G0 H' (wipe3 S' vs ++ ((T ++ es) ++ [some (.list acc, .own)])) (wipe σ vs ++ ((us ++ ws) ++ [some (.ref Dd)])) ∧ compF (B.add (bsA es)) g3 t3 t vs item (fun acc S2 => Q3 (.list acc) .own S2) (n - (i + 1)) (i + 1) acc S', fun H' ⟨S', acc', h1, h2, h3, h4⟩ => ⟨n - (i + 1), by omega, rfl, by omega, S', acc', h1, h2, h3, h4⟩, ?_⟩
      intro x H3 y
      have r3 := yl x H3 y
      refine hg (T := (T ++ es) ++ [some (.list acc, .own)]) (us := (us ++ ws) ++ [some (.ref Dd)]) lw2 lwσ (by simp [lu, lw]) fxw fb' lk' (by simpa using r3) q2 fun σ4 S4 l4 lσ4 r4 fx4 ag q4 => ?_
      have ag2 : ∀ j, j ∉ vs → σ4[j]? = σ[j]? := fun j hj => by rw [ag j hj, wipe_get σ vs j hj]
      refine ⟨wipe_eq (by omega) ag2, ?_⟩
      have a4 : At K N G0 pv (B.add (bsA es)) S4 ((T ++ es) ++ [some (.list acc, .own)]) σ4 ((us ++ ws) ++ [some (.ref Dd)]) H3 := ⟨l4, lσ4, by simp [lu, lw], r4, bor2, fx4, fb', lk'⟩
      refine ht a4 q4 fun b H5 S5 l5 r5 q5 => ?_
      cases b with
      | true =>
        rw [if_pos rfl] at q5
        show te σ4 H5 _
        have a5 := a4.of l5 lσ4 r5 fx4
        refine he a5 q5 fun v6 H6 d m S6 l6 r6 _ ⟨hm, q6⟩ => ?_
        obtain ⟨xs, e1, e2, e3⟩ := R.appL (P := S6 ++ (T ++ es)) (ps := σ4 ++ (us ++ ws)) (ds := acc) (d := d) (m := m) (q := Dd) (y := v6) (by simpa using r6) (by simp; omega) (by simp; omega) hm
        refine ⟨xs, e1, by omega, S6, acc ++ [d], l6, by simp; omega, ?_, q6⟩
        exact R.wipe (S := S6) (T := (T ++ es) ++ [some (.list (acc ++ [d]), .own)]) (σ := σ4) (us := (us ++ ws) ++ [some (.ref Dd)]) (σ' := wipe σ vs) (vs := vs) (by simpa using e3) l6 lσ4 lwσ fun j hj => by rw [wipe_get σ vs j hj, ag2 j hj]
      | false =>
        rw [if_neg Bool.false_ne_true] at q5
        exact ⟨S5, acc, l5, by omega, R.wipe (S := S5) (σ := σ4) (σ' := wipe σ vs) (vs := vs) r5 l5 lσ4 lwσ (fun j hj => by rw [wipe_get σ vs j hj, ag2 j hj]), q5⟩
    · have : i = n := by omega
      subst this
      rw [Nat.sub_self] at q2
      refine .inl ⟨wk.stop (A := [some (.list acc, .own)]) (ws := [some (.ref Dd)]) lw2 lwσ rfl r2, k _ _ _ _ _ lw2 ?_ (fun e => by cases e) q2⟩
      have h1 := R.wipe (S := wipe3 S2 vs) (σ := wipe σ vs) (σ' := σ) (vs := vs) r2 lw2 lwσ lσ fun j hj => (wipe_get σ vs j hj).symm
      rw [wipe3_idem] at h1
      have := R.mid (P := wipe3 S2 vs ++ T) (ps := σ ++ us) (es := es) (ws := ws) (d := .list acc) (m := .own) (v := .ref Dd) (by simpa using h1) (by simp; omega) lw (by simp; omega)
      simpa using this
end
section
variable {X : Cx} {pos : Pos} {c : Bool} {e iter tg elt : Expr} {te : TE} {t : TE3} {wi : TI} {ti : TI3} {g : TG} {g3 : TG3} {w : TT} {tt : TT3} {scope : Scope} {own : List (Str × Nat)} {ifs : List Expr}
theorem e_lc (hc : X.calm = true) (hN : X.N.Nodup) (hi : PI3 X tg iter wi ti) (ok : BlkOk X.N X.env.scope scope own)
    (hg : (∀ (s : Shared) (H : Hp) (C : Addr) (cl : List (Str × Addr)) (fp : List Addr), PG3 (X.blk s H scope (compEnvC scope cl C X.env) fp) tg (own.map (·.2)) g g3)) (ht : ∀ (s : Shared) (H : Hp) (C : Addr) (cl : List (Str × Addr)) (fp : List Addr), PTs (X.blk s H scope (compEnvC scope cl C X.env) fp) ifs w ∧ LiftT X.K X.N.length w tt)
    (he : ∀ (s : Shared) (H : Hp) (C : Addr) (cl : List (Str × Addr)) (fp : List Addr), PE3 (X.blk s H scope (compEnvC scope cl C X.env) fp) elt te c t) (hs : ∀ x, foldedSetIterable iter X.env x = pure x := by intro _; rfl) (sh : Shared) :
    PE3 X (.ListComp elt [⟨tg, iter, ifs, 0⟩] scope pos) (tLc wi g w te (own.map (·.2))) false (tLc3 ti g3 tt t (own.map (·.2))) :=
  ⟨pe_lc hc hN hi.1 ok (fun s H C cl fp => (hg s H C cl fp).1) (fun s H C cl fp => (ht s H C cl fp).1) (fun s H C cl fp => (he s H C cl fp).1) hs, lift_lc hi.2 (hg sh (fun _ => none) 0 [] []).2 (ht sh (fun _ => none) 0 [] []).2 (he sh (fun _ => none) 0 [] []).2⟩
end
end L2.Fb.T

namespace L2.Fb.T
open PySem PySem.Spec
open PyProof.Rows
section
variable {K : PySem.W.Frag} {N : Nat} {G0 G H H' : Hp} {c c1 c2 : Bool} {S S' T P : S3} {σ : St} {us ps : List (Option V)} {te : TE} {t t1 t2 : TE3} {pv : PV} {B : Bs} {es A : List (Option Ent)} {ws : List (Option V)} {vs : List V} {ats : List (Option Nat)}
/-! ### data of the older layers -/
mutual
theorem Dt.da : ∀ (d : PyData) {v : V}, plain d = true → Dt K H v d → Da K H v d
  | .none, _, _, h => by cases h; exact .non
  | .bool _, _, _, h => by cases h; exact .bl _
  | .int _, _, _, h => by cases h; exact .int _
  | .str _, _, _, h => by cases h; exact .str _
  | .list ds, _, p, h => by cases h with | lst a b => exact .lst (.inl (.inl a)) (DtL.da ds (by simpa [plain] using p) b)
  | .tuple ds, _, p, h => by cases h with | tup a b => exact .tup (.inl (.inl a)) (DtL.da ds (by simpa [plain] using p) b)
  | .dict ds, _, p, h => by
    cases h with
    | dct a b => exact .dct a (DtK.da ds (by simpa [plain] using p) b)
    | dtt a b => simp [plain, plainK] at p
theorem DtL.da : ∀ (ds : List PyData) {vs : List V}, plainL ds = true → DtL K H vs ds → DaL K H vs ds
  | [], _, _, h => by cases h; exact .nil
  | d :: ds, _, p, h => by
    have p : plain d = true ∧ plainL ds = true := by simpa [plainL] using p
    cases h with | cons a b => exact .cons (Dt.da d p.1 a) (DtL.da ds p.2 b)
theorem DtK.da : ∀ (ds : List (PyData × PyData)) {vs : List (Key × V)}, plainK ds = true → DtK K H vs ds → DaK K H vs ds
  | [], _, _, h => by cases h; exact .nil
  | (_, d) :: ds, _, p, h => by
    cases h with
    | cons a b =>
      rename_i k v r
      have p : plain d = true ∧ plainK ds = true := by
        cases k <;> simpa [plainK, kD] using p
      exact .cons (Dt.da d p.1 a) (DtK.da ds p.2 b)
end
mutual
def noDict : PyData → Bool
  | .list ds => noDictL ds
  | .tuple ds => noDictL ds
  | .dict _ => false
  | _ => true
def noDictL : List PyData → Bool
  | [] => true
  | d :: ds => noDict d && noDictL ds
end
mutual
theorem Dt.dp : ∀ (d : PyData) {v : V}, noDict d = true → Dt K H v d → Dp K H v d
  | .none, _, _, h => by cases h; exact .non
  | .bool _, _, _, h => by cases h; exact .bl _
  | .int _, _, _, h => by cases h; exact .int _
  | .str _, _, _, h => by cases h; exact .str _
  | .list ds, _, p, h => by cases h with | lst a b => exact .lst (.inl (.inl a)) (DtL.dp ds (by simpa [noDict] using p) b)
  | .tuple ds, _, p, h => by cases h with | tup a b => exact .tup (.inl (.inl a)) (DtL.dp ds (by simpa [noDict] using p) b)
  | .dict ds, _, p, _ => by simp [noDict] at p
theorem DtL.dp : ∀ (ds : List PyData) {vs : List V}, noDictL ds = true → DtL K H vs ds → DpAll K H vs ds
  | [], _, _, h => by cases h; exact .nil
  | d :: ds, _, p, h => by
    have p : noDict d = true ∧ noDictL ds = true := by simpa [noDictL] using p
    cases h with | cons a b => exact .cons (Dt.dp d p.1 a) (DtL.dp ds p.2 b)
end
/-- no dict with tuples for keys -/
def tk : PyData → Bool | .dict ((.none, _) :: _) => false | _ => true
theorem Dt.ty {v : V} {d : PyData} (hk : tk d = true) (h : Dt K H v d) : TyX K H v (.type (tyName d)) := by
  cases h with
  | non => exact .base .non
  | bl b => exact .base (.bl b)
  | int i => exact .base (.int i)
  | str x => exact .base (.str x)
  | lst a b => exact .base (.lst a)
  | tup a b => exact .base (.tup a)
  | dct a b =>
    rcases a with a | ⟨o, a⟩
    · exact .base (.dK a)
    · exact .fDict a
  | dtt a b => simp [tk] at hk
/-! ### a part of a thing -/
/-- by values: the part is there, whatever else is seen -/
def PtF (K : PySem.W.Frag) (r : V → V → Hp → VK → Prop) (sel : PyData → PyData → Option PyData) : Prop :=
  ∀ {H : Hp} {x y : V} {dx dy e : PyData} {Q : VK}, Dt K H x dx → Dt K H y dy → sel dx dy = some e → (∀ v, (∀ G, Same G H → Dt K G x dx → Dt K G v e) → Q v H) → r x y H Q
def tIx3 (sel : PyData → PyData → Option PyData) (ta tb : TE3) : TE3 := fun B S Q => ta B S fun d m S1 => tb (B.add m.bs) S1 fun d2 m2 S2 => ∃ e, sel d d2 = some e ∧ Q e (im m e) S2
theorem lift_part {ta tb : TE} {a3 b3 : TE3} {r : V → V → Hp → VK → Prop} {sel : PyData → PyData → Option PyData} (ho : PtF K r sel) (ha : Lift K N c1 ta a3) (hb : Lift K N c2 tb b3) : Lift K N (c1 && c2) (fun σ H Q => ta σ H fun x H1 => tb σ H1 fun y H2 => r x y H2 Q) (tIx3 sel a3 b3) := by
  intro G0 pv B S T σ us H Q Q3 a h k
  have lu := a.lu
  have lσ := a.lσ
  refine ha a h fun x H1 d m S1 l1 r1 c1' h1 => ?_
  have r1p : R K N G0 H1 (S1 ++ (T ++ [some (d, pubM m)])) (σ ++ (us ++ [some x])) := by
    have := R.pub' (P := S1 ++ T) (ps := σ ++ us) (d := d) (m := m) (v := x) (by simpa using r1) (by simp; omega) (by simp; omega)
    simpa using this
  have a1 := a.push l1 r1p
  have eb : (pubM m).bs = m.bs := by cases m <;> rfl
  rw [eb] at a1
  refine hb a1 h1 fun y H2 e m2 S2 l2 r2 c2' h2 => ?_
  have e0 : (S2 ++ ((T ++ [some (d, pubM m)]) ++ [some (e, m2)]))[N + T.length]? = some (some (d, pubM m)) := by
    rw [List.getElem?_append_right (by omega), List.append_assoc, List.getElem?_append_right (by omega), show N + T.length - S2.length - T.length = 0 by omega]; rfl
  have ev : (σ ++ ((us ++ [some x]) ++ [some y]))[N + T.length]? = some (some x) := by
    rw [List.getElem?_append_right (by omega), List.append_assoc, List.getElem?_append_right (by omega), show N + T.length - σ.length - us.length = 0 by omega]; rfl
  have top := R.top (P := S2 ++ (T ++ [some (d, pubM m)])) (ps := σ ++ (us ++ [some x])) (e := (e, m2)) (v := y) (by simp; omega) (by simpa using r2)
  obtain ⟨x', q1, dx⟩ := r2.get e0
  rw [ev] at q1
  cases q1
  obtain ⟨z, hz, h2⟩ := h2
  · refine ho dx top hz fun v hv => k v H2 z _ S2 l2 ?_ (fun cc => ?_) h2
    · have e2 : im (pubM m) z = im m z := by cases m <;> rfl
      have r3 := R.part (x := v) (e := z) r2 e0 ev (by simp; omega) (by cases m <;> simp [pubM]) hv
      rw [e2] at r3
      have := R.mid (P := S2 ++ T) (ps := σ ++ us) (es := [some (d, pubM m), some (e, m2)]) (ws := [some x, some y]) (d := z) (m := im m z) (v := v) (by simpa using r3) (by simp; omega) rfl (by simp; omega)
      simpa using this
    · have cc : c1 = true ∧ c2 = true := by simpa using cc
      exact fun a u q => c2' cc.2 _ _ (c1' cc.1 _ _ q)
/-! ### built-in functions: flat answers, new lists of flat things -/
abbrev F3 := List PyData → (PyData → Prop) → Prop
def FlF (K : PySem.W.Frag) (r : List V → Hp → VK → Prop) (f : F3) : Prop :=
  ∀ {H : Hp} {vs : List V} {ds : List PyData} {Q : VK} {Q3 : PyData → Prop}, DtL K H vs ds → f ds Q3 → (∀ v H' d, Same H H' → flat d = true → Dt K H' v d → Q3 d → Q v H') → r vs H Q
def NwF (K : PySem.W.Frag) (r : List V → Hp → VK → Prop) (f : F3) : Prop :=
  ∀ {H : Hp} {vs : List V} {ds : List PyData} {Q : VK} {Q3 : PyData → Prop}, DtL K H vs ds → f ds Q3 → (∀ p xs es, H p = none → flatL es = true → DtL K H xs es → Q3 (.list es) → Q (.ref p) (upd H p (.lst xs))) → r vs H Q
def tCBF (f : F3) (t : TA3) : TE3 := fun B S Q => t B S fun es S1 => f (dats es) fun d => Q d .shr S1
def tCBN (f : F3) (t : TA3) : TE3 := fun B S Q => t B S fun es S1 => f (dats es) fun d => Q d .own S1
theorem lift_cbF {ta : TA} {t : TA3} {r : List V → Hp → VK → Prop} {f : F3} (hf : FlF K r f) (hn : nones ats = true) (h : LiftA K N ats c ta t) : Lift K N c (tCB r ta) (tCBF f t) := by
  intro G0 pv B S T σ us H Q Q3 a q k
  have lS := a.lS
  have lσ := a.lσ
  have lu := a.lu
  refine h a q fun vs H1 es S1 l1 lv le lat r1 k1 q1 => ?_
  have r1' : R K N G0 H1 ((S1 ++ T) ++ es) ((σ ++ us) ++ vs.map some) := by simpa using r1
  have dl := get_all (P := S1 ++ T) (ps := σ ++ us) es vs r1' (by simp; omega) (by omega) (lat.full le hn)
  refine hf dl q1 fun v H' d s fl dv q2 => k v H' d .shr S1 l1 ?_ (fun cc a u e => s _ _ (k1 cc _ _ e)) q2
  have := R.flatR (S := S1 ++ T) (vs := σ ++ us) r1' (by simp; omega) (by simp; omega) s fl dv
  simpa using this
/-- a new list of flat things -/
theorem R.newF (r : R K N G0 H (P ++ es) (ps ++ ws)) (hp : ps.length = P.length) (hN : N ≤ P.length) {p : Addr} (np : H p = none) {xs : List V} {ds : List PyData} (f : flatL ds = true) (d : DtL K H xs ds) : R K N G0 (upd H p (.lst xs)) (P ++ [some (.list ds, .own)]) (ps ++ [some (.ref p)]) := by
  obtain ⟨F, r⟩ := r
  refine r.build hp hN (fun a u _ e => same_new np _ _ e) (L := [p]) (by simp) (fun a m => .inl (by rw [List.mem_singleton.mp m]; exact np)) (.inl rfl) (fun j e => nomatch e) fun F' f1 f2 f3 hG => ?_
  show Own K _ _ _ _ (F' P.length)
  rw [f2]
  refine .lst upd_same (OwnL.flat ds f (DtL.flat (fun a xs q => ?_) ds f d))
  refine hG _ _ (r.sqt q)
theorem lift_cbN {ta : TA} {t : TA3} {r : List V → Hp → VK → Prop} {f : F3} (hf : NwF K r f) (hn : nones ats = true) (h : LiftA K N ats c ta t) : Lift K N c (tCB r ta) (tCBN f t) := by
  intro G0 pv B S T σ us H Q Q3 a q k
  have lS := a.lS
  have lσ := a.lσ
  have lu := a.lu
  refine h a q fun vs H1 es S1 l1 lv le lat r1 k1 q1 => ?_
  have r1' : R K N G0 H1 ((S1 ++ T) ++ es) ((σ ++ us) ++ vs.map some) := by simpa using r1
  have dl := get_all (P := S1 ++ T) (ps := σ ++ us) es vs r1' (by simp; omega) (by omega) (lat.full le hn)
  refine hf dl q1 fun p xs es2 np fl dv q2 => k _ _ _ .own S1 l1 ?_ (fun cc a u e => same_new np _ _ (k1 cc _ _ e)) q2
  have := R.newF (P := S1 ++ T) (ps := σ ++ us) r1' (by simp; omega) (by simp; omega) np fl dv
  simpa using this
/-- two operands, a new list of flat things -/
def OpN (K : PySem.W.Frag) (r : V → V → Hp → VK → Prop) (r3 : R23) : Prop :=
  ∀ {H : Hp} {x y : V} {dx dy : PyData} {Q : VK} {Q3 : PyData → Prop}, Dt K H x dx → Dt K H y dy → r3 dx dy Q3 → (∀ p xs es, H p = none → flatL es = true → DtL K H xs es → Q3 (.list es) → Q (.ref p) (upd H p (.lst xs))) → r x y H Q
def tOpN3 (r3 : R23) (ta tb : TE3) : TE3 := fun B S Q => ta B S fun d m S1 => tb (B.add m.bs) S1 fun e m2 S2 => r3 d e fun z => Q z .own S2
theorem lift_opN {c1 c2 : Bool} {ta tb : TE} {a3 b3 : TE3} {r : V → V → Hp → VK → Prop} {r3 : R23} (ho : OpN K r r3) (ha : Lift K N c1 ta a3) (hb : Lift K N c2 tb b3) : Lift K N (c1 && c2) (tOp r ta tb) (tOpN3 r3 a3 b3) := by
  intro G0 pv B S T σ us H Q Q3 a h k
  refine ha a h fun x H1 d m S1 l1 r1 c1' h1 => ?_
  have a1 := a.push l1 r1
  refine hb a1 h1 fun y H2 e m2 S2 l2 r2 c2' h2 => ?_
  have lσ := a.lσ
  have lu := a.lu
  have r2' : R K N G0 H2 ((S2 ++ T) ++ [some (d, m), some (e, m2)]) ((σ ++ us) ++ [x, y].map some) := by simpa using r2
  have dl := get_all (P := S2 ++ T) (ps := σ ++ us) [some (d, m), some (e, m2)] [x, y] r2' (by simp; omega) rfl (by simp)
  cases dl with
  | cons dx dl =>
  cases dl with
  | cons dy _ =>
  refine ho dx dy h2 fun p xs es np f dz q => k _ _ _ .own S2 l2 ?_ (fun cc a u e => ?_) q
  · have := R.newF (P := S2 ++ T) (ps := σ ++ us) (es := [some (d, m), some (e, m2)]) (ws := [x, y].map some) r2' (by simp; omega) (by simp; omega) np f dz
    simpa using this
  · simp at cc
    exact same_new np _ _ (c2' cc.2 _ _ (c1' cc.1 _ _ e))
/-! ### values: the rules -/
def fI2 (g : Int → Int → PyData) : R23 := fun a b Q => match a, b with | .int i, .int j => Q (g i j) | _, _ => False
theorem f_i2 {gv : Int → Int → V} {g : Int → Int → PyData} (hf : ∀ i j, flat (g i j) = true) (hg : ∀ i j H, Dt K H (gv i j) (g i j)) : OpF K (rI0 gv) (fI2 g) := by
  intro H x y dx dy Q Q3 hx hy h k
  unfold fI2 at h
  split at h
  · cases hx
    cases hy
    exact ⟨_, _, rfl, rfl, k _ _ _ (fun _ _ e => e) (hf _ _) (hg _ _ _) h⟩
  · exact h.elim
theorem f_add : OpF K (rI0 fun i j => .int (i + j)) (fI2 fun i j => .int (i + j)) := f_i2 (fun _ _ => rfl) fun _ _ _ => .int _
theorem f_sub : OpF K (rI0 fun i j => .int (i - j)) (fI2 fun i j => .int (i - j)) := f_i2 (fun _ _ => rfl) fun _ _ _ => .int _
theorem f_lt : OpF K (rI0 fun i j => .bl (decide (i < j))) (fI2 fun i j => .bool (decide (i < j))) := f_i2 (fun _ _ => rfl) fun _ _ _ => .bl _
theorem f_le : OpF K (rI0 fun i j => .bl (decide (i ≤ j))) (fI2 fun i j => .bool (decide (i ≤ j))) := f_i2 (fun _ _ => rfl) fun _ _ _ => .bl _
theorem f_gt : OpF K (rI0 fun i j => .bl (decide (i > j))) (fI2 fun i j => .bool (decide (i > j))) := f_i2 (fun _ _ => rfl) fun _ _ _ => .bl _
theorem f_ge : OpF K (rI0 fun i j => .bl (decide (i ≥ j))) (fI2 fun i j => .bool (decide (i ≥ j))) := f_i2 (fun _ _ => rfl) fun _ _ _ => .bl _
/-- == of atoms, and of data without dicts -/
def fEq (neg : Bool) : R23 := fun a b Q => match a, b with
  | .int i, .int j => Q (.bool (if neg then !decide (i = j) else decide (i = j)))
  | .str i, .str j => Q (.bool (if neg then !decide (i = j) else decide (i = j)))
  | _, _ => False
theorem dec_v {α : Type} [DecidableEq α] {f : α → V} (hf : ∀ a b, f a = f b → a = b) (a b : α) : decide (f a = f b) = decide (a = b) := by
  by_cases z : a = b
  · rw [z, decide_eq_true rfl, decide_eq_true rfl]
  · rw [decide_eq_false z, decide_eq_false fun y => z (hf _ _ y)]
theorem f_eq : OpF K rEq (fEq false) := by
  intro H x y dx dy Q Q3 hx hy h k
  unfold fEq at h
  split at h
  · cases hx
    cases hy
    refine ⟨rfl, ?_⟩
    rw [dec_v (f := V.int) (fun _ _ e => by injection e)]
    exact k _ _ _ (fun _ _ e => e) rfl (.bl _) h
  · cases hx
    cases hy
    refine ⟨rfl, ?_⟩
    rw [dec_v (f := V.str) (fun _ _ e => by injection e)]
    exact k _ _ _ (fun _ _ e => e) rfl (.bl _) h
  · exact h.elim
theorem f_ne : OpF K rNe (fEq true) := by
  intro H x y dx dy Q Q3 hx hy h k
  unfold fEq at h
  split at h
  · cases hx
    cases hy
    refine ⟨rfl, ?_⟩
    rw [dec_v (f := V.int) (fun _ _ e => by injection e)]
    exact k _ _ _ (fun _ _ e => e) rfl (.bl _) h
  · cases hx
    cases hy
    refine ⟨rfl, ?_⟩
    rw [dec_v (f := V.str) (fun _ _ e => by injection e)]
    exact k _ _ _ (fun _ _ e => e) rfl (.bl _) h
  · exact h.elim
def eqOk (a b : PyData) : Bool := noDict a && noDict b && SeqAt.shaped a && SeqAt.shaped b
def fEqD (neg : Bool) : R23 := fun a b Q => eqOk a b = true ∧ Q (.bool (if neg then !PyData.eqv a b else PyData.eqv a b))
theorem f_eqD : OpF K (rEqD K) (fEqD false) := by
  rintro H x y dx dy Q Q3 hx hy ⟨ok, h⟩ k
  have ok : ((noDict dx = true ∧ noDict dy = true) ∧ SeqAt.shaped dx = true) ∧ SeqAt.shaped dy = true := by simpa [eqOk] using ok
  exact ⟨dx, dy, hx.dp _ ok.1.1.1, hy.dp _ ok.1.1.2, ok.1.2, ok.2, k _ _ _ (fun _ _ e => e) rfl (.bl _) h⟩
theorem f_neD : OpF K (rNeD K) (fEqD true) := by
  rintro H x y dx dy Q Q3 hx hy ⟨ok, h⟩ k
  have ok : ((noDict dx = true ∧ noDict dy = true) ∧ SeqAt.shaped dx = true) ∧ SeqAt.shaped dy = true := by simpa [eqOk] using ok
  exact ⟨dx, dy, hx.dp _ ok.1.1.1, hy.dp _ ok.1.1.2, ok.1.2, ok.2, k _ _ _ (fun _ _ e => e) rfl (.bl _) h⟩
/-! subscripts -/
def selL : PyData → PyData → Option PyData
  | .list ds, .int i => atI ds i
  | _, _ => none
def selT : PyData → PyData → Option PyData
  | .tuple ds, .int i => atI ds i
  | _, _ => none
theorem DtL.atI {xs : List V} {ds : List PyData} {i : Int} {e : PyData} (h : DtL K H xs ds) (he : L2.atI ds i = some e) : ∃ v, L2.atI xs i = some v ∧ Dt K H v e := by
  unfold L2.atI at he ⊢
  rw [h.len]
  cases q : ixN ds.length i with
  | none => rw [q] at he; cases he
  | some j =>
    rw [q] at he
    exact h.of j e he
theorem p_list : PtF K (rIxL K) selL := by
  intro H x y dx dy e Q hx hy h k
  cases dx <;> cases dy <;> first | (simp [selL] at h; done) | skip
  rename_i ds i
  have h : atI ds i = some e := h
  cases hy
  cases hx with
  | lst a b =>
  rename_i p xs
  obtain ⟨v, hv, dv⟩ := b.atI h
  refine ⟨p, xs, i, v, rfl, rfl, .inl (.inl a), hv, k v fun G hG dG => ?_⟩
  cases dG with
  | lst a' b' =>
    have := hG _ _ a'
    rw [a] at this
    cases this
    obtain ⟨v', hv', dv'⟩ := b'.atI h
    rw [hv] at hv'
    cases hv'
    exact dv'
theorem p_tup : PtF K (rIxT K) selT := by
  intro H x y dx dy e Q hx hy h k
  cases dx <;> cases dy <;> first | (simp [selT] at h; done) | skip
  rename_i ds i
  have h : atI ds i = some e := h
  cases hy
  cases hx with
  | tup a b =>
  rename_i p xs
  obtain ⟨v, hv, dv⟩ := b.atI h
  refine ⟨p, xs, i, v, rfl, rfl, .inl (.inl a), hv, k v fun G hG dG => ?_⟩
  cases dG with
  | tup a' b' =>
    have := hG _ _ a'
    rw [a] at this
    cases this
    obtain ⟨v', hv', dv'⟩ := b'.atI h
    rw [hv] at hv'
    cases hv'
    exact dv'
/-- the key of a dict -/
def keyO : PyData → Option Key
  | .int i => some (.inl i)
  | .str x => some (.inr x)
  | _ => none
theorem keyO_kD (k : Key) : keyO (kD k) = some k := by cases k <;> rfl
def keysO : List PyData → Option (List Key)
  | [] => some []
  | d :: ds => match keyO d, keysO ds with | some k, some ks => some (k :: ks) | _, _ => none
theorem keysO_kD : ∀ ks : List Key, keysO (ks.map kD) = some ks
  | [] => rfl
  | k :: ks => by
    show (match keyO (kD k), keysO (ks.map kD) with | some k, some ks => some (k :: ks) | _, _ => none) = _
    rw [keyO_kD, keysO_kD ks]
/-- two keys are the same -/
def keq : PyData → PyData → Bool
  | .int i, .int j => decide (i = j)
  | .str x, .str y => decide (x = y)
  | .tuple a, .tuple b => match keysO a, keysO b with | some k, some l => decide (k = l) | _, _ => false
  | _, _ => false
/-- may be a key -/
def isKey : PyData → Bool
  | .int _ => true
  | .str _ => true
  | .tuple a => (keysO a).isSome
  | _ => false
def dlook (ds : List (PyData × PyData)) (k : PyData) : Option PyData := (ds.find? fun p => keq p.1 k).map (·.2)
end
end L2.Fb.T

namespace L2.Fb.T
open PySem PySem.Spec
open PyProof.Rows
section
variable {K : PySem.W.Frag} {N : Nat} {G0 G H H' : Hp} {c c1 c2 : Bool} {S S' T P : S3} {σ : St} {us ps : List (Option V)} {te : TE} {t t1 t2 : TE3} {pv : PV} {B : Bs} {es A : List (Option Ent)} {ws : List (Option V)} {vs : List V} {ats : List (Option Nat)}
/-! ### dicts -/
theorem keq_k (k l : Key) : keq (kD k) (kD l) = decide (k = l) := by
  cases k <;> cases l <;> simp [keq, kD]
theorem keq_t (k l : List Key) : keq (kT k) (kT l) = decide (k = l) := by
  show (match keysO (k.map kD), keysO (l.map kD) with | some k, some l => decide (k = l) | _, _ => false) = _
  rw [keysO_kD, keysO_kD]
theorem keq_kt (k : Key) (l : List PyData) : keq (kD k) (.tuple l) = false := by cases k <;> rfl
theorem keyO_some {d : PyData} {k : Key} (h : keyO d = some k) : d = kD k := by
  cases d <;> simp [keyO] at h <;> subst h <;> rfl
theorem keysO_some : ∀ {ds : List PyData} {ks : List Key}, keysO ds = some ks → ds = ks.map kD
  | [], ks, h => by cases h; rfl
  | d :: ds, ks, h => by
    unfold keysO at h
    cases q1 : keyO d with
    | none => rw [q1] at h; cases h
    | some k =>
      cases q2 : keysO ds with
      | none => rw [q1, q2] at h; cases h
      | some l =>
        rw [q1, q2] at h
        cases h
        rw [keyO_some q1, keysO_some q2]
        rfl
theorem key_at {v : V} {k : Key} (h : Dt K H v (kD k)) : v = kV k := by cases k <;> (cases h; rfl)
theorem keys_at : ∀ {xs : List V} {ks : List Key}, DtL K H xs (ks.map kD) → xs = ks.map kV
  | [], [], _ => rfl
  | x :: xs, k :: ks, h => by
    have h : DtL K H (x :: xs) (kD k :: ks.map kD) := h
    cases h with
    | cons a b => rw [key_at a, keys_at b]; rfl
  | [], k :: ks, h => by
    have h : DtL K H [] (kD k :: ks.map kD) := h
    cases h
  | x :: xs, [], h => by cases h
theorem tkey_at {v : V} {k : List Key} (h : Dt K H v (kT k)) : ∃ b, v = .ref b ∧ H b = some (.tup (k.map kV)) := by
  have h : Dt K H v (.tuple (k.map kD)) := h
  cases h with
  | tup a b => exact ⟨_, rfl, by rw [a, keys_at b]⟩
theorem dlook_cons (p : PyData × PyData) (ds : List (PyData × PyData)) (k : PyData) : dlook (p :: ds) k = if keq p.1 k = true then some p.2 else dlook ds k := by
  unfold dlook
  rw [List.find?_cons]
  cases z : keq p.1 k <;> simp [z]
theorem DtK.look : ∀ {ks : List (Key × V)} {ds : List (PyData × PyData)} (k : Key), DtK K H ks ds → (∀ e, dlook ds (kD k) = some e → ∃ v, valV ks k = some v ∧ Dt K H v e) ∧ (dlook ds (kD k) = none → valV ks k = none)
  | _, _, k, .nil => ⟨fun e h => (by cases h), fun _ => rfl⟩
  | _, _, k, .cons (k := k') (v := v) (r := r) (d := d) (ds := ds) a b => by
    obtain ⟨h1, h2⟩ := DtK.look k b
    rw [dlook_cons]
    show (∀ e, (if keq (kD k') (kD k) = true then some d else dlook ds (kD k)) = some e → _) ∧ _
    rw [keq_k]
    by_cases z : k' = k
    · rw [decide_eq_true z, if_pos rfl]
      exact ⟨fun e h => (by cases h; exact ⟨v, valV_pos z, a⟩), fun h => (by cases h)⟩
    · rw [decide_eq_false z, if_neg Bool.false_ne_true]
      rw [valV_neg z]
      exact ⟨h1, h2⟩
theorem DtT.look : ∀ {ks : List (List Key × V)} {ds : List (PyData × PyData)} (k : List Key), DtT K H ks ds → (∀ e, dlook ds (kT k) = some e → ∃ v, valV ks k = some v ∧ Dt K H v e) ∧ (dlook ds (kT k) = none → valV ks k = none)
  | _, _, k, .nil => ⟨fun e h => (by cases h), fun _ => rfl⟩
  | _, _, k, .cons (k := k') (v := v) (r := r) (d := d) (ds := ds) a b => by
    obtain ⟨h1, h2⟩ := DtT.look k b
    rw [dlook_cons]
    show (∀ e, (if keq (kT k') (kT k) = true then some d else dlook ds (kT k)) = some e → _) ∧ _
    rw [keq_t]
    by_cases z : k' = k
    · rw [decide_eq_true z, if_pos rfl]
      exact ⟨fun e h => (by cases h; exact ⟨v, valV_pos z, a⟩), fun h => (by cases h)⟩
    · rw [decide_eq_false z, if_neg Bool.false_ne_true]
      rw [valV_neg z]
      exact ⟨h1, h2⟩
theorem rd_inj {a : Addr} {ks ls : List (Key × V)} (h : Rd H a (.dK ks)) (h' : Rd H a (.dK ls)) : ks = ls := by
  rcases h with h | ⟨o, h⟩ <;> rcases h' with h' | ⟨o', h'⟩ <;> rw [h] at h' <;> cases h' <;> rfl
theorem rd_injT {a : Addr} {ks ls : List (List Key × V)} (h : Rd H a (.dT ks)) (h' : Rd H a (.dT ls)) : ks = ls := by
  rcases h with h | ⟨o, h⟩ <;> rcases h' with h' | ⟨o', h'⟩ <;> rw [h] at h' <;> cases h' <;> rfl
theorem rd_KT {a : Addr} {ks : List (Key × V)} {ls : List (List Key × V)} (h : Rd H a (.dK ks)) (h' : Rd H a (.dT ls)) : False := by
  rcases h with h | ⟨o, h⟩ <;> rcases h' with h' | ⟨o', h'⟩ <;> rw [h] at h' <;> cases h'
/-- a dict and a key that suits it: what is got -/
def isT : List (PyData × PyData) → Bool | (.none, _) :: _ => true | _ => false
def keyOk (ds : List (PyData × PyData)) : PyData → Bool
  | .int _ => !isT ds
  | .str _ => !isT ds
  | .tuple a => isT ds && (keysO a).isSome
  | _ => false
theorem dget_of {x y : V} {ds : List (PyData × PyData)} {k : PyData} (hx : Dt K H x (.dict ds)) (hy : Dt K H y k) (ok : keyOk ds k = true) : ∃ a o, x = .ref a ∧ DGet H a y o ∧ (dlook ds k = none → o = none) ∧ ∀ e, dlook ds k = some e → ∃ v, o = some v ∧ Dt K H v e ∧ ∀ G, Same G H → Dt K G x (.dict ds) → Dt K G v e := by
  cases hx with
  | dct a b =>
    rename_i p ks
    have hk : ∃ k', k = kD k' := by
      cases k with
      | int i => exact ⟨.inl i, rfl⟩
      | str z => exact ⟨.inr z, rfl⟩
      | tuple l =>
        cases b <;> simp [keyOk, isT] at ok
        rename_i k' _ _ _ _ _ _
        cases k' <;> simp [kD] at ok
      | _ => simp [keyOk] at ok
    obtain ⟨k', rfl⟩ := hk
    obtain ⟨h1, h2⟩ := b.look k'
    refine ⟨p, valV ks k', rfl, .inl ⟨ks, k', a, key_at hy, rfl⟩, h2, fun e he => ?_⟩
    obtain ⟨v, hv, dv⟩ := h1 e he
    refine ⟨v, hv, dv, fun G hG dG => ?_⟩
    cases dG with
    | dct a' b' =>
      have := rd_inj (same_le hG _ _ a') a
      subst this
      obtain ⟨v', hv', dv'⟩ := (b'.look k').1 e he
      rw [hv] at hv'
      cases hv'
      exact dv'
    | dtt a' b' => exact (rd_KT a (same_le hG _ _ a')).elim
  | dtt a b =>
    rename_i p ks ds
    have hk : ∃ k', k = kT k' := by
      cases k with
      | tuple l =>
        have ok : (keysO l).isSome = true := by simpa [keyOk, isT] using ok
        obtain ⟨k', h'⟩ := Option.isSome_iff_exists.mp ok
        exact ⟨k', by rw [keysO_some h']; rfl⟩
      | _ => simp [keyOk, isT] at ok
    obtain ⟨k', rfl⟩ := hk
    have skip : ∀ e, dlook ((.none, .none) :: ds) (kT k') = e ↔ dlook ds (kT k') = e := fun e => by
      rw [dlook_cons]
      exact Iff.rfl
    obtain ⟨h1, h2⟩ := b.look k'
    obtain ⟨b0, rfl, hb0⟩ := tkey_at hy
    refine ⟨p, valV ks k', rfl, .inr ⟨ks, k', b0, a, rfl, hb0, rfl⟩, fun z => h2 ((skip _).mp z), fun e he => ?_⟩
    obtain ⟨v, hv, dv⟩ := h1 e ((skip _).mp he)
    refine ⟨v, hv, dv, fun G hG dG => ?_⟩
    cases dG with
    | dct a' b' => exact (rd_KT (same_le hG _ _ a') a).elim
    | dtt a' b' =>
      have := rd_injT (same_le hG _ _ a') a
      subst this
      obtain ⟨v', hv', dv'⟩ := (b'.look k').1 e ((skip _).mp he)
      rw [hv] at hv'
      cases hv'
      exact dv'
def selD : PyData → PyData → Option PyData
  | .dict ds, k => if keyOk ds k = true then dlook ds k else none
  | _, _ => none
def rDGet (x y : V) (H : Hp) (Q : VK) : Prop := ∃ a v, x = .ref a ∧ DGet H a y (some v) ∧ Q v H
theorem p_dget : PtF K rDGet selD := by
  intro H x y dx dy e Q hx hy h k
  cases dx with
  | dict ds =>
    have h : (if keyOk ds dy = true then dlook ds dy else none) = some e := h
    split at h
    · rename_i ok
      obtain ⟨a, o, rfl, dg, _, h2⟩ := dget_of hx hy ok
      obtain ⟨v, rfl, dv, hv⟩ := h2 e h
      exact ⟨a, v, rfl, dg, k v hv⟩
    · cases h
  | _ => simp [selD] at h
/-- k in d, k not in d -/
def fIn (neg : Bool) : R23 := fun k d Q => match d with | .dict ds => keyOk ds k = true ∧ ∃ o, dlook ds k = o ∧ Q (.bool (if neg then !o.isSome else o.isSome)) | _ => False
def rDIn (neg : Bool) (y x : V) (H : Hp) (Q : VK) : Prop := ∃ a o, x = .ref a ∧ DGet H a y o ∧ Q (.bl (if neg then !o.isSome else o.isSome)) H
theorem f_in (neg : Bool) : OpF K (rDIn neg) (fIn neg) := by
  intro H x y dx dy Q Q3 hx hy h k
  cases dy with
  | dict ds =>
    obtain ⟨ok, _, rfl, h⟩ := h
    obtain ⟨a, o, rfl, dg, h1, h2⟩ := dget_of hy hx ok
    have e : o.isSome = (dlook ds dx).isSome := by
      cases q : dlook ds dx with
      | none => rw [h1 q]; rfl
      | some e =>
        obtain ⟨v, rfl, _⟩ := h2 e q
        rfl
    refine ⟨a, o, rfl, dg, ?_⟩
    rw [e]
    exact k _ _ _ (fun _ _ e => e) rfl (.bl _) h
  | _ => exact h.elim
/-! ### len, isinstance -/
def fLen : F3 := fun ds Q => match ds with
  | [.list l] => Q (.int (l.length : Nat))
  | [.tuple l] => Q (.int (l.length : Nat))
  | _ => False
theorem f_len : FlF K (fun xs H Q => ∃ p ys, xs = [V.ref p] ∧ (SqL K H p ys ∨ SqT K H p ys) ∧ Q (.int ys.length) H) fLen := by
  intro H vs ds Q Q3 hd h k
  unfold fLen at h
  split at h
  · cases hd with
    | cons a b =>
    cases b
    cases a with
    | lst a b =>
      refine ⟨_, _, rfl, .inl (.inl (.inl a)), ?_⟩
      rw [b.len]
      exact k _ _ _ (fun _ _ e => e) rfl (.int _) h
  · cases hd with
    | cons a b =>
    cases b
    cases a with
    | tup a b =>
      refine ⟨_, _, rfl, .inr (.inl (.inl a)), ?_⟩
      rw [b.len]
      exact k _ _ _ (fun _ _ e => e) rfl (.int _) h
  · exact h.elim
def fLenS : F3 := fun ds Q => match ds with | [.str x] => x.length ≤ 50000 ∧ Q (.int (x.length : Nat)) | _ => False
/-- isinstance(x, T) -/
def isOf : String → PyData → Bool
  | "str" => isStr
  | "int" => isInt
  | "bool" => isBool
  | "list" => isList
  | "tuple" => isTuple
  | "dict" => isDict
  | _ => fun _ => false
def fIsi (T : String) : F3 := fun ds Q => match ds with | [d] => tk d = true ∧ Q (.bool (isOf T d)) | _ => False
end
end L2.Fb.T

namespace L2.Fb.T
open PySem PySem.Spec
open PyProof.Rows
section
variable {K : PySem.W.Frag} {N : Nat} {G0 G H H' : Hp} {c c1 c2 : Bool} {S S' T P : S3} {σ : St} {us ps : List (Option V)} {te : TE} {t t1 t2 : TE3} {pv : PV} {B : Bs} {es A : List (Option Ent)} {ws : List (Option V)} {vs : List V} {ats : List (Option Nat)}
/-- slot i is another thing now: what was borrowed of it is gone -/
def mset (i : Nat) (d : PyData) (S : S3) : S3 := aft [some i] [d] 0 S
theorem mset_len (i : Nat) (d : PyData) (S : S3) : (mset i d S).length = S.length := aft_len _ _ _ _
theorem mset_get (i : Nat) (d : PyData) (S : S3) (k : Nat) : (mset i d S)[k]? = (S[k]?).map fun e => if i = k then some (d, .own) else killE [some i] e := by
  unfold mset
  rw [aft_get, Nat.zero_add]
  congr 1
  funext e
  show (match (if i = k then some d else none) with | some d => _ | none => _) = _
  by_cases z : i = k
  · rw [if_pos z, if_pos z]
  · rw [if_neg z, if_neg z]
/-- slot i changed where it stands, what is held gives way to one new thing -/
theorem Rel.mut {F : Nat → List Addr} {i : Nat} {d0 d' : PyData} {e : Ent} {v : V} {Li Lr : List Addr} {xs : List (Option V)} (r : Rel K N G0 H F ((S ++ T) ++ es) ((σ ++ us) ++ xs)) (lS : S.length = N) (lσ : σ.length = N) (lu : us.length = T.length) (hi : S[i]? = some (some (d0, .own))) (hT : ∀ d, some (d, Md.bor i) ∉ T)
    (keep : ∀ a u, a ∉ F i → (∀ k, N + T.length ≤ k → a ∉ F k) → H a = some u → H' a = some u) (nd : (Li ++ Lr).Nodup) (new : ∀ a ∈ Li ++ Lr, H a = none ∨ a ∈ F i ∨ ∃ k, N + T.length ≤ k ∧ a ∈ F k)
    (hm : (e.2 = .own) ∨ (e.2 = .shr ∧ flat e.1 = true ∧ Lr = [])) (mu : ∀ a ∈ Li ++ Lr, ∃ u, H' a = some u ∧ Mu u)
    (ok : ∀ G' w, Same (Gof H F) G' → (∀ a xs, H' a = some (.tup xs) → G' a = some (.tup xs)) → σ[i]? = some (some w) → Own K (Gof H F) H w d0 (F i) → Own K G' H' w d' Li ∧ (e.2 = .own → Own K G' H' v e.1 Lr) ∧ (e.2 = .shr → Dt K H' v e.1)) :
    R K N G0 H' ((mset i d' S ++ T) ++ [some e]) ((σ ++ us) ++ [some v]) := by
  have lt : i < N := by
    obtain ⟨lt, _⟩ := List.getElem?_eq_some_iff.mp hi
    omega
  have ln : (S ++ T).length = N + T.length := by simp [lS]
  have lm : (mset i d' S ++ T).length = N + T.length := by simp [mset_len, lS]
  have inP : ∀ {k : Nat} {x : Option Ent}, k < N + T.length → (S ++ T)[k]? = some x → ((S ++ T) ++ es)[k]? = some x := fun {k x} h e => by rw [List.getElem?_append_left (by omega)]; exact e
  obtain ⟨nL, nR, nLR⟩ := List.nodup_append.mp nd
  let F' : Nat → List Addr := fun k => if k = i then Li else if k = N + T.length then Lr else if N + T.length < k then [] else F k
  have Fi : F' i = Li := if_pos rfl
  have Fr : F' (N + T.length) = Lr := by show (if _ then _ else if _ then _ else _) = _; rw [if_neg (by omega), if_pos rfl]
  have Fg : ∀ {k}, N + T.length < k → F' k = [] := fun {k} h => by show (if _ then _ else if _ then _ else if _ then _ else _) = _; rw [if_neg (by omega), if_neg (by omega), if_pos h]
  have Fk : ∀ {k}, k ≠ i → k < N + T.length → F' k = F k := fun {k} h h' => by show (if _ then _ else if _ then _ else if _ then _ else _) = _; rw [if_neg h, if_neg (by omega), if_neg (by omega)]
  obtain ⟨w, w1, w2⟩ := r.ent i (d0, .own) (inP (by omega) (by rw [List.getElem?_append_left (by omega)]; exact hi))
  have wσ : σ[i]? = some (some w) := by
    rw [List.getElem?_append_left (by simp; omega), List.getElem?_append_left (by omega)] at w1
    exact w1
  have tup : ∀ a xs, H' a = some (.tup xs) → Gof H' F' a = some (.tup xs) := fun a xs q => by
    rw [gof_of fun k m => ?_]
    · exact q
    · by_cases z : k = i
      · rw [z, Fi] at m
        obtain ⟨u, e1, e2⟩ := mu a (List.mem_append_left _ m)
        rw [q] at e1; cases e1; exact e2
      · by_cases y : k = N + T.length
        · rw [y, Fr] at m
          obtain ⟨u, e1, e2⟩ := mu a (List.mem_append_right _ m)
          rw [q] at e1; cases e1; exact e2
        · by_cases x : N + T.length < k
          · rw [Fg x] at m; cases m
          · rw [Fk z (by omega)] at m
            obtain ⟨u, e1, e2⟩ := r.here m
            have := keep a u (fun m' => z (r.sep _ _ _ m m')) (fun j hj m' => by have := r.sep _ _ _ m m'; omega) e1
            rw [q] at this; cases this; exact e2
  refine ⟨F', r.big (fun k => k = i ∨ N + T.length ≤ k) (by simp [mset_len]; omega) (fun a u h e => keep a u (h i (.inl rfl)) (fun k hk => h k (.inr hk)) e) (fun k hk => .inl (Fk (fun z => hk (.inl z)) (by have : ¬ N + T.length ≤ k := fun z => hk (.inr z); omega))) (fun k a hk m => ?_) (fun k hk => ?_) (fun k j a hk hj mk mj => ?_) (fun k x h => ?_) (fun k h => ?_) fun k d j h => ?_⟩
  · have g : a ∈ Li ++ Lr := by
      rcases hk with rfl | hk
      · rw [Fi] at m; exact List.mem_append_left _ m
      · by_cases z : k = N + T.length
        · rw [z, Fr] at m; exact List.mem_append_right _ m
        · rw [Fg (by omega)] at m; cases m
    rcases new a g with q | q | ⟨j, hj, q⟩
    · exact .inl q
    · exact .inr ⟨i, .inl rfl, q⟩
    · exact .inr ⟨j, .inr hj, q⟩
  · rcases hk with rfl | hk
    · rw [Fi]; exact nL
    · by_cases z : k = N + T.length
      · rw [z, Fr]; exact nR
      · rw [Fg (by omega)]; exact List.nodup_nil
  · have g : ∀ {k}, (k = i ∨ N + T.length ≤ k) → a ∈ F' k → (k = i ∧ a ∈ Li) ∨ (k = N + T.length ∧ a ∈ Lr) := fun {k} hk m => by
      rcases hk with rfl | hk
      · rw [Fi] at m; exact .inl ⟨rfl, m⟩
      · by_cases z : k = N + T.length
        · rw [z, Fr] at m; exact .inr ⟨z, m⟩
        · rw [Fg (by omega)] at m; cases m
    rcases g hk mk with ⟨a1, a2⟩ | ⟨a1, a2⟩ <;> rcases g hj mj with ⟨b1, b2⟩ | ⟨b1, b2⟩
    · omega
    · exact absurd rfl (nLR a a2 a b2)
    · exact absurd rfl (nLR a b2 a a2)
    · omega
  · by_cases z : k < N + T.length
    · rw [List.getElem?_append_left (by omega)] at h
      by_cases zN : k < N
      · rw [List.getElem?_append_left (by rw [mset_len]; omega), mset_get] at h
        cases q : S[k]? with
        | none => rw [q] at h; cases h
        | some e0 =>
          rw [q] at h
          have h : (if i = k then some (d', Md.own) else killE [some i] e0) = some x := Option.some.inj h
          by_cases y : i = k
          · subst y
            rw [if_pos rfl] at h
            cases h
            refine .inr fun hG => ⟨w, by rw [List.getElem?_append_left (by simp; omega), List.getElem?_append_left (by omega)]; exact wσ, ?_⟩
            show Own K _ H' w d' (F' i)
            rw [Fi]
            exact (ok _ w hG tup wσ w2).1
          · rw [if_neg y] at h
            have h0 : e0 = some x ∧ x.2 ≠ .bor i := by
              cases e0 with
              | none => cases h
              | some p =>
                obtain ⟨d, m0⟩ := p
                cases m0 with
                | shr => cases h; exact ⟨rfl, fun z => nomatch z⟩
                | own => cases h; exact ⟨rfl, fun z => nomatch z⟩
                | bor j =>
                  have h : (if [some i].contains (some j) = true then none else some (d, Md.bor j)) = some x := h
                  by_cases zz : j = i
                  · simp [zz] at h
                  · have : [some i].contains (some j) = false := by simp [zz]
                    rw [this, if_neg Bool.false_ne_true] at h
                    cases h
                    exact ⟨rfl, fun q => zz (by cases q; rfl)⟩
            obtain ⟨rfl, nb⟩ := h0
            have hP := inP (k := k) (x := some x) (by omega) (by rw [List.getElem?_append_left (by omega)]; exact q)
            refine .inl ⟨fun hk => hk.elim (fun e => y e.symm) (by omega), hP, ?_, fun _ => Fk (fun e => y e.symm) z, fun j ej hk => ?_⟩
            · rw [List.getElem?_append_left (l₁ := σ ++ us) (by simp; omega), List.getElem?_append_left (l₁ := σ ++ us) (by simp; omega)]
            · have := r.bnd k x.1 j (by rw [← ej]; exact hP)
              rcases hk with rfl | hk
              · exact nb ej
              · omega
      · rw [List.getElem?_append_right (by rw [mset_len]; omega), mset_len] at h
        have hP := inP (k := k) (x := some x) (by omega) (by rw [List.getElem?_append_right (by omega)]; exact h)
        refine .inl ⟨fun hk => hk.elim (by omega) (by omega), hP, ?_, fun _ => Fk (by omega) z, fun j ej hk => ?_⟩
        · rw [List.getElem?_append_left (l₁ := σ ++ us) (by simp; omega), List.getElem?_append_left (l₁ := σ ++ us) (by simp; omega)]
        · have := r.bnd k x.1 j (by rw [← ej]; exact hP)
          rcases hk with rfl | hk
          · exact hT x.1 (by rw [← ej]; exact List.mem_of_getElem? h)
          · omega
    · obtain ⟨lt', _⟩ := List.getElem?_eq_some_iff.mp h
      have : k = N + T.length := by simp [mset_len, lS] at lt'; omega
      subst this
      rw [List.getElem?_append_right (by omega), lm, Nat.sub_self] at h
      cases h
      refine .inr fun hG => ⟨v, by rw [List.getElem?_append_right (by simp; omega), show N + T.length - (σ ++ us).length = 0 by simp; omega]; rfl, ?_⟩
      obtain ⟨_, o1, o2⟩ := ok _ w hG tup wσ w2
      obtain ⟨ed, em⟩ := e
      rcases hm with rfl | ⟨rfl, fl, _⟩
      · show Own K _ H' v ed (F' (N + T.length))
        rw [Fr]
        exact o1 rfl
      · exact Dt.flat tup ed fl (o2 rfl)
  · by_cases z : k = i
    · subst z
      refine absurd ?_ (h d')
      rw [List.getElem?_append_left (by omega), List.getElem?_append_left (by rw [mset_len]; omega), mset_get, hi]
      show some (if k = k then some (d', Md.own) else _) = _
      rw [if_pos rfl]
    · by_cases y : k = N + T.length
      · subst y
        rw [Fr]
        rcases hm with q | ⟨_, _, q⟩
        · refine absurd ?_ (h e.1)
          rw [List.getElem?_append_right (by omega), lm, Nat.sub_self, ← q]
          rfl
        · exact q
      · by_cases x : N + T.length < k
        · exact Fg x
        · rw [Fk z (by omega)]
          refine r.empt k fun d q => h d ?_
          rw [List.getElem?_append_left (by omega)] at q ⊢
          by_cases zN : k < N
          · rw [List.getElem?_append_left (by omega)] at q
            rw [List.getElem?_append_left (by rw [mset_len]; omega), mset_get, q]
            show some (if i = k then _ else _) = _
            rw [if_neg fun e => z e.symm]
            rfl
          · rw [List.getElem?_append_right (by omega)] at q
            rw [List.getElem?_append_right (by rw [mset_len]; omega), mset_len]
            exact q
  · by_cases z : k < N + T.length
    · rw [List.getElem?_append_left (by omega)] at h
      by_cases zN : k < N
      · rw [List.getElem?_append_left (by rw [mset_len]; omega), mset_get] at h
        cases q : S[k]? with
        | none => rw [q] at h; cases h
        | some e0 =>
          rw [q] at h
          have h : (if i = k then some (d', Md.own) else killE [some i] e0) = some (d, Md.bor j) := Option.some.inj h
          by_cases y : i = k
          · rw [if_pos y] at h; cases h
          · rw [if_neg y] at h
            have h0 : e0 = some (d, .bor j) := by
              cases e0 with
              | none => cases h
              | some p =>
                obtain ⟨d2, m0⟩ := p
                cases m0 with
                | shr => cases h
                | own => cases h
                | bor j' =>
                  have h : (if [some i].contains (some j') = true then none else some (d2, Md.bor j')) = some _ := h
                  split at h
                  · cases h
                  · cases h; rfl
            exact r.bnd k d j (inP (by omega) (by rw [List.getElem?_append_left (by omega), q, h0]))
      · rw [List.getElem?_append_right (by rw [mset_len]; omega), mset_len] at h
        exact r.bnd k d j (inP (by omega) (by rw [List.getElem?_append_right (by omega)]; exact h))
    · obtain ⟨lt', _⟩ := List.getElem?_eq_some_iff.mp h
      have : k = N + T.length := by simp [mset_len, lS] at lt'; omega
      subst this
      rw [List.getElem?_append_right (by omega), lm, Nat.sub_self] at h
      obtain ⟨ed, em⟩ := e
      cases h
      rcases hm with q | ⟨q, _⟩ <;> cases q
end
end L2.Fb.T

namespace L2.Fb.T
open PySem PySem.Spec
open PyProof.Rows
section
variable {K : PySem.W.Frag} {N : Nat} {G0 G H H' : Hp} {c c1 c2 : Bool} {S S' T P : S3} {σ : St} {us ps : List (Option V)} {te : TE} {t t1 t2 : TE3} {pv : PV} {B : Bs} {es A : List (Option Ent)} {ws : List (Option V)} {vs : List V} {ats : List (Option Nat)}
/-- what is held at place k, its own places -/
theorem Rel.ownOr {F : Nat → List Addr} {k : Nat} {d : PyData} {m : Md} {v : V} (r : Rel K N G0 H F S ws) (h : S[k]? = some (some (d, m))) (hv : ws[k]? = some (some v)) (hm : flat d = true ∨ m = .own) : ∃ L, Own K (Gof H F) H v d L ∧ L.Nodup ∧ (∀ a ∈ L, a ∈ F k) := by
  obtain ⟨v', q1, q2⟩ := r.ent k _ h
  rw [hv] at q1
  cases q1
  rcases hm with f | rfl
  · exact ⟨[], Own.flat d f (Dt.flat (fun a xs q => r.sqt q) d f (q2.dt (gof_same H F))), List.nodup_nil, fun a m => by cases m⟩
  · exact ⟨F k, q2, r.nodup _, fun _ m => m⟩
theorem bnot {i : Nat} (a : At K N G0 pv B S T σ us H) (h : B.br.contains i = false) : ∀ d, some (d, Md.bor i) ∉ T := fun d m => by
  have := a.b d i m
  simp [this] at h
/-! ### a list's methods -/
def tApp3 (i : Nat) (t : TA3) : TE3 := fun B S Q => (match S[i]? with | some (some (.list _, _)) => True | _ => False) ∧ t B S fun es S1 =>
  match S1[i]?, es with
  | some (some (.list ds, .own)), [some (d, m)] => if B.br.contains i = true then False else ds.length < 50000 ∧ (flat d = true ∨ m = .own) ∧ Q .none .shr (mset i (.list (ds ++ [d])) S1)
  | _, _ => False
theorem lift_app {i : Nat} (hi : i < N) {ta : TA} {t : TA3} (hn : nones ats = true) (h : LiftA K N ats c ta t) : Lift K N false (tBM K "list" rAppend (tVar i) ta) (tApp3 i t) := by
  intro G0 pv B S T σ us H Q Q3 a ⟨q0, q⟩ k
  have lS := a.lS
  have lσ := a.lσ
  have lu := a.lu
  have line : 50000 < sizeLine := by decide
  split at q0
  · rename_i ds0 m0 e0
    obtain ⟨v, hv, dv⟩ := a.get e0
    refine ⟨v, hv, ?_, ?_⟩
    · cases dv with
      | lst x y => exact .inl ⟨rfl, _, .inl (.inl x)⟩
    · refine h a q fun vs H1 es S1 l1 lv le lat r1 k1 q1 => ?_
      split at q1
      · rename_i ds d m e1
        cases hb : B.br.contains i with
        | true => rw [hb, if_pos rfl] at q1; exact q1.elim
        | false =>
        rw [hb, if_neg Bool.false_ne_true] at q1
        obtain ⟨hz, hm, q1⟩ := q1
        obtain ⟨y, rfl⟩ : ∃ y, vs = [y] := by
          cases vs with
          | nil => simp at lv le; omega
          | cons y r =>
            cases r with
            | nil => exact ⟨y, rfl⟩
            | cons _ _ => simp at lv le; omega
        obtain ⟨F, r1⟩ := r1
        have r1' : Rel K N G0 H1 F ((S1 ++ T) ++ [some (d, m)]) ((σ ++ us) ++ [some y]) := by simpa using r1
        have e1' : ((S1 ++ T) ++ [some (d, m)])[i]? = some (some (.list ds, .own)) := by
          obtain ⟨lt, _⟩ := List.getElem?_eq_some_iff.mp e1
          rw [List.getElem?_append_left (by simp; omega), List.getElem?_append_left lt]; exact e1
        obtain ⟨w, w1, w2⟩ := r1'.ent i _ e1'
        rw [List.getElem?_append_left (by simp; omega), List.getElem?_append_left (by omega), hv] at w1
        cases w1
        have w2 : Own K (Gof H1 F) H1 v (.list ds) (F i) := w2
        obtain ⟨Ld, oD, ndD, hD⟩ := r1'.ownOr (k := N + T.length) (d := d) (m := m) (v := y) (by rw [List.getElem?_append_right (by simp; omega), show N + T.length - (S1 ++ T).length = 0 by simp; omega]; rfl)
          (by rw [List.getElem?_append_right (by simp; omega), show N + T.length - (σ ++ us).length = 0 by simp; omega]; rfl) hm
        generalize hF : F i = Fi at w2
        cases w2 with
        | lst hl ol =>
        rename_i l xs Fc
        have nd0 := r1'.nodup i
        rw [hF] at nd0
        obtain ⟨n1, n2⟩ := List.nodup_cons.mp nd0
        have li : l ∈ F i := by rw [hF]; exact List.mem_cons_self ..
        have Dl : ∀ x ∈ Ld, x ∉ F i := fun x mx mi => by have := r1'.sep _ _ _ (hD x mx) mi; omega
        have lD : l ∉ Ld := fun mm => Dl l mm li
        have keep : ∀ b u, b ≠ l → H1 b = some u → upd H1 l (.lst (xs ++ [y])) b = some u := fun b u ne e => by rw [upd_ne ne]; exact e
        refine ⟨l, xs, y, rfl, rfl, hl, by rw [ol.len]; omega, ?_⟩
        refine k _ _ .none .shr (mset i (.list (ds ++ [d])) S1) (by rw [mset_len]; exact l1) ?_ (fun e => nomatch e) q1
        have := Rel.mut (i := i) (d0 := .list ds) (d' := .list (ds ++ [d])) (e := (.none, .shr)) (v := .non) (Li := l :: (Fc ++ Ld)) (Lr := []) (H' := upd H1 l (.lst (xs ++ [y]))) r1' l1 lσ lu e1 (bnot a hb) (fun b u h1 h2 e => keep b u (fun z => h1 (by rw [z]; exact li)) e) (by
            rw [List.append_nil]
            refine List.nodup_cons.mpr ⟨fun mm => (List.mem_append.mp mm).elim n1 lD, List.nodup_append.mpr ⟨n2, ndD, fun p mp q mq e => ?_⟩⟩
            subst e
            exact Dl p mq (by rw [hF]; exact List.mem_cons_of_mem _ mp)) (fun b mb => by
            rw [List.append_nil] at mb
            rcases List.mem_cons.mp mb with rfl | mb
            · exact .inr (.inl li)
            · rcases List.mem_append.mp mb with mb | mb
              · exact .inr (.inl (by rw [hF]; exact List.mem_cons_of_mem _ mb))
              · exact .inr (.inr ⟨_, Nat.le_refl _, hD b mb⟩)) (.inr ⟨rfl, rfl, rfl⟩) (fun b mb => by
            rw [List.append_nil] at mb
            rcases List.mem_cons.mp mb with rfl | mb
            · exact ⟨_, upd_same, trivial⟩
            · have ne : b ≠ l := fun z => (List.mem_append.mp (z ▸ mb : l ∈ Fc ++ Ld)).elim n1 lD
              rcases List.mem_append.mp mb with mb | mb
              · obtain ⟨u, e1, e2⟩ := ol.mu b mb
                exact ⟨u, keep b u ne e1, e2⟩
              · obtain ⟨u, e1, e2⟩ := oD.mu b mb
                exact ⟨u, keep b u ne e1, e2⟩) fun G' w hG tup hw ow => ?_
        · simpa using this
        · rw [hv] at hw
          cases hw
          refine ⟨.lst upd_same (OwnL.app (OwnL.mv hG ol fun b u mb e => keep b u (fun z => n1 (by rw [← z]; exact mb)) e) ?_), (fun e => nomatch e), fun _ => .non⟩
          have : OwnL K G' (upd H1 l (.lst (xs ++ [y]))) [y] [d] (Ld ++ []) := .cons (Own.mv hG oD fun b u mb e => keep b u (fun z => lD (by rw [← z]; exact mb)) e) .nil
          rwa [List.append_nil] at this
      · exact q1.elim
  · exact q0.elim
theorem own_erase : ∀ {xs : List V} {ds : List PyData} {F : List Addr}, OwnL K G H xs ds F → ∀ (j : Nat) (y : V) (d : PyData), xs[j]? = some y → ds[j]? = some d → ∃ F1 F2 F3, F = F1 ++ (F2 ++ F3) ∧ Own K G H y d F2 ∧ OwnL K G H (xs.eraseIdx j) (ds.eraseIdx j) (F1 ++ F3)
  | _, _, _, .cons (F := F) (F' := F') a b, 0, y, d, h, h' => by
    cases h
    cases h'
    exact ⟨[], F, F', rfl, a, b⟩
  | _, _, _, .cons (F := F) (F' := F') a b, j + 1, y, d, h, h' => by
    obtain ⟨F1, F2, F3, e, o, l⟩ := own_erase b j y d h h'
    refine ⟨F ++ F1, F2, F3, by rw [e, List.append_assoc], o, ?_⟩
    rw [List.append_assoc]
    exact .cons a l
  | _, _, _, .nil, j, y, d, h, _ => by simp at h
/-- xs.pop(j): the j-th moves out -/
def tPop3 (i : Nat) (t : TA3) : TE3 := fun B S Q => (match S[i]? with | some (some (.list _, _)) => True | _ => False) ∧ t B S fun es S1 =>
  match S1[i]?, es with
  | some (some (.list ds, .own)), [some (.int j, _)] => if B.br.contains i = true then False else (-(2 ^ 63) ≤ j ∧ j < 2 ^ 63) ∧ ∃ k d, seqIndex? j ds.length = some k ∧ ds[k]? = some d ∧ Q d (if flat d = true then .shr else .own) (mset i (.list (ds.eraseIdx k)) S1)
  | _, _ => False
theorem lift_popAt {i : Nat} (hi : i < N) {ta : TA} {t : TA3} (hn : nones ats = true) (h : LiftA K N ats c ta t) : Lift K N false (tBM K "list" rPopAt (tVar i) ta) (tPop3 i t) := by
  intro G0 pv B S T σ us H Q Q3 a ⟨q0, q⟩ k
  have lS := a.lS
  have lσ := a.lσ
  have lu := a.lu
  split at q0
  · rename_i ds0 m0 e0
    obtain ⟨v, hv, dv⟩ := a.get e0
    refine ⟨v, hv, ?_, ?_⟩
    · cases dv with
      | lst x y => exact .inl ⟨rfl, _, .inl (.inl x)⟩
    · refine h a q fun vs H1 es S1 l1 lv le lat r1 k1 q1 => ?_
      split at q1
      · rename_i ds j m e1
        cases hb : B.br.contains i with
        | true => rw [hb, if_pos rfl] at q1; exact q1.elim
        | false =>
        rw [hb, if_neg Bool.false_ne_true] at q1
        obtain ⟨⟨j0, j1⟩, kk, d, hk, hd, q1⟩ := q1
        obtain ⟨y, rfl⟩ : ∃ y, vs = [y] := by
          cases vs with
          | nil => simp at lv le; omega
          | cons y r =>
            cases r with
            | nil => exact ⟨y, rfl⟩
            | cons _ _ => simp at lv le; omega
        obtain ⟨F, r1⟩ := r1
        have r1' : Rel K N G0 H1 F ((S1 ++ T) ++ [some (.int j, m)]) ((σ ++ us) ++ [some y]) := by simpa using r1
        have e1' : ((S1 ++ T) ++ [some (.int j, m)])[i]? = some (some (.list ds, .own)) := by
          obtain ⟨lt, _⟩ := List.getElem?_eq_some_iff.mp e1
          rw [List.getElem?_append_left (by simp; omega), List.getElem?_append_left lt]; exact e1
        have top := R.top (P := S1 ++ T) (ps := σ ++ us) (e := (.int j, m)) (v := y) (by simp; omega) ⟨F, r1'⟩
        cases top
        obtain ⟨w, w1, w2⟩ := r1'.ent i _ e1'
        rw [List.getElem?_append_left (by simp; omega), List.getElem?_append_left (by omega), hv] at w1
        cases w1
        have w2 : Own K (Gof H1 F) H1 v (.list ds) (F i) := w2
        generalize hF : F i = Fi at w2
        cases w2 with
        | lst hl ol =>
        rename_i l xs Fc
        have nd0 := r1'.nodup i
        rw [hF] at nd0
        obtain ⟨n1, n2⟩ := List.nodup_cons.mp nd0
        have li : l ∈ F i := by rw [hF]; exact List.mem_cons_self ..
        have lxs := ol.len
        have ltk : kk < xs.length := by
          obtain ⟨lt, _⟩ := List.getElem?_eq_some_iff.mp hd
          omega
        obtain ⟨F1, F2, F3, eF, oD, oL⟩ := own_erase ol kk xs[kk] d (List.getElem?_eq_getElem ltk) hd
        subst eF
        obtain ⟨m1, m2, m3⟩ := List.nodup_append.mp n2
        obtain ⟨m4, m5, m6⟩ := List.nodup_append.mp m2
        have l1' : l ∉ F1 := fun z => n1 (List.mem_append_left _ z)
        have l2' : l ∉ F2 := fun z => n1 (List.mem_append_right _ (List.mem_append_left _ z))
        have l3' : l ∉ F3 := fun z => n1 (List.mem_append_right _ (List.mem_append_right _ z))
        have keep : ∀ b u, b ≠ l → H1 b = some u → upd H1 l (.lst (xs.eraseIdx kk)) b = some u := fun b u ne e => by rw [upd_ne ne]; exact e
        refine ⟨l, xs, j, kk, xs[kk], rfl, rfl, hl, j0, j1, by rw [lxs]; exact hk, List.getElem?_eq_getElem ltk, ?_⟩
        have inF : ∀ b, (b ∈ F1 ∨ b ∈ F2 ∨ b ∈ F3) → b ∈ F i := fun b hb => by
          rw [hF]
          refine List.mem_cons_of_mem _ ?_
          rcases hb with hb | hb | hb
          · exact List.mem_append_left _ hb
          · exact List.mem_append_right _ (List.mem_append_left _ hb)
          · exact List.mem_append_right _ (List.mem_append_right _ hb)
        have fin : ∀ (em : Md) (Lr : List Addr), ((em = .own ∧ Lr = F2) ∨ (em = .shr ∧ flat d = true ∧ Lr = [])) → R K N G0 (upd H1 l (.lst (xs.eraseIdx kk))) ((mset i (.list (ds.eraseIdx kk)) S1 ++ T) ++ [some (d, em)]) ((σ ++ us) ++ [some xs[kk]]) := fun em Lr hm => by
          have subL : ∀ b ∈ Lr, b ∈ F2 := fun b mb => by
            rcases hm with ⟨_, e⟩ | ⟨_, _, e⟩ <;> rw [e] at mb
            · exact mb
            · cases mb
          refine Rel.mut (i := i) (d0 := .list ds) (d' := .list (ds.eraseIdx kk)) (e := (d, em)) (v := xs[kk]) (Li := l :: (F1 ++ F3)) (Lr := Lr) (H' := upd H1 l (.lst (xs.eraseIdx kk))) r1' l1 lσ lu e1 (bnot a hb) (fun b u h1 h2 e => keep b u (fun z => h1 (by rw [z]; exact li)) e) ?_ (fun b mb => .inr (.inl ?_)) (hm.elim (fun z => .inl z.1) fun z => .inr z) (fun b mb => ?_) fun G' w hG tup hw ow => ?_
          · refine List.nodup_append.mpr ⟨List.nodup_cons.mpr ⟨fun mm => (List.mem_append.mp mm).elim l1' l3', List.nodup_append.mpr ⟨m1, m5, fun p mp q mq e => m3 p mp q (List.mem_append_right _ mq) e⟩⟩, ?_, fun p mp q mq e => ?_⟩
            · rcases hm with ⟨_, e⟩ | ⟨_, _, e⟩ <;> rw [e]
              · exact m4
              · exact List.nodup_nil
            · have mq := subL q mq
              subst e
              rcases List.mem_cons.mp mp with rfl | mp
              · exact l2' mq
              · rcases List.mem_append.mp mp with mp | mp
                · exact m3 p mp p (List.mem_append_left _ mq) rfl
                · exact m6 p mq p mp rfl
          · rcases List.mem_append.mp mb with mb | mb
            · rcases List.mem_cons.mp mb with rfl | mb
              · exact li
              · exact inF b ((List.mem_append.mp mb).elim .inl fun z => .inr (.inr z))
            · exact inF b (.inr (.inl (subL b mb)))
          · rcases List.mem_append.mp mb with mb | mb
            · rcases List.mem_cons.mp mb with rfl | mb
              · exact ⟨_, upd_same, trivial⟩
              · obtain ⟨u, e1, e2⟩ := oL.mu b mb
                exact ⟨u, keep b u (fun z => (List.mem_append.mp (z ▸ mb : l ∈ F1 ++ F3)).elim l1' l3') e1, e2⟩
            · have mb := subL b mb
              obtain ⟨u, e1, e2⟩ := oD.mu b mb
              exact ⟨u, keep b u (fun z => l2' (z ▸ mb : l ∈ F2)) e1, e2⟩
          · rw [hv] at hw
            cases hw
            refine ⟨.lst upd_same (OwnL.mv hG oL fun b u mb e => keep b u (fun z => by subst z; exact (List.mem_append.mp mb).elim l1' l3') e), fun e => ?_, fun e => ?_⟩
            · rcases hm with ⟨_, e'⟩ | ⟨e', _⟩
              · rw [e']
                exact Own.mv hG oD fun b u mb e => keep b u (fun z => by subst z; exact l2' mb) e
              · rw [e'] at e; cases e
            · rcases hm with ⟨e', _⟩ | ⟨_, f, _⟩
              · rw [e'] at e; cases e
              · have := Own.dt (gof_same H1 F) oD F2 fun _ m => m
                refine Dt.flat (fun b zs q => ?_) d f this
                have : H1 b = some (.tup zs) := vis_same (gof_same H1 F) _ _ q
                exact keep b _ (fun z => by rw [z, hl] at this; cases this) this
        by_cases f : flat d = true
        · rw [if_pos f] at q1
          exact k _ _ d .shr _ (by rw [mset_len]; exact l1) (by simpa using fin .shr [] (.inr ⟨rfl, f, rfl⟩)) (fun e => nomatch e) q1
        · rw [if_neg f] at q1
          exact k _ _ d .own _ (by rw [mset_len]; exact l1) (by simpa using fin .own F2 (.inl ⟨rfl, rfl⟩)) (fun e => nomatch e) q1
      · exact q1.elim
  · exact q0.elim
end
end L2.Fb.T

namespace L2.Fb.T
open PySem PySem.Spec
open PyProof.Rows
section
variable {K : PySem.W.Frag} {N : Nat} {G0 G H H' : Hp} {c c1 c2 : Bool} {S S' T P : S3} {σ : St} {us ps : List (Option V)} {te : TE} {t t1 t2 : TE3} {pv : PV} {B : Bs} {es A : List (Option Ent)} {ws : List (Option V)} {vs : List V} {ats : List (Option Nat)}
/-! ### range -/
def tRng1 (t : TA3) : TI3 := fun B S Q => t B S fun es S1 => match dats es with | [.int j] => (-(2 ^ 62) ≤ j ∧ j < 2 ^ 62) ∧ Q [] j.toNat (fun i => (.int (0 + (i : Nat)), .shr)) S1 | _ => False
def tRng2 (t : TA3) : TI3 := fun B S Q => t B S fun es S1 => match dats es with | [.int i, .int j] => (-(2 ^ 62) ≤ i ∧ i < 2 ^ 62 ∧ -(2 ^ 62) ≤ j ∧ j < 2 ^ 62) ∧ Q [] (j - i).toNat (fun k => (.int (i + (k : Nat)), .shr)) S1 | _ => False
theorem wk_rng {lo : Int} {n : Nat} (lu : us.length = T.length) : Wk K N G0 (T ++ []) (us ++ []) (Itr lo n) n (fun i => (.int (lo + (i : Nat)), .shr)) := by
  refine ⟨fun {H S A σ ws} l l' lw r i hi => ⟨hi, ?_⟩, fun _ _ _ _ => Nat.le_refl _⟩
  rintro x H' ⟨rfl, rfl⟩
  have := R.flatR (S := S ++ ((T ++ []) ++ A)) (vs := σ ++ ((us ++ []) ++ ws)) (A := []) (ws := []) (by simpa using r) (by simp; omega) (by simp; omega) (fun _ _ e => e) (d := .int (lo + (i : Nat))) rfl (.int _)
  simpa using this
theorem lift_rng1 {ta : TA} {t : TA3} (hn : nones ats = true) (h : LiftA K N ats c ta t) : LiftI K N (iRng1 ta) (tRng1 t) := by
  intro G0 pv B S T σ us H Q Q3 a q k
  have lu := a.lu
  have lσ := a.lσ
  refine h a q fun vs H1 es S1 l1 lv le lat r1 _ q1 => ?_
  have r1' : R K N G0 H1 ((S1 ++ T) ++ es) ((σ ++ us) ++ vs.map some) := by simpa using r1
  have dl := get_all (P := S1 ++ T) (ps := σ ++ us) es vs r1' (by simp; omega) (by omega) (lat.full le hn)
  split at q1
  · rename_i j e
    rw [e] at dl
    cases dl with
    | cons d1 d2 =>
    cases d2
    cases d1
    refine ⟨j, rfl, q1.1.1, q1.1.2, k _ _ [] [] _ _ S1 l1 rfl ?_ (wk_rng lu) q1.2⟩
    have := R.cut (S := S1 ++ T) (vs := σ ++ us) r1' (by simp; omega) (by simp; omega)
    simpa using this
  · exact q1.elim
theorem lift_rng2 {ta : TA} {t : TA3} (hn : nones ats = true) (h : LiftA K N ats c ta t) : LiftI K N (iRng2 ta) (tRng2 t) := by
  intro G0 pv B S T σ us H Q Q3 a q k
  have lu := a.lu
  have lσ := a.lσ
  refine h a q fun vs H1 es S1 l1 lv le lat r1 _ q1 => ?_
  have r1' : R K N G0 H1 ((S1 ++ T) ++ es) ((σ ++ us) ++ vs.map some) := by simpa using r1
  have dl := get_all (P := S1 ++ T) (ps := σ ++ us) es vs r1' (by simp; omega) (by omega) (lat.full le hn)
  split at q1
  · rename_i i j e
    rw [e] at dl
    cases dl with
    | cons d1 d2 =>
    cases d2 with
    | cons d2 d3 =>
    cases d3
    cases d1
    cases d2
    refine ⟨i, j, rfl, q1.1, k _ _ [] [] _ _ S1 l1 rfl ?_ (wk_rng lu) q1.2⟩
    have := R.cut (S := S1 ++ T) (vs := σ ++ us) r1' (by simp; omega) (by simp; omega)
    simpa using this
  · exact q1.elim
/-! ### a, b = .. -/
/-- what is unpacked: the parts are held, one behind the other; own pairs give their own parts -/
def um (m : Md) (d : PyData) : Md := match m with | .own => if flat d then .shr else .own | m => im m d
abbrev TGs3 := Bs → List Ent → S3 → (S3 → Prop) → Prop
def LiftGs (K : PySem.W.Frag) (N : Nat) (vs : List Nat) (g : TGs) (t : TGs3) : Prop :=
  ∀ {G0 : Hp} {pv : PV} {B : Bs} {S T : S3} {σ : St} {us : List (Option V)} {H : Hp} {xs : List V} {es : List Ent} {Q : St → Hp → Prop} {Q3 : S3 → Prop}, S.length = N → σ.length = N → us.length = T.length → Fx pv σ → FxB pv B → LkB G0 pv B → xs.length = es.length → R K N G0 H (S ++ (T ++ (es.map some).reverse)) (σ ++ (us ++ (xs.map some).reverse)) → t B es S Q3 →
    (∀ σ' S', S'.length = N → σ'.length = N → R K N G0 H (S' ++ T) (σ' ++ us) → Fx pv σ' → (∀ j, j ∉ vs → σ'[j]? = σ[j]?) → Q3 S' → Q σ' H) → g xs σ H Q
def gNil3 : TGs3 := fun B es S Q => es = [] ∧ Q S
def gCons3 (t : TG3) (u : TGs3) : TGs3 := fun B es S Q => match es with | e :: r => t B e S fun S2 => u B r S2 Q | [] => False
theorem lift_gnil : LiftGs K N [] gNil gNil3 := by
  rintro G0 pv B S T σ us H xs es Q Q3 l lσ lu fx fb lk lx r ⟨rfl, q⟩ k
  cases xs with
  | cons _ _ => simp at lx
  | nil => exact ⟨rfl, k σ S l lσ (by simpa using r) fx (fun _ _ => rfl) q⟩
theorem lift_gcons {v1 v2 : List Nat} {g : TG} {gs : TGs} {g3 : TG3} {gs3 : TGs3} (h1 : LiftG K N v1 g g3) (h2 : LiftGs K N v2 gs gs3) : LiftGs K N (v1 ++ v2) (gCons g gs) (gCons3 g3 gs3) := by
  intro G0 pv B S T σ us H xs es Q Q3 l lσ lu fx fb lk lx r q k
  cases es with
  | nil => exact q.elim
  | cons e es =>
    cases xs with
    | nil => simp at lx
    | cons x xs =>
      have lx : xs.length = es.length := by simpa using lx
      refine ⟨x, xs, rfl, ?_⟩
      have q : g3 B e S fun S2 => gs3 B es S2 Q3 := q
      refine h1 (T := T ++ (es.map some).reverse) (us := us ++ (xs.map some).reverse) l lσ (by simp [lu, lx]) fx fb lk (by simpa using r) q fun σ1 S1 l1 lσ1 r1 fx1 ag1 q1 => ?_
      exact h2 l1 lσ1 lu fx1 fb lk lx (by simpa using r1) q1 fun σ2 S2 l2 lσ2 r2 fx2 ag2 q2 => k σ2 S2 l2 lσ2 r2 fx2 (fun j hj => by
        rw [ag2 j fun m => hj (List.mem_append_right _ m), ag1 j fun m => hj (List.mem_append_left _ m)]) q2
/-- a tuple's parts, from the last one on -/
theorem R.parts {d : List PyData} {xs : List V} {t : Addr} {m : Md} (hm : m ≠ .own) : ∀ {P : S3} {ps : List (Option V)} {j : Nat}, R K N G0 H P ps → P[j]? = some (some (.tuple d, m)) → ps[j]? = some (some (.ref t)) → N ≤ P.length → H t = some (.tup xs) → DtL K H xs d → ∀ k, k ≤ d.length → R K N G0 H (P ++ ((d.drop k).map fun e => some (e, im m e)).reverse) (ps ++ ((xs.drop k).map some).reverse) := by
  intro P ps j r e0 ev hN ht dl k hk
  have lx := dl.len
  obtain ⟨n, hn⟩ : ∃ n, d.length - k = n := ⟨_, rfl⟩
  induction n generalizing k with
  | zero =>
    have : k = d.length := by omega
    subst this
    rw [List.drop_length, List.drop_eq_nil_of_le (by omega)]
    simpa using r
  | succ n ih =>
    have r1 := ih (k + 1) (by omega) (by omega)
    have lt : k < d.length := by omega
    have lt' : k < xs.length := by omega
    rw [List.drop_eq_getElem_cons lt, List.drop_eq_getElem_cons lt', List.map_cons, List.map_cons, List.reverse_cons, List.reverse_cons]
    obtain ⟨ltj, _⟩ := List.getElem?_eq_some_iff.mp e0
    have lr := r.len
    have := R.part (x := xs[k]) (e := d[k]) r1 (p := j) (by rw [List.getElem?_append_left ltj]; exact e0) (by rw [List.getElem?_append_left (by omega)]; exact ev) (by simp; omega) hm fun G hG dG => by
      cases dG with
      | tup a b =>
        have := hG _ _ a
        rw [ht] at this
        cases this
        obtain ⟨x', h1, h2⟩ := b.of k d[k] (List.getElem?_eq_getElem lt)
        rw [List.getElem?_eq_getElem lt'] at h1
        cases h1
        exact h2
    simpa using this
def gTup3 (n : Nat) (t : TGs3) : TG3 := fun B e S Q => match e with
  | (.tuple d, m) => d.length = n ∧ t B (d.map fun e => (e, im m e)) S Q
  | _ => False
theorem lift_gtup {n : Nat} {v1 : List Nat} {gs : TGs} {gs3 : TGs3} (h : LiftGs K N v1 gs gs3) : LiftG K N v1 (gTup K n gs) (gTup3 n gs3) := by
  intro G0 pv B S T σ us H v e Q Q3 l lσ lu fx fb lk r q k
  unfold gTup3 at q
  split at q
  · rename_i d m
    obtain ⟨hn, q⟩ := q
    have r0 : R K N G0 H ((S ++ T) ++ [some (.tuple d, pubM m)]) ((σ ++ us) ++ [some v]) := R.pub' (by simpa using r) (by simp; omega) (by simp; omega)
    have top := R.top (P := S ++ T) (ps := σ ++ us) (e := (.tuple d, pubM m)) (v := v) (by simp; omega) r0
    cases top with
    | tup ht dl =>
    rename_i t xs
    have im2 : ∀ e, im (pubM m) e = im m e := fun e => by cases m <;> rfl
    have r1 := R.parts (m := pubM m) (by cases m <;> simp [pubM]) r0 (j := N + T.length) (by rw [List.getElem?_append_right (by simp; omega), show N + T.length - (S ++ T).length = 0 by simp; omega]; rfl) (by rw [List.getElem?_append_right (by simp; omega), show N + T.length - (σ ++ us).length = 0 by simp; omega]; rfl) (by simp; omega) ht dl 0 (Nat.zero_le _)
    simp only [List.drop_zero, im2] at r1
    have lx := dl.len
    refine ⟨t, xs, rfl, .inl (.inl ht), by omega, ?_⟩
    refine h (T := T ++ [some (.tuple d, pubM m)]) (us := us ++ [some (.ref t)]) (es := d.map fun e => (e, im m e)) l lσ (by simp [lu]) fx fb lk (by simpa using lx) (by simpa [Function.comp_def] using r1) q fun σ2 S2 l2 lσ2 r2 fx2 ag q2 => k σ2 S2 l2 lσ2 ?_ fx2 ag q2
    exact R.cut (S := S2 ++ T) (vs := σ2 ++ us) (A := [some (.tuple d, pubM m)]) (ws := [some (.ref t)]) (by simpa using r2) (by simp; omega) (by simp; omega)
  · exact q.elim
theorem lift_asg {v1 : List Nat} {g : TG} {g3 : TG3} (h : Lift K N c te t) (hg : LiftG K N v1 g g3) : LiftS K N (tAsg te g) (fun E B S => t B S fun d m S1 => g3 B (d, m) S1 E.nx) := by
  intro G0 pv B S T σ us H D E a q V
  refine h a q fun v H' d m S' l r _ q => ?_
  exact hg l a.lσ a.lu a.fx a.fb a.lk r q fun σ2 S2 l2 lσ2 r2 fx2 _ q2 => V.nx _ _ _ l2 lσ2 r2 fx2 q2
end
end L2.Fb.T

namespace L2.Fb.T
open PySem PySem.Spec
open PyProof.Rows
section
variable {K : PySem.W.Frag} {N : Nat} {G0 G H H' H1 : Hp} {c c1 c2 : Bool} {S S' T P : S3} {σ : St} {us ps zs : List (Option V)} {te : TE} {t t1 t2 : TE3} {pv : PV} {B : Bs} {es A : List (Option Ent)} {ws : List (Option V)} {vs : List V} {ats : List (Option Nat)} {F F' F1 : Nat → List Addr} {a0 : Addr} {ks : List (Key × V)} {od : Obj} {un : Hp → Hp} {Z : S3}
/-! ### a dict locked -/
theorem lep_lock (L : Lkd H a0 ks od un H1) (F : Nat → List Addr) : LeP (Gof H F) (Gof H1 F) := by
  have go : ∀ {a : Addr} {u : HO}, Gof H F a = some u → a ≠ a0 → Gof H1 F a = some u := fun {a u} e ne => by
    obtain ⟨q1, q2⟩ := gof_some e
    rw [gof_of q1, L.off a ne]
    exact q2
  have at0 : ∀ {u : HO}, (∀ o w, u ≠ .frz o w) → Rd (Gof H F) a0 u → Rd (Gof H1 F) a0 u := fun {u} nf h => by
    have no : ∀ i, a0 ∉ F i := by
      rcases h with h | ⟨o, h⟩ <;> exact (gof_some h).1
    have h2 : Rd H a0 u := by
      rcases h with h | ⟨o, h⟩
      · exact .inl (gof_some h).2
      · exact .inr ⟨o, (gof_some h).2⟩
    rcases L.le _ _ h2 with q | ⟨o, q⟩
    · exact .inl (by rw [gof_of no]; exact q)
    · exact .inr ⟨o, by rw [gof_of no]; exact q⟩
  have rd : ∀ {a : Addr} {u : HO}, (∀ o w, u ≠ .frz o w) → Rd (Gof H F) a u → Rd (Gof H1 F) a u := fun {a u} nf h => by
    by_cases z : a = a0
    · subst z; exact at0 nf h
    · rcases h with h | ⟨o, h⟩
      · exact .inl (go h z)
      · exact .inr ⟨o, go h z⟩
  have nol : ∀ {u : HO}, Gof H F a0 = some u → Rd H a0 u := fun e => .inl (gof_some e).2
  refine ⟨fun a xs e => ?_, fun a xs e => ?_, fun a ks => rd (fun _ _ z => nomatch z), fun a ks => rd (fun _ _ z => nomatch z)⟩
  · refine go e fun z => ?_
    subst z
    rcases L.rd with q | ⟨o, q⟩ <;> rw [(gof_some e).2] at q <;> cases q
  · refine go e fun z => ?_
    subst z
    rcases L.rd with q | ⟨o, q⟩ <;> rw [(gof_some e).2] at q <;> cases q
theorem lep_unlock (L : Lkd H a0 ks od un H1) (F : Nat → List Addr) (hl : H' a0 = some (.frz od (.dK ks))) (no : ∀ i, a0 ∉ F i) : LeP (Gof H' F) (Gof (un H') F) := by
  have go : ∀ {a : Addr} {u : HO}, Gof H' F a = some u → a ≠ a0 → Gof (un H') F a = some u := fun {a u} e ne => by
    obtain ⟨q1, q2⟩ := gof_some e
    rw [gof_of q1, L.unOff H' a ne]
    exact q2
  have rd : ∀ {a : Addr} {u : HO}, (∀ o w, u ≠ .frz o w) → Rd (Gof H' F) a u → Rd (Gof (un H') F) a u := fun {a u} nf h => by
    by_cases z : a = a0
    · subst z
      have e : u = .dK ks := by
        rcases h with h | ⟨o, h⟩ <;> rw [(gof_some h).2] at hl <;> cases hl
        · exact absurd rfl (nf _ _)
        · rfl
      subst e
      have := L.rd
      unfold Rd at this ⊢
      rw [gof_of no, L.unAt H' hl]
      exact this
    · rcases h with h | ⟨o, h⟩
      · exact .inl (go h z)
      · exact .inr ⟨o, go h z⟩
  refine ⟨fun a xs e => go e fun z => ?_, fun a xs e => go e fun z => ?_, fun a ks => rd (fun _ _ z => nomatch z), fun a ks => rd (fun _ _ z => nomatch z)⟩
  · subst z
    rw [(gof_some e).2] at hl; cases hl
  · subst z
    rw [(gof_some e).2] at hl; cases hl
theorem lep_vis {G1 G2 X1 X2 : Hp} {A : List Addr} (l : LeP G1 G2) (h : ∀ a ∈ A, X1 a = X2 a) : LeP (vis G1 X1 A) (vis G2 X2 A) := by
  have e : ∀ {a : Addr}, a ∈ A → vis G1 X1 A a = vis G2 X2 A a := fun {a} m => by rw [vis_at m, vis_at m, h a m]
  refine ⟨fun a xs q => ?_, fun a xs q => ?_, fun a ks q => ?_, fun a ks q => ?_⟩ <;> by_cases m : a ∈ A
  · rw [← e m]; exact q
  · rw [vis_off m] at q ⊢; exact l.l _ _ q
  · rw [← e m]; exact q
  · rw [vis_off m] at q ⊢; exact l.t _ _ q
  · unfold Rd at q ⊢; rw [← e m]; exact q
  · unfold Rd at q ⊢; rw [vis_off m] at q ⊢; exact l.k _ _ q
  · unfold Rd at q ⊢; rw [← e m]; exact q
  · unfold Rd at q ⊢; rw [vis_off m] at q ⊢; exact l.d _ _ q
/-- the same things, another heap -/
theorem Rel.lep (r : Rel K N G0 H F Z zs) {G2 H2 : Hp} (base : Same G2 (Gof H2 F)) (l : LeP (Gof H F) (Gof H2 F)) (own : ∀ i a, a ∈ F i → H a = H2 a) : Rel K N G2 H2 F Z zs := by
  refine ⟨r.len, base, r.nodup, r.sep, fun i e h => ?_, r.empt, r.bnd⟩
  obtain ⟨v, h1, h2⟩ := r.ent i e h
  refine ⟨v, h1, ?_⟩
  obtain ⟨d, m⟩ := e
  cases m with
  | shr => exact Dt.le l _ h2
  | own => exact Own.sq l.t h2 fun a u m e => by rw [← own i a m]; exact e
  | bor j => exact Dt.le (lep_vis l fun a m => own j a m) _ h2
theorem Rel.lock (r : Rel K N G0 H F Z zs) (L : Lkd H a0 ks od un H1) (no : ∀ i, a0 ∉ F i) : Rel K N (Gof H1 F) H1 F Z zs :=
  r.lep (fun _ _ e => e) (lep_lock L F) fun i a m => (L.off a fun z => no i (by rw [← z]; exact m)).symm
theorem Rel.unlock (L : Lkd H a0 ks od un H1) (no : ∀ i, a0 ∉ F1 i) (base : Same G0 (Gof H F1)) (r : Rel K N (Gof H1 F1) H' F Z zs) : H' a0 = some (.frz od (.dK ks)) ∧ Rel K N G0 (un H') F Z zs := by
  have g1 : Gof H1 F1 a0 = some (.frz od (.dK ks)) := by rw [gof_of no]; exact L.frz
  obtain ⟨no2, hl⟩ := gof_some (r.base _ _ g1)
  refine ⟨hl, r.lep (fun a u e => ?_) (lep_unlock L F hl no2) fun i a m => (L.unOff H' a fun z => no2 i (by rw [← z]; exact m)).symm⟩
  by_cases z : a = a0
  · subst z
    rw [gof_of no2, L.unAt H' hl]
    exact (gof_some (base _ _ e)).2
  · have e1 := base _ _ e
    obtain ⟨q1, q2⟩ := gof_some e1
    have e2 : Gof H1 F1 a = some u := by rw [gof_of q1, L.off a z]; exact q2
    obtain ⟨q3, q4⟩ := gof_some (r.base _ _ e2)
    rw [gof_of q3, L.unOff H' a z]
    exact q4
def Bs.lock (B : Bs) (i : Nat) : Bs := ⟨B.br, i :: B.pn, i :: B.lk⟩
def lkOk : Option (Option Ent) → Bool
  | some (some (.dict ds, .own)) => !isT ds
  | some (some (.dict ds, .shr)) => !isT ds
  | _ => false
def tLkE (i : Nat) (t : TE3) : TE3 := fun B S Q => lkOk S[i]? = true ∧ t (B.lock i) (dem1 i S) Q
def tLkS (i : Nat) (t : TS3) : TS3 := fun E B S => lkOk S[i]? = true ∧ t E (B.lock i) (dem1 i S)
/-- a dict's slot, locked -/
theorem At.lock {i : Nat} (a : At K N G0 pv B S T σ us H) (ok : lkOk S[i]? = true) : ∃ a0 ks F1, Rd H a0 (.dK ks) ∧ Rel K N G0 H F1 (dem1 i S ++ T) (σ ++ us) ∧ (∀ j, a0 ∉ F1 j) ∧
    ∀ od un H1, Lkd H a0 ks od un H1 → At K N (Gof H1 F1) (fun j => if j = i then some (.ref a0) else pv j) (B.lock i) (dem1 i S) T σ us H1 := by
  obtain ⟨F, r⟩ := a.r
  have lS := a.lS
  have lσ := a.lσ
  obtain ⟨ds, m, e0, hm, hk⟩ : ∃ ds m, S[i]? = some (some (.dict ds, m)) ∧ (m = .own ∨ m = .shr) ∧ isT ds = false := by
    unfold lkOk at ok
    split at ok
    · rename_i ds e
      exact ⟨ds, _, e, .inl rfl, by simpa using ok⟩
    · rename_i ds e
      exact ⟨ds, _, e, .inr rfl, by simpa using ok⟩
    · cases ok
  obtain ⟨lt, _⟩ := List.getElem?_eq_some_iff.mp e0
  have r1 := rel_dem r i lt
  have e1 : (dem1 i S)[i]? = some (some (.dict ds, .shr)) := by
    unfold dem1
    rcases hm with rfl | rfl
    · rw [e0]
      exact List.getElem?_set_self lt
    · rw [e0]
      exact e0
  obtain ⟨v, v1, v2⟩ := r1.ent i _ (by rw [List.getElem?_append_left (by rw [dem1_len]; exact lt)]; exact e1)
  rw [List.getElem?_append_left (by omega)] at v1
  have v2 : Dt K (Gof H (put F i [])) v (.dict ds) := v2
  cases v2 with
  | dtt x y => simp [isT] at hk
  | dct rd dk =>
  rename_i a0 ks
  have no : ∀ j, a0 ∉ put F i [] j := by rcases rd with q | ⟨o, q⟩ <;> exact (gof_some q).1
  have rdH : Rd H a0 (.dK ks) := by
    rcases rd with q | ⟨o, q⟩
    · exact .inl (gof_some q).2
    · exact .inr ⟨o, (gof_some q).2⟩
  refine ⟨a0, ks, _, rdH, r1, no, fun od un H1 L => ⟨by rw [dem1_len]; exact lS, lσ, a.lu, ⟨_, r1.lock L no⟩, a.b, fun j w e => ?_, fun j w e => ?_, fun j m => ?_⟩⟩
  · have e : (if j = i then some (V.ref a0) else pv j) = some w := e
    by_cases z : j = i
    · rw [if_pos z] at e
      cases e
      rw [z]
      exact v1
    · rw [if_neg z] at e
      exact a.fx j w e
  · have e : (if j = i then some (V.ref a0) else pv j) = some w := e
    by_cases z : j = i
    · rw [z]; exact List.mem_cons_self ..
    · rw [if_neg z] at e
      exact List.mem_cons_of_mem _ (a.fb j w e)
  · show ∃ a od ks, (if j = i then some (V.ref a0) else pv j) = some (.ref a) ∧ Gof H1 _ a = some (.frz od (.dK ks))
    by_cases z : j = i
    · exact ⟨a0, od, ks, by rw [if_pos z], by rw [gof_of no]; exact L.frz⟩
    · have mj : j ∈ B.lk := (List.mem_cons.mp m).resolve_left z
      obtain ⟨b, od', ks', h1, h2⟩ := a.lk j mj
      refine ⟨b, od', ks', by rw [if_neg z]; exact h1, ?_⟩
      obtain ⟨q1, q2⟩ := gof_some (r1.base _ _ h2)
      rw [gof_of q1]
      by_cases y : b = a0
      · subst y
        rcases L.le _ _ (Or.inl q2) with q | ⟨o, q⟩
        · exact q
        · rw [L.frz] at q; cases q
      · rw [L.off b y]; exact q2
theorem lift_lkE {i : Nat} (h : Lift K N c te t) : Lift K N false (tLockOE te) (tLkE i t) := by
  intro G0 pv B S T σ us H Q Q3 a ⟨ok, q⟩ k
  obtain ⟨a0, ks, F1, rd, r1, no, at1⟩ := a.lock ok
  refine ⟨a0, ks, rd, fun od un H1 L => ?_⟩
  refine h (at1 od un H1 L) q fun v H' d m S' l ⟨F', r'⟩ _ q' => ?_
  obtain ⟨e, r2⟩ := Rel.unlock L no r1.base r'
  exact ⟨e, k v _ d m S' l ⟨F', r2⟩ (fun e => nomatch e) q'⟩
theorem lift_lkS {i : Nat} {ts : TS} {s3 : TS3} (h : LiftS K N ts s3) : LiftS K N (tLockO ts) (tLkS i s3) := by
  intro G0 pv B S T σ us H D E a ⟨ok, q⟩ Vc
  obtain ⟨a0, ks, F1, rd, r1, no, at1⟩ := a.lock ok
  refine ⟨a0, ks, rd, fun od un H1 L => ?_⟩
  have fxo : ∀ {σ' : St}, Fx (fun j => if j = i then some (V.ref a0) else pv j) σ' → (∀ w, pv i = some w → w = .ref a0) → Fx pv σ' := fun {σ'} f hw j w e => by
    by_cases z : j = i
    · subst z
      have := f j (.ref a0) (by simp)
      rw [hw w e]
      exact this
    · exact f j w (by simp [z]; exact e)
  have hw : ∀ w, pv i = some w → w = .ref a0 := fun w e => by
    have h1 := a.fx i w e
    have h2 := (at1 od un H1 L).fx i (.ref a0) (by simp)
    rw [h1] at h2
    cases h2
    rfl
  refine h (at1 od un H1 L) q ⟨fun S' σ' H' l l' ⟨F', r'⟩ f q' => ?_, fun S' σ' H' l l' ⟨F', r'⟩ f q' => ?_, fun S' σ' H' l l' ⟨F', r'⟩ f q' => ?_, fun S' σ' H' v d m l l' ⟨F', r'⟩ f q' => ?_⟩
  · obtain ⟨e, r2⟩ := Rel.unlock L no r1.base r'
    exact ⟨e, Vc.nx S' σ' _ l l' ⟨F', r2⟩ (fxo f hw) q'⟩
  · obtain ⟨e, r2⟩ := Rel.unlock L no r1.base r'
    exact ⟨e, Vc.bk S' σ' _ l l' ⟨F', r2⟩ (fxo f hw) q'⟩
  · obtain ⟨e, r2⟩ := Rel.unlock L no r1.base r'
    exact ⟨e, Vc.ct S' σ' _ l l' ⟨F', r2⟩ (fxo f hw) q'⟩
  · obtain ⟨e, r2⟩ := Rel.unlock L no r1.base r'
    exact ⟨e, Vc.rt S' σ' _ v d m l l' ⟨F', r2⟩ (fxo f hw) q'⟩
/-- the keys of a locked dict -/
def tKeys3 (i : Nat) : TI3 := fun B S Q => B.lk.contains i = true ∧ match S[i]? with
  | some (some (.dict ds, .shr)) => isT ds = false ∧ Q [some (.dict ds, .shr)] ds.length (fun k => ((ds.getD k (.none, .none)).1, .shr)) S
  | _ => False
theorem DtK.key : ∀ {ks : List (Key × V)} {ds : List (PyData × PyData)}, DtK K H ks ds → ∀ (i : Nat) (k : Key) (v : V), ks[i]? = some (k, v) → ∃ d, ds[i]? = some (kD k, d) ∧ Dt K H v d
  | _, _, .cons a b, 0, k, v, e => by cases e; exact ⟨_, rfl, a⟩
  | _, _, .cons a b, i + 1, k, v, e => DtK.key b i k v e
  | _, _, .nil, i, k, v, e => by simp at e
theorem dt_kV {k : Key} : Dt K H (kV k) (kD k) := by cases k <;> constructor
theorem flat_kD (k : Key) : flat (kD k) = true := by cases k <;> rfl
theorem lift_keys {i : Nat} (hi : i < N) : LiftI K N (iKeys (tVar i)) (tKeys3 i) := by
  intro G0 pv B S T σ us H Q Q3 a ⟨hl, q⟩ k
  have lS := a.lS
  have lu := a.lu
  have lσ := a.lσ
  split at q
  · rename_i ds e0
    obtain ⟨hk, q⟩ := q
    obtain ⟨a0, od, ks, h1, h2⟩ := a.lk i (by simpa using hl)
    have hv := a.fx i _ h1
    have fr : ∀ {H : Hp} {S : S3} {zs : List (Option V)}, R K N G0 H S zs → H a0 = some (.frz od (.dK ks)) := fun ⟨F, r⟩ => (gof_some (r.base _ _ h2)).2
    obtain ⟨v, v1, v2⟩ := a.r.var (by simp; omega) hi (by rw [List.getElem?_append_left (by omega)]; exact e0)
    rw [List.getElem?_append_left (by omega), hv] at v1
    cases v1
    refine ⟨.ref a0, hv, a0, od, rfl, .inl ⟨ks, fr a.r, ?_⟩⟩
    -- the data are those of the dict
    have dk : ∀ {H : Hp} {d : List (PyData × PyData)}, Dt K H (.ref a0) (.dict d) → isT d = false → H a0 = some (.frz od (.dK ks)) → DtK K H ks d := fun {H d} h hk fr => by
      cases h with
      | dtt x y => simp [isT] at hk
      | dct x y => rw [rd_inj (.inr ⟨od, fr⟩) x]; exact y
    have lk : ds.length = ks.length := by
      have := (dk (R.top (P := S ++ T) (ps := σ ++ us) (e := (.dict ds, _)) (v := .ref a0) (by simp; omega) v2) hk (fr a.r)).len
      omega
    refine k (Itk a0 od ks) H [some (.dict ds, .shr)] [some (.ref a0)] ds.length _ S lS rfl (by simpa [vm] using v2) ⟨?_, ?_⟩ q
    · intro H1 S1 A σ1 ws l1 l1' lw r1 j hj
      refine ⟨⟨fr r1, by omega⟩, ?_⟩
      rintro x H2 ⟨rfl, kk, vv, hx, rfl⟩
      have e1 : (S1 ++ ((T ++ [some (.dict ds, .shr)]) ++ A))[N + T.length]? = some (some (.dict ds, .shr)) := by
        rw [List.getElem?_append_right (by omega), List.append_assoc, List.getElem?_append_right (by omega), show N + T.length - S1.length - T.length = 0 by omega]; rfl
      have ev : (σ1 ++ ((us ++ [some (.ref a0)]) ++ ws))[N + T.length]? = some (some (.ref a0)) := by
        rw [List.getElem?_append_right (by omega), List.append_assoc, List.getElem?_append_right (by omega), show N + T.length - σ1.length - us.length = 0 by omega]; rfl
      obtain ⟨w, w1, w2⟩ := r1.get e1
      rw [ev] at w1
      cases w1
      obtain ⟨d, hd, _⟩ := (dk w2 hk (fr r1)).key j kk vv hx
      rw [getD_some hd]
      have := R.flatR (S := S1 ++ ((T ++ [some (.dict ds, .shr)]) ++ A)) (vs := σ1 ++ ((us ++ [some (.ref a0)]) ++ ws)) (A := []) (ws := []) (by simpa using r1) (by simp; omega) (by simp; omega) (fun _ _ e => e) (flat_kD kk) (dt_kV (K := K) (H := H2) (k := kk))
      simpa using this
    · intro H1 S1 A σ1 ws l1 l1' lw r1
      exact ⟨fr r1, by omega⟩
  · exact q.elim
/-- a, b = x, y -/
def tPar3 (i j : Nat) (t : TA3) : TS3 := fun E B S => t B S fun es S1 => match es with
  | [some (d1, m1), some (d2, m2)] => if B.pn.contains i = true ∨ B.pn.contains j = true then False else E.nx ((S1.set j (some (d2, m2.un j))).set i (some (d1, m1.un i)))
  | _ => False
theorem lift_par {i j : Nat} {ta : TA} {t : TA3} (hi : i < N) (hj : j < N) (ij : i ≠ j) (h : LiftA K N ats c ta t) : LiftS K N (tPar i j ta) (tPar3 i j t) := by
  intro G0 pv B S T σ us H D E a q V
  have lu := a.lu
  have lσ := a.lσ
  refine h a q fun vs H1 es S1 l1 lv le lat r1 _ q1 => ?_
  split at q1
  · rename_i d1 m1 d2 m2
    obtain ⟨x, y, rfl⟩ : ∃ x y, vs = [x, y] := by
      match vs, lv, le with
      | [x, y], _, _ => exact ⟨x, y, rfl⟩
      | [], h1, h2 => simp at h1 h2; omega
      | [_], h1, h2 => simp at h1 h2; omega
      | _ :: _ :: _ :: _, h1, h2 => simp at h1 h2; omega
    refine ⟨x, y, rfl, ?_⟩
    split at q1
    · exact q1.elim
    · rename_i nb
      have b1 : B.pn.contains i = false := by cases e : B.pn.contains i with | false => rfl | true => exact absurd (.inl e) nb
      have b2 : B.pn.contains j = false := by cases e : B.pn.contains j with | false => rfl | true => exact absurd (.inr e) nb
      have s1 := R.store (S := S1) (T := T ++ [some (d1, m1)]) (σ := σ) (us := us ++ [some x]) (d := d2) (m := m2) (v := y) (by simpa using r1) l1 lσ (by simp [lu]) hj
      have s2 := R.store (S := S1.set j (some (d2, m2.un j))) (T := T) (σ := σ.set j (some y)) (us := us) (d := d1) (m := m1) (v := x) (by simpa using s1) (by simpa using l1) (by simpa using lσ) lu hi
      have sc : (σ.set i (some x)).set j (some y) = (σ.set j (some y)).set i (some x) := List.set_comm _ _ ij
      rw [sc]
      exact V.nx _ _ _ (by simpa using l1) (by simpa using lσ) s2 ((a.fx.set a.fb b2).set a.fb b1) q1
  · exact q1.elim
end
end L2.Fb.T

namespace L2.Fb.T
open PySem PySem.Spec
open PyProof.Rows
section
variable {K : PySem.W.Frag} {N : Nat} {G0 G H H' H1 : Hp} {c c1 c2 : Bool} {S S' T P : S3} {σ : St} {us ps zs : List (Option V)} {te : TE} {t t1 t2 : TE3} {pv : PV} {B : Bs} {es A : List (Option Ent)} {ws : List (Option V)} {vs : List V} {ats : List (Option Nat)}
/-! ### sorted -/
theorem dtl_ints : ∀ {ns : List Int} {xs : List V}, DtL K H xs (ns.map PyData.int) → xs = ns.map V.int
  | [], _, h => by cases h; rfl
  | n :: ns, _, h => by
    have h : DtL K H _ (.int n :: ns.map PyData.int) := h
    cases h with
    | cons a b =>
      cases a
      rw [dtl_ints b]
      rfl
theorem dtl_strs : ∀ {ns : List Str} {xs : List V}, DtL K H xs (ns.map PyData.str) → xs = ns.map V.str
  | [], _, h => by cases h; rfl
  | n :: ns, _, h => by
    have h : DtL K H _ (.str n :: ns.map PyData.str) := h
    cases h with
    | cons a b =>
      cases a
      rw [dtl_strs b]
      rfl
theorem ints_dtl : ∀ (ns : List Int), DtL K H (ns.map V.int) (ns.map PyData.int)
  | [] => .nil
  | n :: ns => .cons (.int n) (ints_dtl ns)
theorem strs_dtl : ∀ (ns : List Str), DtL K H (ns.map V.str) (ns.map PyData.str)
  | [] => .nil
  | n :: ns => .cons (.str n) (strs_dtl ns)
theorem flat_ints : ∀ (ns : List Int), flatL (ns.map PyData.int) = true
  | [] => rfl
  | _ :: ns => flat_ints ns
theorem flat_strs : ∀ (ns : List Str), flatL (ns.map PyData.str) = true
  | [] => rfl
  | _ :: ns => flat_strs ns
def fSortI : F3 := fun ds Q => ∃ ns : List Int, ds = [.list (ns.map .int)] ∧ ∀ ns' : List Int, ns'.Perm ns → ns'.Pairwise (· ≤ ·) → Q (.list (ns'.map .int))
theorem n_sortI : NwF K (rSortedA K) fSortI := by
  rintro H vs ds Q Q3 hd ⟨ns, rfl, h⟩ k
  cases hd with
  | cons a b =>
  cases b
  cases a with
  | lst a b =>
  exact ⟨_, ns, rfl, .inl (.inl (by rw [a, dtl_ints b])), fun ns' p pm pw np => k p _ _ np (flat_ints ns') (ints_dtl ns') (h ns' pm pw)⟩
def fSortS : F3 := fun ds Q => ∃ ns : List Str, ds = [.list (ns.map .str)] ∧ ns.length < 64 ∧ ∀ ns' : List Str, ns'.Perm ns → sortedS ns' = true → Q (.list (ns'.map .str))
theorem n_sortS : NwF K (rSortedS K) fSortS := by
  rintro H vs ds Q Q3 hd ⟨ns, rfl, hz, h⟩ k
  cases hd with
  | cons a b =>
  cases b
  cases a with
  | lst a b =>
  exact ⟨_, ns, rfl, .inl (.inl (by rw [a, dtl_strs b])), hz, fun ns' p pm pw np => k p _ _ np (flat_strs ns') (strs_dtl ns') (h ns' pm pw)⟩
theorem dtk_keys : ∀ {ks : List (Key × V)} {ds : List (PyData × PyData)}, DtK K H ks ds → ds.map (·.1) = ks.map fun k => kD k.1
  | _, _, .nil => rfl
  | _, _, .cons a b => by rw [List.map_cons, List.map_cons, dtk_keys b]
theorem keys_strs : ∀ {ks : List (Key × V)} {ns : List Str}, (ks.map fun k => kD k.1) = ns.map PyData.str → ks.map (·.1) = ns.map Sum.inr
  | [], [], _ => rfl
  | k :: ks, n :: ns, h => by
    rw [List.map_cons, List.map_cons] at h
    injection h with h1 h2
    obtain ⟨k1, k2⟩ := k
    cases k1 with
    | inl i => cases h1
    | inr x =>
      cases h1
      rw [List.map_cons, List.map_cons, keys_strs h2]
  | [], _ :: _, h => by cases h
  | _ :: _, [], h => by cases h
theorem keys_ints : ∀ {ks : List (Key × V)} {ns : List Int}, (ks.map fun k => kD k.1) = ns.map PyData.int → ks.map (·.1) = ns.map Sum.inl
  | [], [], _ => rfl
  | k :: ks, n :: ns, h => by
    rw [List.map_cons, List.map_cons] at h
    injection h with h1 h2
    obtain ⟨k1, k2⟩ := k
    cases k1 with
    | inr i => cases h1
    | inl x =>
      cases h1
      rw [List.map_cons, List.map_cons, keys_ints h2]
  | [], _ :: _, h => by cases h
  | _ :: _, [], h => by cases h
/-- sorted(a dict with texts for keys) -/
def fSortD : F3 := fun ds Q => ∃ (kv : List (PyData × PyData)) (ns : List Str), ds = [.dict kv] ∧ isT kv = false ∧ kv.map (·.1) = ns.map .str ∧ ns.length < 64 ∧ ∀ ns' : List Str, ns'.Perm ns → sortedS ns' = true → Q (.list (ns'.map .str))
theorem n_sortD : NwF K (fun xs H Q => ∃ (a : Addr) (kvs : List (Key × V)) (ks : List Str), xs = [.ref a] ∧ Rd H a (.dK kvs) ∧ kvs.map (·.1) = ks.map Sum.inr ∧ ks.length < 64 ∧
    ∀ ys p, ys.Perm ks → sortedS ys = true → H p = none → Q (.ref p) (upd H p (.lst (ys.map V.str)))) fSortD := by
  rintro H vs ds Q Q3 hd ⟨kv, ns, rfl, ht, hk, hz, h⟩ k
  cases hd with
  | cons a b =>
  cases b
  cases a with
  | dtt x y => simp [isT] at ht
  | dct a b =>
  exact ⟨_, _, ns, rfl, a, keys_strs (by rw [← hk, dtk_keys b]), hz, fun ns' p pm pw np => k p _ _ np (flat_strs ns') (strs_dtl ns') (h ns' pm pw)⟩
def fSortDI : F3 := fun ds Q => ∃ (kv : List (PyData × PyData)) (ns : List Int), ds = [.dict kv] ∧ isT kv = false ∧ kv.map (·.1) = ns.map .int ∧ ∀ ns' : List Int, ns'.Perm ns → ns'.Pairwise (· ≤ ·) → Q (.list (ns'.map .int))
theorem n_sortDI : NwF K (fun xs H Q => ∃ a kvs ks, xs = [.ref a] ∧ Rd H a (.dK kvs) ∧ kvs.map (·.1) = ks.map Sum.inl ∧ ∀ (ys : List Int) (p : Addr), ys.Perm ks → ys.Pairwise (· ≤ ·) → H p = none → Q (.ref p) (upd H p (.lst (ys.map V.int)))) fSortDI := by
  rintro H vs ds Q Q3 hd ⟨kv, ns, rfl, ht, hk, h⟩ k
  cases hd with
  | cons a b =>
  cases b
  cases a with
  | dtt x y => simp [isT] at ht
  | dct a b =>
  exact ⟨_, _, ns, rfl, a, keys_ints (by rw [← hk, dtk_keys b]), fun ns' p pm pw np => k p _ _ np (flat_ints ns') (ints_dtl ns') (h ns' pm pw)⟩
/-! ### list(x), min, max, int, abs -/
def fList : F3 := fun ds Q => match ds with
  | [.list l] => flatL l = true ∧ Q (.list l)
  | [.tuple l] => flatL l = true ∧ Q (.list l)
  | _ => False
theorem n_list : NwF K (fun xs H Q => ∃ p ys, xs = [V.ref p] ∧ (SqL K H p ys ∨ SqT K H p ys) ∧ ∀ l, H l = none → Q (.ref l) (upd H l (.lst ys))) fList := by
  intro H vs ds Q Q3 hd h k
  unfold fList at h
  split at h
  · cases hd with
    | cons a b =>
    cases b
    cases a with
    | lst a b => exact ⟨_, _, rfl, .inl (.inl (.inl a)), fun l nl => k l _ _ nl h.1 b h.2⟩
  · cases hd with
    | cons a b =>
    cases b
    cases a with
    | tup a b => exact ⟨_, _, rfl, .inr (.inl (.inl a)), fun l nl => k l _ _ nl h.1 b h.2⟩
  · exact h.elim
def fMin2 : F3 := fun ds Q => match ds with | [.int i, .int j] => Q (.int (if j < i then j else i)) | _ => False
def fMax2 : F3 := fun ds Q => match ds with | [.int i, .int j] => Q (.int (if j > i then j else i)) | _ => False
theorem dt2 {vs : List V} {i j : Int} (h : DtL K H vs [.int i, .int j]) : vs = [.int i, .int j] := by
  cases h with
  | cons a b =>
  cases b with
  | cons b c =>
  cases c
  cases a
  cases b
  rfl
theorem f_min2 : FlF K (fun xs H Q => ∃ i j, xs = [V.int i, .int j] ∧ Q (.int (if j < i then j else i)) H) fMin2 := by
  intro H vs ds Q Q3 hd h k
  unfold fMin2 at h
  split at h
  · exact ⟨_, _, dt2 hd, k _ _ _ (fun _ _ e => e) rfl (.int _) h⟩
  · exact h.elim
theorem f_max2 : FlF K (fun xs H Q => ∃ i j, xs = [V.int i, .int j] ∧ Q (.int (if j > i then j else i)) H) fMax2 := by
  intro H vs ds Q Q3 hd h k
  unfold fMax2 at h
  split at h
  · exact ⟨_, _, dt2 hd, k _ _ _ (fun _ _ e => e) rfl (.int _) h⟩
  · exact h.elim
def fInt1 : F3 := fun ds Q => match ds with | [.int i] => Q (.int i) | [.bool b] => Q (.int (if b then 1 else 0)) | _ => False
theorem f_int1 : FlF K (fun xs H Q => (∃ i, xs = [V.int i] ∧ Q (.int i) H) ∨ ∃ k, xs = [V.bl k] ∧ Q (.int (if k then 1 else 0)) H) fInt1 := by
  intro H vs ds Q Q3 hd h k
  unfold fInt1 at h
  split at h
  · cases hd with
    | cons a b =>
    cases b
    cases a
    exact .inl ⟨_, rfl, k _ _ _ (fun _ _ e => e) rfl (.int _) h⟩
  · cases hd with
    | cons a b =>
    cases b
    cases a
    exact .inr ⟨_, rfl, k _ _ _ (fun _ _ e => e) rfl (.int _) h⟩
  · exact h.elim
/-! ### repr -/
def fRepr : F3 := fun ds Q => match ds with | [d] => (plain d = true ∧ d.showable = true ∧ d.shown.length ≤ sizeLine ∧ d.depth ≤ 60) ∧ Q (.str d.shown) | _ => False
theorem f_repr : FlF K (rShow K) fRepr := by
  intro H vs ds Q Q3 hd h k
  unfold fRepr at h
  split at h
  · cases hd with
    | cons a b =>
    cases b
    obtain ⟨⟨h1, h2, h3, h4⟩, h⟩ := h
    exact ⟨_, _, rfl, a.da _ h1, h2, h3, h4, k _ _ _ (fun _ _ e => e) rfl (.str _) h⟩
  · exact h.elim
/-! ### methods whose answers are flat -/
def MtF (K : PySem.W.Frag) (T : String) (tyOk : PyData → Bool) (r : V → List V → Hp → VK → Prop) (f : F3) : Prop :=
  (∀ {H : Hp} {x : V} {d : PyData}, Dt K H x d → tyOk d = true → tyV K T x H) ∧
  ∀ {H : Hp} {x : V} {vs : List V} {d : PyData} {ds : List PyData} {Q : VK} {Q3 : PyData → Prop}, Dt K H x d → DtL K H vs ds → f (d :: ds) Q3 → (∀ v H' d, Same H H' → flat d = true → Dt K H' v d → Q3 d → Q v H') → r x vs H Q
def tBmF (tyOk : PyData → Bool) (f : F3) (to : TE3) (ta : TA3) : TE3 := fun B S Q => to B S fun d m S1 => tyOk d = true ∧ ta (B.add m.bs) S1 fun es S2 => f (d :: dats es) fun r => Q r .shr S2
theorem lift_bmF {T0 : String} {tyOk : PyData → Bool} {r : V → List V → Hp → VK → Prop} {f : F3} {to : TE} {o3 : TE3} {ta : TA} {t : TA3} (hf : MtF K T0 tyOk r f) (hn : nones ats = true) (ho : Lift K N c1 to o3) (h : LiftA K N ats c2 ta t) : Lift K N (c1 && c2) (tBM K T0 r to ta) (tBmF tyOk f o3 t) := by
  intro G0 pv B S T σ us H Q Q3 a q k
  have lu := a.lu
  have lσ := a.lσ
  refine ho a q fun x H1 d m S1 l1 r1 k1 ⟨ty, q1⟩ => ?_
  have a1 := a.push l1 r1
  have top := R.top (P := S1 ++ T) (ps := σ ++ us) (e := (d, m)) (v := x) (by simp; omega) (by simpa using r1)
  refine ⟨hf.1 top ty, ?_⟩
  refine h a1 q1 fun vs H2 es S2 l2 lv le lat r2 k2 q2 => ?_
  have r2' : R K N G0 H2 ((S2 ++ T) ++ (some (d, m) :: es)) ((σ ++ us) ++ (x :: vs).map some) := by simpa using r2
  have dl := get_all (P := S2 ++ T) (ps := σ ++ us) (some (d, m) :: es) (x :: vs) r2' (by simp; omega) (by simp; omega) (by
    intro e he
    rcases List.mem_cons.mp he with rfl | he
    · exact fun z => nomatch z
    · exact lat.full le hn e he)
  cases dl with
  | cons dx dl =>
  refine hf.2 dx dl q2 fun v H' z s fl dv q3 => k v H' z .shr S2 l2 ?_ (fun cc a u e => ?_) q3
  · have := R.flatR (S := S2 ++ T) (vs := σ ++ us) r2' (by simp; omega) (by simp; omega) s fl dv
    simpa using this
  · have cc : c1 = true ∧ c2 = true := by simpa using cc
    exact s _ _ (k2 cc.2 _ _ (k1 cc.1 _ _ e))
def isL : PyData → Bool | .list _ => true | _ => false
/-- xs.count(d) -/
def fCount : F3 := fun ds Q => match ds with
  | [.list l, d] => (noDictL l = true ∧ noDict d = true ∧ PyData.canLayAll0 l = true ∧ d.canLay0 = true ∧ PyData.depthAll l ≤ 60) ∧ ∃ n : Nat, (l.countP fun e => e.eqv d) = n ∧ Q (.int (n : Int))
  | _ => False
theorem m_count : MtF K "list" isL (rCountD K) fCount := by
  refine ⟨fun {H x d} h ok => ?_, fun {H x vs d ds Q Q3} hx hd h k => ?_⟩
  · cases h <;> simp [isL] at ok
    rename_i a b
    exact .inl ⟨rfl, _, .inl (.inl a)⟩
  · unfold fCount at h
    split at h
    · rename_i l e heq
      injection heq with h1 h2
      subst h1 h2
      cases hd with
      | cons a b =>
      cases b
      cases hx with
      | lst p q =>
      obtain ⟨⟨n1, n2, c1, c2, d1⟩, _, rfl, h⟩ := h
      exact ⟨_, _, l, _, e, rfl, rfl, .inl (.inl p), q.dp _ n1, a.dp _ n2, c1, c2, d1, k _ _ _ (fun _ _ e => e) rfl (.int _) h⟩
    · exact h.elim
/-! ### d.get(k) -/
def tGet3 (ta tb : TE3) : TE3 := fun B S Q => ta B S fun d m S1 => match d with
  | .dict ds => tb (B.add m.bs) S1 fun d2 m2 S2 => keyOk ds d2 = true ∧ ∃ o, dlook ds d2 = o ∧ Q (o.getD .none) (im m (o.getD .none)) S2
  | _ => False
theorem lift_get {ta tb : TE} {a3 b3 : TE3} (ha : Lift K N c1 ta a3) (hb : Lift K N c2 tb b3) : Lift K N (c1 && c2) (tDGet1 ta tb) (tGet3 a3 b3) := by
  intro G0 pv B S T σ us H Q Q3 a h k
  have lu := a.lu
  have lσ := a.lσ
  refine ha a h fun x H1 d m S1 l1 r1 c1' h1 => ?_
  have r1p : R K N G0 H1 (S1 ++ (T ++ [some (d, pubM m)])) (σ ++ (us ++ [some x])) := by
    have := R.pub' (P := S1 ++ T) (ps := σ ++ us) (d := d) (m := m) (v := x) (by simpa using r1) (by simp; omega) (by simp; omega)
    simpa using this
  have a1 := a.push l1 r1p
  have eb : (pubM m).bs = m.bs := by cases m <;> rfl
  rw [eb] at a1
  split at h1
  · rename_i ds
    have top1 := R.top (P := S1 ++ T) (ps := σ ++ us) (e := (.dict ds, pubM m)) (v := x) (by simp; omega) (by simpa using r1p)
    obtain ⟨b, rfl, isd⟩ : ∃ b, x = .ref b ∧ IsD H1 b := by
      cases top1 with
      | dct p q => exact ⟨_, rfl, .inl ⟨_, p⟩⟩
      | dtt p q => exact ⟨_, rfl, .inr ⟨_, p⟩⟩
    refine ⟨b, rfl, isd, ?_⟩
    refine hb a1 h1 fun y H2 e m2 S2 l2 r2 c2' ⟨ok, _, rfl, h2⟩ => ?_
    have e0 : (S2 ++ ((T ++ [some (.dict ds, pubM m)]) ++ [some (e, m2)]))[N + T.length]? = some (some (.dict ds, pubM m)) := by
      rw [List.getElem?_append_right (by omega), List.append_assoc, List.getElem?_append_right (by omega), show N + T.length - S2.length - T.length = 0 by omega]; rfl
    have ev : (σ ++ ((us ++ [some (.ref b)]) ++ [some y]))[N + T.length]? = some (some (.ref b)) := by
      rw [List.getElem?_append_right (by omega), List.append_assoc, List.getElem?_append_right (by omega), show N + T.length - σ.length - us.length = 0 by omega]; rfl
    have top := R.top (P := S2 ++ (T ++ [some (.dict ds, pubM m)])) (ps := σ ++ (us ++ [some (.ref b)])) (e := (e, m2)) (v := y) (by simp; omega) (by simpa using r2)
    obtain ⟨x', q1, dx⟩ := r2.get e0
    rw [ev] at q1
    cases q1
    obtain ⟨b', o, eb', dg, hno, hso⟩ := dget_of dx top ok
    cases eb'
    refine ⟨o, dg, k _ H2 _ _ S2 l2 ?_ (fun cc => ?_) h2⟩
    · have e2 : ∀ z, im (pubM m) z = im m z := fun z => by cases m <;> rfl
      have r3 : R K N G0 H2 ((S2 ++ ((T ++ [some (.dict ds, pubM m)]) ++ [some (e, m2)])) ++ [some ((dlook ds e).getD .none, im (pubM m) ((dlook ds e).getD .none))]) ((σ ++ ((us ++ [some (.ref b)]) ++ [some y])) ++ [some (o.getD .non)]) := by
        refine R.part r2 e0 ev (by simp; omega) (by cases m <;> simp [pubM]) fun G hG dG => ?_
        cases q : dlook ds e with
        | none =>
          rw [hno q]
          exact .non
        | some z =>
          obtain ⟨v, hv, _, hp⟩ := hso z q
          rw [hv]
          exact hp G hG dG
      rw [e2] at r3
      have := R.mid (P := S2 ++ T) (ps := σ ++ us) (es := [some (.dict ds, pubM m), some (e, m2)]) (ws := [some (.ref b), some y]) (d := (dlook ds e).getD .none) (m := im m ((dlook ds e).getD .none)) (v := o.getD .non) (by simpa using r3) (by simp; omega) rfl (by simp; omega)
      simpa using this
    · have cc : c1 = true ∧ c2 = true := by simpa using cc
      exact fun a u q => c2' cc.2 _ _ (c1' cc.1 _ _ q)
  · exact h1.elim
/-! ### a list, a dict made empty -/
def tClr3 (i : Nat) : TE3 := fun B S Q => match S[i]? with
  | some (some (.dict ds, .own)) => if B.br.contains i = true then False else isT ds = false ∧ Q .none .shr (mset i (.dict []) S)
  | _ => False
theorem lift_dclear {i : Nat} (hi : i < N) : Lift K N false (tBM0 K "dict" rClearD (tVar i)) (tClr3 i) := by
  intro G0 pv B S T σ us H Q Q3 a q k
  have lS := a.lS
  have lu := a.lu
  have lσ := a.lσ
  unfold tClr3 at q
  split at q
  · rename_i ds e0
    cases hb : B.br.contains i with
    | true => rw [hb, if_pos rfl] at q; exact q.elim
    | false =>
    rw [hb, if_neg Bool.false_ne_true] at q
    obtain ⟨ht, q⟩ := q
    obtain ⟨F, r⟩ := a.r
    have r' : Rel K N G0 H F ((S ++ T) ++ []) ((σ ++ us) ++ []) := by simpa using r
    obtain ⟨v, v1, v2⟩ := r.ent i _ (by rw [List.getElem?_append_left (by obtain ⟨lt, _⟩ := List.getElem?_eq_some_iff.mp e0; exact lt)]; exact e0)
    rw [List.getElem?_append_left (by omega)] at v1
    have v2 : Own K (Gof H F) H v (.dict ds) (F i) := v2
    generalize hF : F i = Fi at v2
    cases v2 with
    | dtt x y => simp [isT] at ht
    | dct hp ok =>
    rename_i p ks Fc
    have li : p ∈ F i := by rw [hF]; exact List.mem_cons_self ..
    refine ⟨.ref p, v1, .inr (.inr (.inl ⟨rfl, .inl ⟨_, hp⟩⟩)), p, ks, rfl, rfl, hp, ?_⟩
    refine k _ _ .none .shr (mset i (.dict []) S) (by rw [mset_len]; exact lS) ?_ (fun e => nomatch e) q
    have := Rel.mut (i := i) (d0 := .dict ds) (d' := .dict []) (e := (.none, .shr)) (v := .non) (Li := [p]) (Lr := []) (H' := upd H p (.dK [])) r' lS lσ lu e0 (bnot a hb) (fun b u h1 h2 e => by rw [upd_ne fun z => h1 (by rw [z]; exact li)]; exact e) (by simp) (fun b mb => by
        simp at mb
        exact .inr (.inl (by rw [mb]; exact li))) (.inr ⟨rfl, rfl, rfl⟩) (fun b mb => by
        simp at mb
        rw [mb]
        exact ⟨_, upd_same, trivial⟩) fun G' w hG tup hw ow => ?_
    · simpa using this
    · rw [v1] at hw
      cases hw
      exact ⟨.dct upd_same .nil, (fun e => nomatch e), fun _ => .non⟩
  · exact q.elim
end
end L2.Fb.T

namespace L2.Fb.T
open PySem PySem.Spec
open PyProof.Rows
section
variable {K : PySem.W.Frag} {N : Nat} {G0 G H H' H1 : Hp} {c c1 c2 : Bool} {S S' T P : S3} {σ : St} {us ps zs : List (Option V)} {te : TE} {t t1 t2 : TE3} {pv : PV} {B : Bs} {es A : List (Option Ent)} {ws : List (Option V)} {vs : List V} {ats : List (Option Nat)}
/-! ### isinstance -/
theorem isOf_ok {T0 : String} (ht : T0 ∈ ["str", "int", "bool", "list", "tuple", "dict"]) (d : PyData) : kitB (tyName d) T0 = some (isOf T0 d) := by
  simp only [List.mem_cons, List.not_mem_nil, or_false] at ht
  rcases ht with rfl | rfl | rfl | rfl | rfl | rfl
  · exact kit_str d
  · exact kit_int d
  · exact kit_bool d
  · exact kit_list d
  · exact kit_tuple d
  · exact kit_dict d
def tIsi3 (T0 : String) (t : TE3) : TE3 := fun B S Q => t B S fun d m S1 => tk d = true ∧ Q (.bool (isOf T0 d)) .shr S1
theorem lift_isi {T0 : String} (ht : T0 ∈ ["str", "int", "bool", "list", "tuple", "dict"]) (h : Lift K N c te t) : Lift K N c (tCB (rIsi K) (tCons te (tCons (tC (.ty T0)) tNil))) (tIsi3 T0 t) := by
  intro G0 pv B S T σ us H Q Q3 a q k
  have lu := a.lu
  have lσ := a.lσ
  refine h a q fun v H' d m S' l r kc ⟨tkd, q⟩ => ?_
  have top := R.top (P := S' ++ T) (ps := σ ++ us) (e := (d, m)) (v := v) (by simp; omega) (by simpa using r)
  refine ⟨v, .ty T0, _, _, isOf T0 d, rfl, .ty _, top.ty tkd, kit_ty (isOf_ok ht d), k _ H' _ .shr S' l ?_ kc q⟩
  have := R.flatR (S := S' ++ T) (vs := σ ++ us) (A := [some (d, m)]) (ws := [some v]) (by simpa using r) (by simp; omega) (by simp; omega) (fun _ _ e => e) (d := .bool (isOf T0 d)) rfl (.bl _)
  simpa using this
/-! ### dict(pairs) of flat things -/
def pairsD (kv : List (PyData × PyData)) : List PyData := kv.map fun p => .tuple [p.1, p.2]
def fDict : F3 := fun ds Q => ∃ (kv : List (PyData × PyData)) (ks : List Key), ds = [.list (pairsD kv)] ∧ kv.map (·.1) = ks.map kD ∧ ks.Nodup ∧ flatL (kv.map (·.2)) = true ∧ Q (.dict kv)
/-- a new dict of one's own, flat within -/
def NwD (K : PySem.W.Frag) (r : List V → Hp → VK → Prop) (f : F3) : Prop :=
  ∀ {H : Hp} {vs : List V} {ds : List PyData} {Q : VK} {Q3 : PyData → Prop}, DtL K H vs ds → f ds Q3 → (∀ p ks kv, H p = none → flatL (kv.map (·.2)) = true → DtK K H ks kv → Q3 (.dict kv) → Q (.ref p) (upd H p (.dK ks))) → r vs H Q
theorem ownK_flat : ∀ {kv : List (PyData × PyData)} {ks : List (Key × V)}, DtK K G ks kv → flatL (kv.map (·.2)) = true → OwnK K G H ks kv []
  | _, _, .nil, _ => .nil
  | _, _, .cons (d := d) (ds := ds) a b, f => by
    have f : flat d = true ∧ flatL (ds.map (·.2)) = true := by simpa [flatL] using f
    exact .cons (F := []) (F' := []) (Own.flat d f.1 a) (ownK_flat b f.2)
theorem dtk_flat (e : ∀ a xs, H a = some (.tup xs) → H' a = some (.tup xs)) : ∀ {kv : List (PyData × PyData)} {ks : List (Key × V)}, DtK K H ks kv → flatL (kv.map (·.2)) = true → DtK K H' ks kv
  | _, _, .nil, _ => .nil
  | _, _, .cons (d := d) (ds := ds) a b, f => by
    have f : flat d = true ∧ flatL (ds.map (·.2)) = true := by simpa [flatL] using f
    exact .cons (Dt.flat e d f.1 a) (dtk_flat e b f.2)
theorem lift_cbD {ta : TA} {t : TA3} {r : List V → Hp → VK → Prop} {f : F3} (hf : NwD K r f) (hn : nones ats = true) (h : LiftA K N ats c ta t) : Lift K N c (tCB r ta) (tCBN f t) := by
  intro G0 pv B S T σ us H Q Q3 a q k
  have lS := a.lS
  have lσ := a.lσ
  have lu := a.lu
  refine h a q fun vs H1 es S1 l1 lv le lat r1 k1 q1 => ?_
  have r1' : R K N G0 H1 ((S1 ++ T) ++ es) ((σ ++ us) ++ vs.map some) := by simpa using r1
  have dl := get_all (P := S1 ++ T) (ps := σ ++ us) es vs r1' (by simp; omega) (by omega) (lat.full le hn)
  refine hf dl q1 fun p ks kv np fl dv q2 => k _ _ _ .own S1 l1 ?_ (fun cc a u e => same_new np _ _ (k1 cc _ _ e)) q2
  obtain ⟨F, r2⟩ := r1'
  have := r2.build (by simp; omega) (by simp; omega) (H' := upd H1 p (.dK ks)) (v := .ref p) (e := (.dict kv, .own)) (fun a u _ e => same_new np _ _ e) (L := [p]) (by simp) (fun a m => .inl (by rw [List.mem_singleton.mp m]; exact np)) (.inl rfl) (fun j e => nomatch e) fun F' f1 f2 f3 hG => by
    show Own K _ _ _ _ (F' (S1 ++ T).length)
    rw [f2]
    exact .dct upd_same (ownK_flat (dtk_flat (fun a xs q => hG _ _ (r2.sqt q)) dv fl) fl)
  simpa using this
theorem merge_new : ∀ (kvs acc : List (Key × V)), ((acc ++ kvs).map (·.1)).Nodup → mergeK acc kvs = acc ++ kvs
  | [], acc, _ => by simp [mergeK]
  | p :: r, acc, h => by
    have e : putK acc p.1 p.2 = acc ++ [p] := by
      refine putK_new _ ?_
      cases q : valV acc p.1 with
      | none => rfl
      | some v =>
        have : (valV acc p.1).isSome = true := by rw [q]; rfl
        rw [← valV_any, List.any_eq_true] at this
        obtain ⟨x, mx, ex⟩ := this
        have ex := of_decide_eq_true ex
        rw [List.map_append, List.map_cons] at h
        exact absurd rfl ((List.nodup_append.mp h).2.2 x.1 (List.mem_map.mpr ⟨x, mx, rfl⟩) x.1 (by rw [ex]; exact List.mem_cons_self ..))
    have h' : (((acc ++ [p]) ++ r).map (·.1)).Nodup := by simpa using h
    show mergeK (putK acc p.1 p.2) r = acc ++ p :: r
    rw [e, merge_new r _ h']
    simp
theorem pairs_at : ∀ {kv : List (PyData × PyData)} {ks : List Key} {xs : List V}, kv.map (·.1) = ks.map kD → DtL K H xs (pairsD kv) → ∃ (ps : List Addr) (kvs : List (Key × V)), xs = ps.map V.ref ∧ kvs.map (·.1) = ks ∧ DtK K H kvs kv ∧ Paired (fun p (kv : Key × V) => SqT K H p [kV kv.1, kv.2]) ps kvs
  | [], ks, xs, e, h => by
    cases h
    cases ks with
    | nil => exact ⟨[], [], rfl, rfl, .nil, .nil⟩
    | cons _ _ => cases e
  | (d, e) :: kv, ks, xs, hk, h => by
    cases ks with
    | nil => cases hk
    | cons k ks =>
      rw [List.map_cons, List.map_cons] at hk
      injection hk with h1 h2
      have h1 : d = kD k := h1
      subst h1
      have h : DtL K H xs (.tuple [kD k, e] :: pairsD kv) := h
      cases h with
      | cons a b =>
      obtain ⟨ps, kvs, e1, e2, e3, e4⟩ := pairs_at h2 b
      cases a with
      | tup p q =>
      rename_i t ys
      cases q with
      | cons q1 q =>
      cases q with
      | cons q2 q =>
      cases q
      have := key_at q1
      subst this
      exact ⟨t :: ps, (k, _) :: kvs, by rw [e1]; rfl, by rw [List.map_cons, e2], .cons q2 e3, .cons (.inl (.inl p)) e4⟩
theorem n_dict : NwD K (fun xs H Q => ∃ a ps kvs, xs = [V.ref a] ∧ SqL K H a (ps.map V.ref) ∧ Paired (fun p (kv : Key × V) => SqT K H p [kV kv.1, kv.2]) ps kvs ∧ ∀ p, H p = none → Q (.ref p) (upd H p (.dK (mergeK [] kvs)))) fDict := by
  rintro H vs ds Q Q3 hd ⟨kv, ks, rfl, hk, nd, fl, h⟩ k
  cases hd with
  | cons a b =>
  cases b
  cases a with
  | lst p q =>
  obtain ⟨ps, kvs, e1, e2, e3, e4⟩ := pairs_at hk q
  subst e1
  refine ⟨_, ps, kvs, rfl, .inl (.inl p), e4, fun p np => ?_⟩
  rw [merge_new kvs [] (by simpa [e2] using nd), List.nil_append]
  exact k p kvs kv np fl e3 h
/-! ### two dicts of one's own that are alike -/
def atom : PyData → Bool | .int _ => true | .str _ => true | .bool _ => true | .none => true | _ => false
def tNeD3 (i j : Nat) : TE3 := fun B S Q => match S[i]?, S[j]? with
  | some (some (.dict d1, .own)), some (some (.dict d2, .own)) => (isT d1 = false ∧ isT d2 = false ∧ d1.length = d2.length ∧ ∀ p ∈ d1, dlook d2 p.1 = some p.2 ∧ atom p.2 = true) ∧ Q (.bool false) .shr S
  | _, _ => False
theorem atom_eq {v w : V} {d : PyData} (h : atom d = true) (a : Dt K G v d) (b : Dt K H w d) : v = w ∧ flatB v = true := by
  cases a <;> simp [atom] at h <;> cases b <;> exact ⟨rfl, rfl⟩
theorem lift_neD {i j : Nat} (hi : i < N) (hj : j < N) : Lift K N true (tOp rNeDA (tVar i) (tVar j)) (tNeD3 i j) := by
  intro G0 pv B S T σ us H Q Q3 a q k
  have lS := a.lS
  have lu := a.lu
  have lσ := a.lσ
  unfold tNeD3 at q
  split at q
  · rename_i d1 d2 e1 e2
    obtain ⟨⟨t1, t2, ll, hp⟩, q⟩ := q
    obtain ⟨F, r⟩ := a.r
    have get : ∀ {i : Nat} {d : List (PyData × PyData)}, S[i]? = some (some (.dict d, .own)) → isT d = false → ∃ p ks, σ[i]? = some (some (.ref p)) ∧ H p = some (.dK ks) ∧ DtK K H ks d := fun {i d} e t => by
      obtain ⟨lt, _⟩ := List.getElem?_eq_some_iff.mp e
      obtain ⟨v, v1, v2⟩ := r.ent i _ (by rw [List.getElem?_append_left lt]; exact e)
      rw [List.getElem?_append_left (by omega)] at v1
      have dv := v2.dt (gof_same H F)
      have v2 : Own K (Gof H F) H v (.dict d) (F i) := v2
      generalize F i = Fi at v2
      cases v2 with
      | dtt x y => simp [isT] at t
      | dct hp ok =>
        refine ⟨_, _, v1, hp, ?_⟩
        cases dv with
        | dtt x y => simp [isT] at t
        | dct x y => rw [rd_inj (.inl hp) x]; exact y
    obtain ⟨p, ks, hv, hpk, dk⟩ := get e1 t1
    obtain ⟨p', ls, hv', hpl, dl⟩ := get e2 t2
    refine ⟨.ref p, hv, .ref p', hv', p, p', ks, ls, rfl, rfl, hpk, hpl, by rw [dk.len, dl.len, ll], fun kv mkv => ?_, k _ H _ .shr S lS ?_ (fun _ _ _ e => e) q⟩
    · obtain ⟨n, hn⟩ := List.mem_iff_getElem?.mp mkv
      obtain ⟨d, hd, dv⟩ := dk.key n kv.1 kv.2 hn
      obtain ⟨h1, h2⟩ := hp _ (List.mem_of_getElem? hd)
      obtain ⟨v, hv, dv2⟩ := (dl.look kv.1).1 d h1
      obtain ⟨rfl, fb⟩ := atom_eq h2 dv dv2
      exact ⟨hv, fb⟩
    · have := R.flatR (S := S ++ T) (vs := σ ++ us) (A := []) (ws := []) (by simpa using a.r) (by simp; omega) (by simp; omega) (fun _ _ e => e) (d := .bool false) rfl (.bl _)
      simpa using this
  · exact q.elim
end
/-! ### the rules, with their syntax -/
section
variable {X : Cx} {K : PySem.W.Frag} {pos p : Pos} {c c1 c2 : Bool} {a b e e2 tg iter : Expr} {es : List Expr} {ta tb te : TE} {t t2 t3 : TE3} {tA : TA} {tA3 : TA3} {ats : List (Option Nat)} {x : Str} {r : V → V → Hp → VK → Prop} {r3 : R23} {ca : List V → Hp → VK → Prop} {f : F3} {id T0 : String} {wi : TI} {ti : TI3} {g : TG} {g3 : TG3} {vs : List Nat} {ts : TS} {s3 : TS3} {st : Stmt}
theorem e_op {op : Operator} (hK : X.K = K) (ho : OpR X (binaryOp op) r) (hf : OpF K r r3) (h1 : PE3 X a ta c1 t) (h2 : PE3 X b tb c2 t2) : PE3 X (.BinOp a op b pos) (tOp r ta tb) (c1 && c2) (tOp3 r3 t t2) := by subst hK; exact ⟨pe_op ho h1.1 h2.1, lift_op hf h1.2 h2.2⟩
theorem e_cmp {op : CmpOp} (hK : X.K = K) (ho : OpR X (compareOp op) r) (hf : OpF K r r3) (h1 : PE3 X a ta c1 t) (h2 : PE3 X b tb c2 t2) (hm : behindInMarks op b = false) : PE3 X (.Compare a [op] [b] pos) (tOp r ta tb) (c1 && c2) (tOp3 r3 t t2) := by subst hK; exact ⟨pe_cmpR ho h1.1 h2.1 hm, lift_op hf h1.2 h2.2⟩
theorem lift_test {K : PySem.W.Frag} {N : Nat} (h : Lift K N c te t) : LiftT K N (tTest te) (tVal3 t) := lift_val h
theorem t_cmp {op : CmpOp} (hK : X.K = K) (ho : OpR X (compareOp op) r) (hf : OpF K r r3) (h1 : PE3 X a ta c1 t) (h2 : PE3 X b tb c2 t2) (hm : behindInMarks op b = false) : PT3 X (.Compare a [op] [b] pos) (tTest (tOp r ta tb)) (tVal3 (tOp3 r3 t t2)) := by subst hK; exact ⟨pt_cmpR ho h1.1 h2.1 hm, lift_test (lift_op hf h1.2 h2.2)⟩
theorem e_ix {sel : PyData → PyData → Option PyData} (hK : X.K = K) (hr : IxR X r) (hf : PtF K r sel) (h1 : PE3 X a ta c1 t) (h2 : PE3 X b tb c2 t2) (hs : PlainIx b) : PE3 X (.Subscript a b pos) (tOp r ta tb) (c1 && c2) (tIx3 sel t t2) := by subst hK; exact ⟨pe_ix hr h1.1 h2.1 hs, lift_part hf h1.2 h2.2⟩
theorem e_dget (hu : X.A.units + 1 < cLine) (h1 : PE3 X a ta c1 t) (h2 : PE3 X b tb c2 t2) (hs : NoSl b) : PE3 X (.Subscript a b pos) (tDGet ta tb) (c1 && c2) (tIx3 selD t t2) := ⟨pe_dget hu h1.1 h2.1 hs, lift_part (r := rDGet) p_dget h1.2 h2.2⟩
theorem e_din (hu : X.A.units + 1 < cLine) (h1 : PE3 X a ta c1 t) (h2 : PE3 X b tb c2 t2) (hm : behindInMarks .In b = false) : PE3 X (.Compare a [.In] [b] pos) (tDIn ta tb) (c1 && c2) (tOp3 (fIn false) t t2) := ⟨pe_cmp (pc_din hu h1.1 h2.1) hm, lift_op (r := rDIn false) (f_in false) h1.2 h2.2⟩
theorem e_dnotin (hu : X.A.units + 1 < cLine) (h1 : PE3 X a ta c1 t) (h2 : PE3 X b tb c2 t2) (hm : behindInMarks .NotIn b = false) : PE3 X (.Compare a [.NotIn] [b] pos) (tDNotIn ta tb) (c1 && c2) (tOp3 (fIn true) t t2) := ⟨pe_cmp (pc_dnotin hu h1.1 h2.1) hm, lift_op (r := rDIn true) (f_in true) h1.2 h2.2⟩
theorem t_din (hu : X.A.units + 1 < cLine) (h1 : PE3 X a ta c1 t) (h2 : PE3 X b tb c2 t2) (hm : behindInMarks .In b = false) : PT3 X (.Compare a [.In] [b] pos) (tB (tDIn ta tb)) (tVal3 (tOp3 (fIn false) t t2)) := ⟨pt_cmp (pc_din hu h1.1 h2.1) hm, lift_val (lift_op (r := rDIn false) (f_in false) h1.2 h2.2)⟩
theorem t_dnotin (hu : X.A.units + 1 < cLine) (h1 : PE3 X a ta c1 t) (h2 : PE3 X b tb c2 t2) (hm : behindInMarks .NotIn b = false) : PT3 X (.Compare a [.NotIn] [b] pos) (tB (tDNotIn ta tb)) (tVal3 (tOp3 (fIn true) t t2)) := ⟨pt_cmp (pc_dnotin hu h1.1 h2.1) hm, lift_val (lift_op (r := rDIn true) (f_in true) h1.2 h2.2)⟩
theorem e_cbF (hK : X.K = K) (hc : CallR X (.builtin id) ca) (hf : FlF K ca f) (hg : Gl X x) (hm : X.mg x = none) (hv : bootBuiltins x = some (.builtin id)) (ha : PA3 X (e :: es) tA ats c tA3) (hn : nones ats = true := by rfl) (hnm : x ≠ "__name__" := by decide) (hdb : (x == ("__debug__" : Str)) = false := by decide)
    (he : starEach (e :: es) X.env = (false, eval e X.env) :: starEach es X.env := by rfl) (hpl : (backTo pos (starEach es X.env)).any (·.1) = false := by rfl) : PE3 X (.Call (.Name x p) (e :: es) [] pos) (tCB ca tA) c (tCBF f tA3) := by subst hK; exact ⟨pe_callB hc hg hm hv ha.1 hnm hdb he hpl, lift_cbF hf hn ha.2⟩
theorem e_cbN (hK : X.K = K) (hc : CallR X (.builtin id) ca) (hf : NwF K ca f) (hg : Gl X x) (hm : X.mg x = none) (hv : bootBuiltins x = some (.builtin id)) (ha : PA3 X (e :: es) tA ats c tA3) (hn : nones ats = true := by rfl) (hnm : x ≠ "__name__" := by decide) (hdb : (x == ("__debug__" : Str)) = false := by decide)
    (he : starEach (e :: es) X.env = (false, eval e X.env) :: starEach es X.env := by rfl) (hpl : (backTo pos (starEach es X.env)).any (·.1) = false := by rfl) : PE3 X (.Call (.Name x p) (e :: es) [] pos) (tCB ca tA) c (tCBN f tA3) := by subst hK; exact ⟨pe_callB hc hg hm hv ha.1 hnm hdb he hpl, lift_cbN hf hn ha.2⟩
theorem e_tyF (hK : X.K = K) (hc : CallR X (.type T0) ca) (hf : FlF K ca f) (hg : Gl X x) (hm : X.mg x = none) (hv : bootBuiltins x = some (.type T0)) (ha : PA3 X (e :: es) tA ats c tA3) (hn : nones ats = true := by rfl) (hnm : x ≠ "__name__" := by decide) (hdb : (x == ("__debug__" : Str)) = false := by decide)
    (he : starEach (e :: es) X.env = (false, eval e X.env) :: starEach es X.env := by rfl) (hpl : (backTo pos (starEach es X.env)).any (·.1) = false := by rfl) : PE3 X (.Call (.Name x p) (e :: es) [] pos) (tCB ca tA) c (tCBF f tA3) := by subst hK; exact ⟨pe_callTy hc hg hm hv ha.1 hnm hdb he hpl, lift_cbF hf hn ha.2⟩
theorem e_tyN (hK : X.K = K) (hc : CallR X (.type T0) ca) (hf : NwF K ca f) (hg : Gl X x) (hm : X.mg x = none) (hv : bootBuiltins x = some (.type T0)) (ha : PA3 X (e :: es) tA ats c tA3) (hn : nones ats = true := by rfl) (hnm : x ≠ "__name__" := by decide) (hdb : (x == ("__debug__" : Str)) = false := by decide)
    (he : starEach (e :: es) X.env = (false, eval e X.env) :: starEach es X.env := by rfl) (hpl : (backTo pos (starEach es X.env)).any (·.1) = false := by rfl) : PE3 X (.Call (.Name x p) (e :: es) [] pos) (tCB ca tA) c (tCBN f tA3) := by subst hK; exact ⟨pe_callTy hc hg hm hv ha.1 hnm hdb he hpl, lift_cbN hf hn ha.2⟩
theorem e_tyD (hK : X.K = K) (hc : CallR X (.type T0) ca) (hf : NwD K ca f) (hg : Gl X x) (hm : X.mg x = none) (hv : bootBuiltins x = some (.type T0)) (ha : PA3 X (e :: es) tA ats c tA3) (hn : nones ats = true := by rfl) (hnm : x ≠ "__name__" := by decide) (hdb : (x == ("__debug__" : Str)) = false := by decide)
    (he : starEach (e :: es) X.env = (false, eval e X.env) :: starEach es X.env := by rfl) (hpl : (backTo pos (starEach es X.env)).any (·.1) = false := by rfl) : PE3 X (.Call (.Name x p) (e :: es) [] pos) (tCB ca tA) c (tCBN f tA3) := by subst hK; exact ⟨pe_callTy hc hg hm hv ha.1 hnm hdb he hpl, lift_cbD hf hn ha.2⟩
theorem e_lkE {i : Nat} (h : PE3 X e te c t) : PE3 X e (tLockOE te) false (tLkE i t) := ⟨pe_lockO h.1, lift_lkE h.2⟩
theorem s_lkS {i : Nat} (h : PS3 X st ts s3) : PS3 X st (tLockO ts) (tLkS i s3) := ⟨ps_lockO h.1, lift_lkS h.2⟩
theorem i_keys {i : Nat} {p : Pos} (h : PE X (.Name x p) (tVar i)) (hi : i < X.N.length) : PI3 X tg (.Name x p) (iKeys (tVar i)) (tKeys3 i) := ⟨pi_keys h, lift_keys hi⟩
theorem i_rng1 {a : Expr} (hg : Gl X "range") (hm : X.mg "range" = none) (ha : PA3 X [a] tA ats c tA3) (hn : nones ats = true := by rfl) (hs : starEach [a] X.env = [(false, eval a X.env)] := by rfl) : PI3 X tg (.Call (.Name "range" p) [a] [] pos) (iRng1 tA) (tRng1 tA3) := ⟨pi_range1 hg hm ha.1 hs, lift_rng1 hn ha.2⟩
theorem i_rng2 {a b : Expr} (hg : Gl X "range") (hm : X.mg "range" = none) (ha : PA3 X [a, b] tA ats c tA3) (hn : nones ats = true := by rfl) (hs : starEach [a, b] X.env = [(false, eval a X.env), (false, eval b X.env)] := by rfl) (hs2 : starEach [b] X.env = [(false, eval b X.env)] := by rfl) : PI3 X tg (.Call (.Name "range" p) [a, b] [] pos) (iRng2 tA) (tRng2 tA3) := ⟨pi_range2 hg hm ha.1 hs hs2, lift_rng2 hn ha.2⟩
theorem s_asg {h1 : (assignEach [tg] X.env).map (·.2) = [assign tg X.env]} (he : PE3 X e te c t) (hg : PG3 X tg vs g g3) (hs : swapsWithSole [tg] e pos.line X.env = pure false := by rfl) (hw : swappedStores [tg] e X.env = pure none := by rfl) : PS3 X (.Assign [tg] e pos) (tAsg te g) (fun E B S => t B S fun d m S1 => g3 B (d, m) S1 E.nx) := ⟨ps_asg he.1 hg.1 hs hw h1, lift_asg he.2 hg.2⟩
end
end L2.Fb.T

namespace L2.Fb.T
open PySem PySem.Spec
open PyProof.Rows
section
variable {K : PySem.W.Frag} {N : Nat} {G0 G H H' H1 : Hp} {c c1 c2 : Bool} {S S' T P : S3} {σ : St} {us ps zs : List (Option V)} {te ta tb : TE} {t t1 t2 : TE3} {pv : PV} {B : Bs} {es A : List (Option Ent)} {ws : List (Option V)} {vs : List V} {ats : List (Option Nat)} {tt tc tc2 : TT} {c3 d3 : TT3}
/-! ### and, or, not of truths, as values -/
def tAndV3 (t u : TE3) : TE3 := fun B S Q => t B S fun d _ S1 => match d with | .bool b => if b = true then u B S1 Q else Q (.bool false) .shr S1 | _ => False
def tOrV3 (t u : TE3) : TE3 := fun B S Q => t B S fun d _ S1 => match d with | .bool b => if b = true then Q (.bool true) .shr S1 else u B S1 Q | _ => False
def tNotV3 (t : TE3) : TE3 := fun B S Q => t B S fun d _ S1 => match d with | .bool b => Q (.bool (!b)) .shr S1 | _ => False
def tIfV3 (c : TT3) (t u : TE3) : TE3 := fun B S Q => c B S fun b S1 => if b = true then t B S1 Q else u B S1 Q
theorem At.atom (a : At K N G0 pv B S T σ us H) {v : V} {d : PyData} (f : flat d = true) (h : Dt K H v d) : R K N G0 H (S ++ (T ++ [some (d, .shr)])) (σ ++ (us ++ [some v])) := by
  have lS := a.lS
  have lu := a.lu
  have lσ := a.lσ
  have := R.flatR (S := S ++ T) (vs := σ ++ us) (A := []) (ws := []) (by simpa using a.r) (by simp; omega) (by simp; omega) (fun _ _ e => e) f h
  simpa using this
theorem At.pop (a : At K N G0 pv B S T σ us H) {d : PyData} {m : Md} {v : V} (l : S'.length = N) (r : R K N G0 H' (S' ++ (T ++ [some (d, m)])) (σ ++ (us ++ [some v]))) : At K N G0 pv B S' T σ us H' ∧ Dt K H' v d := by
  have lu := a.lu
  have lσ := a.lσ
  have r' : R K N G0 H' ((S' ++ T) ++ [some (d, m)]) ((σ ++ us) ++ [some v]) := by simpa using r
  exact ⟨a.of l a.lσ (R.cut r' (by simp; omega) (by simp; omega)) a.fx, R.top (by simp; omega) r'⟩
theorem lift_andV (h1 : Lift K N c1 ta t1) (h2 : Lift K N c2 tb t2) : Lift K N false (tAndV ta tb) (tAndV3 t1 t2) := by
  intro G0 pv B S T σ us H Q Q3 a q k
  refine h1 a q fun v H' d m S' l r kc q => ?_
  obtain ⟨a', dv⟩ := a.pop l r
  split at q
  · rename_i b
    cases dv
    refine ⟨b, rfl, ?_⟩
    cases b with
    | true => exact h2 a' (by simpa using q) fun v' H2 d' m' S2 l2 r2 _ q2 => k v' H2 d' m' S2 l2 r2 (fun e => nomatch e) q2
    | false => exact k _ _ _ _ S' l (a'.atom (d := .bool false) rfl (.bl _)) (fun e => nomatch e) (by simpa using q)
  · exact q.elim
theorem lift_orV (h1 : Lift K N c1 ta t1) (h2 : Lift K N c2 tb t2) : Lift K N false (tOrV ta tb) (tOrV3 t1 t2) := by
  intro G0 pv B S T σ us H Q Q3 a q k
  refine h1 a q fun v H' d m S' l r kc q => ?_
  obtain ⟨a', dv⟩ := a.pop l r
  split at q
  · rename_i b
    cases dv
    refine ⟨b, rfl, ?_⟩
    cases b with
    | false => exact h2 a' (by simpa using q) fun v' H2 d' m' S2 l2 r2 _ q2 => k v' H2 d' m' S2 l2 r2 (fun e => nomatch e) q2
    | true => exact k _ _ _ _ S' l (a'.atom (d := .bool true) rfl (.bl _)) (fun e => nomatch e) (by simpa using q)
  · exact q.elim
theorem lift_notV (h1 : Lift K N c1 ta t1) : Lift K N false (tNotV ta) (tNotV3 t1) := by
  intro G0 pv B S T σ us H Q Q3 a q k
  refine h1 a q fun v H' d m S' l r kc q => ?_
  obtain ⟨a', dv⟩ := a.pop l r
  split at q
  · rename_i b
    cases dv
    exact ⟨b, rfl, k _ _ _ _ S' l (a'.atom (d := .bool (!b)) rfl (.bl _)) (fun e => nomatch e) q⟩
  · exact q.elim
theorem lift_ifV (hc : LiftT K N tc c3) (h1 : Lift K N c1 ta t1) (h2 : Lift K N c2 tb t2) : Lift K N false (tIf tc ta tb) (tIfV3 c3 t1 t2) := by
  intro G0 pv B S T σ us H Q Q3 a q k
  refine hc a q fun b H' S' l r q => ?_
  have a' := a.of l a.lσ r a.fx
  cases b with
  | true => exact h1 a' (by simpa using q) fun v' H2 d' m' S2 l2 r2 _ q2 => k v' H2 d' m' S2 l2 r2 (fun e => nomatch e) q2
  | false => exact h2 a' (by simpa using q) fun v' H2 d' m' S2 l2 r2 _ q2 => k v' H2 d' m' S2 l2 r2 (fun e => nomatch e) q2
end
section
variable {X : Cx} {K : PySem.W.Frag} {pos p : Pos} {c c1 c2 : Bool} {a b e e2 tg iter elt : Expr} {es rest : List Expr} {ta tb te : TE} {t t2 t3 : TE3} {tA : TA} {tA3 : TA3} {ats : List (Option Nat)} {x : Str} {r : V → V → Hp → VK → Prop} {f : F3} {id T0 : String} {wi : TI} {ti : TI3} {g : TG} {g3 : TG3} {gs : TGs} {gs3 : TGs3} {vs v1 v2 : List Nat} {ts : TS} {s3 : TS3} {st : Stmt} {w : TT} {tt : TT3} {ce : Expr}
theorem e_one {op} (h : PE3 X a ta c t) : PE3 X (.BoolOp op [a] pos) ta c t := ⟨pe_one h.1, h.2⟩
theorem e_and (h1 : PE3 X a ta c1 t) (h2 : PE3 X (.BoolOp .And (b :: rest) pos) tb c2 t2) : PE3 X (.BoolOp .And (a :: b :: rest) pos) (tAndV ta tb) false (tAndV3 t t2) := ⟨pe_and h1.1 h2.1, lift_andV h1.2 h2.2⟩
theorem e_or (h1 : PE3 X a ta c1 t) (h2 : PE3 X (.BoolOp .Or (b :: rest) pos) tb c2 t2) : PE3 X (.BoolOp .Or (a :: b :: rest) pos) (tOrV ta tb) false (tOrV3 t t2) := ⟨pe_or h1.1 h2.1, lift_orV h1.2 h2.2⟩
theorem e_not (h : PE3 X a ta c t) : PE3 X (.UnaryOp .Not a pos) (tNotV ta) false (tNotV3 t) := ⟨pe_not h.1, lift_notV h.2⟩
theorem e_if (hc : PT3 X ce w tt) (h1 : PE3 X a ta c1 t) (h2 : PE3 X b tb c2 t2) : PE3 X (.IfExp ce a b pos) (tIf w ta tb) false (tIfV3 tt t t2) := ⟨pe_ifExp hc.1 h1.1 h2.1, lift_ifV hc.2 h1.2 h2.2⟩
theorem cr_sortedSK (hK : X.K = K) : CallR X (.builtin "sorted") (rSortedS K) := hK ▸ cr_sortedS
theorem call_showK (hK : X.K = K) (hg : X.A.guards = some []) (hu : X.A.units + 64 < cLine) : CallR X (.builtin "repr") (rShow K) := hK ▸ call_show hg hu
/-- a slot's name in a call is handed over: the callee's promise tells which -/
theorem e_call2 {CX : CXT} {k : Nat} {stm : Stmt} {pn : List Str} {cc : C3} {il : List Bool} (hK : X.K = K) (C : Cal X.prog X.w X.K X.mg X.base CX k x stm pn (sp3 K il cc)) (hr : Room k X.A) (hg : Gl X x) (hx : Passes CX X (fun _ _ _ => False)) (ha : PA3 X (e :: es) tA ats c tA3) (hi : ios ats = il := by rfl)
    (hdb : (x == ("__debug__" : Str)) = false := by decide) (he : starEach (e :: es) X.env = (false, eval e X.env) :: starEach es X.env := by rfl) (hpl : (backTo pos (starEach es X.env)).any (·.1) = false := by rfl) : PE3 X (.Call (.Name x p) (e :: es) [] pos) (tCal (sp3 K il cc) (fun _ _ _ => False) tA) (c && nones ats) (tCall3 ats cc tA3) := by
  subst hi
  exact e_call hK C hr hg hx ha hdb he hpl
theorem mk_app {i : Nat} (hK : X.K = K) (hi : i < X.N.length) (ha : PA3 X es tA ats c tA3) (f : PA X es tA → PE X e (tBM K "list" rAppend (tVar i) tA)) (hn : nones ats = true := by rfl) : PE3 X e (tBM K "list" rAppend (tVar i) tA) false (tApp3 i tA3) := by subst hK; exact ⟨f ha.1, lift_app hi hn ha.2⟩
theorem mk_pop {i : Nat} (hK : X.K = K) (hi : i < X.N.length) (ha : PA3 X es tA ats c tA3) (f : PA X es tA → PE X e (tBM K "list" rPopAt (tVar i) tA)) (hn : nones ats = true := by rfl) : PE3 X e (tBM K "list" rPopAt (tVar i) tA) false (tPop3 i tA3) := by subst hK; exact ⟨f ha.1, lift_popAt hi hn ha.2⟩
theorem mk_bmF {tyOk : PyData → Bool} {ca : V → List V → Hp → VK → Prop} {o : Expr} (hK : X.K = K) (hf : MtF K T0 tyOk ca f) (ho : PE3 X o te c1 t) (ha : PA3 X es tA ats c tA3) (g : PE X o te → PA X es tA → PE X e (tBM K T0 ca te tA)) (hn : nones ats = true := by rfl) : PE3 X e (tBM K T0 ca te tA) (c1 && c) (tBmF tyOk f t tA3) := by subst hK; exact ⟨g ho.1 ha.1, lift_bmF hf hn ho.2 ha.2⟩
theorem mk_get (h1 : PE3 X a ta c1 t) (h2 : PE3 X b tb c2 t2) (g : PE X a ta → PE X b tb → PE X e (tDGet1 ta tb)) : PE3 X e (tDGet1 ta tb) (c1 && c2) (tGet3 t t2) := ⟨g h1.1 h2.1, lift_get h1.2 h2.2⟩
theorem mk_dclr {i : Nat} (hK : X.K = K) (hi : i < X.N.length) (h : PE X e (tBM0 K "dict" rClearD (tVar i))) : PE3 X e (tBM0 K "dict" rClearD (tVar i)) false (tClr3 i) := by subst hK; exact ⟨h, lift_dclear hi⟩
theorem mk_neD {i j : Nat} (hi : i < X.N.length) (hj : j < X.N.length) (h : PE X e (tOp rNeDA (tVar i) (tVar j))) : PE3 X e (tOp rNeDA (tVar i) (tVar j)) true (tNeD3 i j) := ⟨h, lift_neD hi hj⟩
theorem mk_neDT {i j : Nat} (hi : i < X.N.length) (hj : j < X.N.length) (h : PT X e (tTest (tOp rNeDA (tVar i) (tVar j)))) : PT3 X e (tTest (tOp rNeDA (tVar i) (tVar j))) (tVal3 (tNeD3 i j)) := ⟨h, lift_test (lift_neD hi hj)⟩
theorem mk_isi (hK : X.K = K) (h : PE3 X a te c t) (ht : T0 ∈ ["str", "int", "bool", "list", "tuple", "dict"]) (g : PE X a te → PE X e (tCB (rIsi K) (tCons te (tCons (tC (.ty T0)) tNil)))) : PE3 X e (tCB (rIsi K) (tCons te (tCons (tC (.ty T0)) tNil))) c (tIsi3 T0 t) := by subst hK; exact ⟨g h.1, lift_isi ht h.2⟩
theorem s_par {i j : Nat} (hi : i < X.N.length) (hj : j < X.N.length) (ij : i ≠ j) (ha : PA3 X es tA ats c tA3) (g : PA X es tA → PS X st (tPar i j tA)) : PS3 X st (tPar i j tA) (tPar3 i j tA3) := ⟨g ha.1, lift_par hi hj ij ha.2⟩
/-- x = [..] on one line -/
theorem mk_setLc {i : Nat} {vs : List Nat} (hi : i < X.N.length) (hiI : LiftI X.K X.N.length wi ti) (hgL : LiftG X.K X.N.length vs g g3) (htL : LiftT X.K X.N.length w tt) (heL : Lift X.K X.N.length c te t) (h : PS X st (tAsg (tLc wi g w te vs) (gName i))) : PS3 X st (tAsg (tLc wi g w te vs) (gName i)) (tSet3 i (tLc3 ti g3 tt t vs)) := ⟨h, lift_set hi (lift_lc hiI hgL htL heL)⟩
abbrev PGs3 (X : Cx) (ts : List Expr) (vs : List Nat) (g : TGs) (t : TGs3) : Prop := PGs X ts g ∧ LiftGs X.K X.N.length vs g t
theorem gs_nil : PGs3 X [] [] gNil gNil3 := ⟨pgs_nil, lift_gnil⟩
theorem gs_cons (h1 : PG3 X e v1 g g3) (h2 : PGs3 X es v2 gs gs3) (hs : (assignEach (e :: es) X.env).map (·.2) = assign e X.env :: (assignEach es X.env).map (·.2) := by rfl) : PGs3 X (e :: es) (v1 ++ v2) (gCons g gs) (gCons3 g3 gs3) := ⟨pgs_cons h1.1 h2.1 hs, lift_gcons h1.2 h2.2⟩
theorem g_tup {k n : Nat} (hK : X.K = K) (hc : X.calm = true) (h : PGs3 X es v1 gs gs3) (h1 : (assignEach es X.env).length = n := by rfl) (h2 : (assignEach es X.env).findIdx? (·.1) = none := by rfl) : PG3 X (.Tuple es k pos) v1 (gTup K n gs) (gTup3 n gs3) := by subst hK; exact ⟨pg_tup hc h.1 h1 h2, lift_gtup h.2⟩
theorem i_str (h : PE3 X e te c t) : PI3 X tg e (iStr te) (fun B S Q => t B S fun d _ S1 => match d with | .str z => Q [] z.cps.size (fun k => (.str ⟨#[z.cps.getD k 0]⟩, .shr)) S1 | _ => False) := by
  refine ⟨pi_str h.1, ?_⟩
  intro G0 pv B S T σ us H Q Q3 a q k
  have lu := a.lu
  have lσ := a.lσ
  refine h.2 a q fun v H' d m S' l r kc q => ?_
  obtain ⟨a', dv⟩ := a.pop l r
  split at q
  · rename_i z
    cases dv
    refine ⟨z, rfl, k (Its z) H' [] [] z.cps.size _ S' l rfl (by simpa using a'.r) ⟨fun {H S A σ ws} l l' lw r i hi => ⟨hi, ?_⟩, fun _ _ _ _ => Nat.le_refl _⟩ q⟩
    rintro x H2 ⟨rfl, cc, hc, rfl⟩
    have e : z.cps.getD i 0 = cc := by simp [Array.getD_eq_getD_getElem?, hc]
    rw [e]
    have := R.flatR (S := S ++ ((T ++ []) ++ A)) (vs := σ ++ ((us ++ []) ++ ws)) (A := []) (ws := []) (by simpa using r) (by simp; omega) (by simp; omega) (fun _ _ e => e) (d := .str ⟨#[cc]⟩) rfl (.str _)
    simpa using this
  · exact q.elim
end
end L2.Fb.T

namespace L2.Fb.T
open PySem PySem.Spec
open PyProof.Rows
/-! ### promises of the older layer, as promises over trees -/
section
variable {K : PySem.W.Frag} {N : Nat} {G0 G H H' H1 : Hp} {S S' T P : S3} {vs : List V}
/-- the parameters as they came: a list of flat things of one's own, the others read -/
theorem R.inL {ios : List Bool} {d : List PyData} {ds : List PyData} {v0 : V} {vs : List (Option V)} (r : R K 0 G0 H (ents (true :: ios) (.list d :: ds)) (some v0 :: vs)) (fl : flatL d = true) : ∃ p xs, v0 = .ref p ∧ H p = some (.lst xs) ∧ DtL K H xs d := by
  obtain ⟨F, r⟩ := r
  obtain ⟨v, q1, q2⟩ := r.ent 0 (.list d, .own) rfl
  cases q1
  have q3 := q2.dt (gof_same H F)
  have q2 : Own K (Gof H F) H v0 (.list d) (F 0) := q2
  generalize F 0 = Fi at q2
  cases q2 with
  | lst a b =>
    cases q3 with
    | lst a' b' => exact ⟨_, _, rfl, a', b'⟩
/-- .. behind a call that changed that list alone, and laid more; the answer is flat -/
theorem R.offL {ios : List Bool} {d d' : List PyData} {ds : List PyData} {p : Addr} {xs xs' : List V} {vs : List (Option V)} {rr : PyData} {v : V} (r : R K 0 G0 H (ents (true :: ios) (.list d :: ds)) (some (.ref p) :: vs)) (hp : H p = some (.lst xs)) (lv : vs.length = ios.length) (ld : ds.length = ios.length)
    (no : ∀ b ∈ ios, b = false) (off : Off p H H') (hp' : H' p = some (.lst xs')) (dl : DtL K H' xs' d') (fl' : flatL d' = true) (fr : flat rr = true) (dv : Dt K H' v rr) : R K 0 G0 H' (outs (true :: ios) (.list d' :: ds) ++ [some (rr, .shr)]) (some (.ref p) :: vs ++ [some v]) := by
  obtain ⟨F, r⟩ := r
  obtain ⟨v0, q1, q2⟩ := r.ent 0 (.list d, .own) rfl
  cases q1
  have q2 : Own K (Gof H F) H (.ref p) (.list d) (F 0) := q2
  have pF : p ∈ F 0 := by
    generalize F 0 = Fi at q2
    cases q2 with
    | lst a b => exact List.mem_cons_self ..
  have lo : (outs (true :: ios) (.list d' :: ds)).length = ios.length + 1 := by rw [outs_len _ _ (by simp [ld])]; rfl
  have only : ∀ {k : Nat} {e : Ent}, (outs (true :: ios) (.list d' :: ds))[k]? = some (some e) → k = 0 ∧ e = (.list d', .own) := fun {k e} h => by
    obtain ⟨z, h1, h2, rfl⟩ := outs_get _ _ _ _ h
    cases k with
    | zero => cases h2; exact ⟨rfl, rfl⟩
    | succ k =>
      have := no true (List.mem_of_getElem? (show ios[k]? = some true from h1))
      cases this
  let F' : Nat → List Addr := fun k => if k = 0 then [p] else []
  have mu : ∀ i a, a ∈ F' i → ∃ u, H' a = some u ∧ Mu u := fun i a m => by
    have m : a ∈ (if i = 0 then [p] else []) := m
    split at m
    · rw [List.mem_singleton.mp m]; exact ⟨_, hp', trivial⟩
    · cases m
  refine ⟨F', r.big (fun _ => True) (by simp [lo, lv]) (fun a u h e => off a u (fun z => h 0 trivial (by rw [z]; exact pF)) e) (fun k hk => absurd trivial hk) (fun k a _ m => ?_) (fun k _ => ?_) (fun k j a _ _ mk mj => ?_) (fun i e h => .inr fun hG => ?_) (fun i h => ?_) fun i d0 j h => ?_⟩
  · have m : a ∈ (if k = 0 then [p] else []) := m
    split at m
    · exact .inr ⟨0, trivial, by rw [List.mem_singleton.mp m]; exact pF⟩
    · cases m
  · show (if k = 0 then [p] else []).Nodup
    split <;> simp
  · have mk : a ∈ (if k = 0 then [p] else []) := mk
    have mj : a ∈ (if j = 0 then [p] else []) := mj
    split at mk
    · split at mj
      · omega
      · cases mj
    · cases mk
  · by_cases z : i < ios.length + 1
    · rw [List.getElem?_append_left (by omega)] at h
      obtain ⟨rfl, rfl⟩ := only h
      refine ⟨.ref p, rfl, ?_⟩
      show Own K _ H' (.ref p) (.list d') [p]
      exact .lst hp' (OwnL.flat d' fl' (DtL.flat (fun a xs q => sqt_gof mu q) d' fl' dl))
    · obtain ⟨lt, _⟩ := List.getElem?_eq_some_iff.mp h
      have : i = ios.length + 1 := by simp [lo] at lt; omega
      subst this
      rw [List.getElem?_append_right (by omega), lo, Nat.sub_self] at h
      cases h
      refine ⟨v, by rw [List.getElem?_append_right (by simp; omega)]; simp [lv], ?_⟩
      exact Dt.flat (fun a xs q => sqt_gof mu q) rr fr dv
  · show (if i = 0 then [p] else []) = []
    split
    · rename_i z
      subst z
      refine absurd ?_ (h (.list d'))
      rw [List.getElem?_append_left (by omega)]
      rfl
    · rfl
  · by_cases z : i < ios.length + 1
    · rw [List.getElem?_append_left (by omega)] at h
      obtain ⟨_, e⟩ := only h
      cases e
    · obtain ⟨lt, _⟩ := List.getElem?_eq_some_iff.mp h
      have : i = ios.length + 1 := by simp [lo] at lt; omega
      subst this
      rw [List.getElem?_append_right (by omega), lo, Nat.sub_self] at h
      cases h
/-- a call that only reads: a flat answer -/
theorem R.rdF {ios : List Bool} {ds : List PyData} {vs : List (Option V)} {rr : PyData} {v : V} (r : R K 0 G0 H (ents ios ds) vs) (lv : vs.length = ios.length) (ld : ds.length = ios.length) (no : ∀ b ∈ ios, b = false) (s : Same H H') (fr : flat rr = true) (dv : Dt K H' v rr) : R K 0 G0 H' (outs ios ds ++ [some (rr, .shr)]) (vs ++ [some v]) := by
  obtain ⟨F, r⟩ := r
  have lo : (outs ios ds).length = ios.length := outs_len _ _ ld
  have only : ∀ {k : Nat} {e : Ent}, (outs ios ds)[k]? = some (some e) → False := fun {k e} h => by
    obtain ⟨z, h1, h2, rfl⟩ := outs_get _ _ _ _ h
    cases no true (List.mem_of_getElem? h1)
  have none_ : ∀ i, F i = [] := fun i => r.empt i fun d e => by
    obtain ⟨b, d', h1, h2, e⟩ := ents_get _ _ _ _ e
    have := no b (List.mem_of_getElem? h1)
    subst this
    cases e
  refine ⟨F, r.big (fun _ => False) (by simp [lo, lv]) (fun a u _ e => s _ _ e) (fun _ _ => .inl rfl) (fun _ _ h => h.elim) (fun _ h => h.elim) (fun _ _ _ h => h.elim) (fun i e h => .inr fun hG => ?_) (fun i _ => none_ i) fun i d0 j h => ?_⟩
  · by_cases z : i < ios.length
    · rw [List.getElem?_append_left (by omega)] at h
      exact (only h).elim
    · obtain ⟨lt, _⟩ := List.getElem?_eq_some_iff.mp h
      have : i = ios.length := by simp [lo] at lt; omega
      subst this
      rw [List.getElem?_append_right (by omega), lo, Nat.sub_self] at h
      cases h
      refine ⟨v, by rw [List.getElem?_append_right (by omega), lv, Nat.sub_self]; rfl, ?_⟩
      exact Dt.flat (fun a xs q => by rw [gof_of fun k m => by rw [none_] at m; cases m]; exact q) rr fr dv
  · by_cases z : i < ios.length
    · rw [List.getElem?_append_left (by omega)] at h
      exact (only h).elim
    · obtain ⟨lt, _⟩ := List.getElem?_eq_some_iff.mp h
      have : i = ios.length := by simp [lo] at lt; omega
      subst this
      rw [List.getElem?_append_right (by omega), lo, Nat.sub_self] at h
      cases h
/-- .. an answer of one's own, all of it new -/
theorem R.rdO {ios : List Bool} {ds : List PyData} {vs : List (Option V)} {rr : PyData} {v : V} {L : List Addr} (r : R K 0 G0 H (ents ios ds) vs) (lv : vs.length = ios.length) (ld : ds.length = ios.length) (no : ∀ b ∈ ios, b = false) (s : Same H H') (nd : L.Nodup) (new : ∀ a ∈ L, H a = none)
    (ow : ∀ G, (∀ a xs, H' a = some (.tup xs) → G a = some (.tup xs)) → Own K G H' v rr L) : R K 0 G0 H' (outs ios ds ++ [some (rr, .own)]) (vs ++ [some v]) := by
  obtain ⟨F, r⟩ := r
  have lo : (outs ios ds).length = ios.length := outs_len _ _ ld
  have only : ∀ {k : Nat} {e : Ent}, (outs ios ds)[k]? = some (some e) → False := fun {k e} h => by
    obtain ⟨z, h1, h2, rfl⟩ := outs_get _ _ _ _ h
    cases no true (List.mem_of_getElem? h1)
  have none_ : ∀ i, F i = [] := fun i => r.empt i fun d e => by
    obtain ⟨b, d', h1, h2, e⟩ := ents_get _ _ _ _ e
    have := no b (List.mem_of_getElem? h1)
    subst this
    cases e
  let F' : Nat → List Addr := fun k => if k = ios.length then L else []
  have mu : ∀ i a, a ∈ F' i → ∃ u, H' a = some u ∧ Mu u := fun i a m => by
    have m : a ∈ (if i = ios.length then L else []) := m
    split at m
    · exact (ow H' fun _ _ e => e).mu a m
    · cases m
  refine ⟨F', r.big (fun k => k = ios.length) (by simp [lo, lv]) (fun a u _ e => s _ _ e) (fun k hk => .inr (if_neg hk)) (fun k a hk m => .inl ?_) (fun k hk => ?_) (fun k j a hk hj _ _ => by omega) (fun i e h => .inr fun hG => ?_) (fun i h => ?_) fun i d0 j h => ?_⟩
  · have m : a ∈ (if k = ios.length then L else []) := m
    rw [if_pos hk] at m
    exact new a m
  · show (if k = ios.length then L else []).Nodup
    rw [if_pos hk]
    exact nd
  · by_cases z : i < ios.length
    · rw [List.getElem?_append_left (by omega)] at h
      exact (only h).elim
    · obtain ⟨lt, _⟩ := List.getElem?_eq_some_iff.mp h
      have : i = ios.length := by simp [lo] at lt; omega
      subst this
      rw [List.getElem?_append_right (by omega), lo, Nat.sub_self] at h
      cases h
      refine ⟨v, by rw [List.getElem?_append_right (by omega), lv, Nat.sub_self]; rfl, ?_⟩
      show Own K _ H' v rr (if ios.length = ios.length then L else [])
      rw [if_pos rfl]
      exact ow _ fun a xs q => sqt_gof mu q
  · show (if i = ios.length then L else []) = []
    split
    · rename_i z
      subst z
      refine absurd ?_ (h rr)
      rw [List.getElem?_append_right (by omega), lo, Nat.sub_self]
      rfl
    · rfl
  · by_cases z : i < ios.length
    · rw [List.getElem?_append_left (by omega)] at h
      exact (only h).elim
    · obtain ⟨lt, _⟩ := List.getElem?_eq_some_iff.mp h
      have : i = ios.length := by simp [lo] at lt; omega
      subst this
      rw [List.getElem?_append_right (by omega), lo, Nat.sub_self] at h
      cases h
theorem Cal.imp {P : Program} {w : World} {mg : Str → Option Value} {base : Heap} {CX : CXT} {k : Nat} {x : Str} {st : Stmt} {pn : List Str} {sp sp' : Sp} (C : Cal P w K mg base CX k x st pn sp) (h : ∀ vs H Q E, sp' vs H Q E → sp vs H Q E) : Cal P w K mg base CX k x st pn sp' := by
  obtain ⟨f, fd, F, b, g, ok⟩ := C
  exact ⟨f, fd, F, b, g, ok.imp h⟩
theorem two {α : Type} {l : List α} (h : l.length = 2) : ∃ a b, l = [a, b] := by
  match l, h with
  | [a, b], _ => exact ⟨a, b, rfl⟩
theorem one {α : Type} {l : List α} (h : l.length = 1) : ∃ a, l = [a] := by
  match l, h with
  | [a], _ => exact ⟨a, rfl⟩
theorem three {α : Type} {l : List α} (h : l.length = 3) : ∃ a b c, l = [a, b, c] := by
  match l, h with
  | [a, b, c], _ => exact ⟨a, b, c, rfl⟩
end
end L2.Fb.T

namespace L2.Fb.T
open PySem PySem.Spec
open PyProof.Rows
/-- a comprehension by what holds ahead of each turn (r turns left, the i-th comes); C: what follows -/
theorem compF_by {B : Bs} {g : TG3} {tt : TT3} {te : TE3} {vs : List Nat} {item : Nat → Ent} {k : List PyData → S3 → Prop} (Inv : Nat → Nat → List PyData → S3 → Prop)
    (zero : ∀ i acc S, Inv 0 i acc S → k acc (wipe3 S vs))
    (succ : ∀ (C : Nat → List PyData → S3 → Prop) r i acc S, (∀ i acc S, Inv r i acc S → C i acc S) → Inv (r + 1) i acc S →
      g B (item i) (wipe3 S vs) fun S2 => tt B S2 fun b S3 => if b = true then te B S3 fun d m S4 => (flat d = true ∨ m = .own) ∧ C (i + 1) (acc ++ [d]) S4 else C (i + 1) acc S3) :
    ∀ r i acc S, Inv r i acc S → compF B g tt te vs item k r i acc S := by
  intro r
  induction r with
  | zero => exact fun i acc S h => zero i acc S h
  | succ r ih => exact fun i acc S h => succ (fun i acc S => compF B g tt te vs item k r i acc S) r i acc S ih h
/-- a loop by what holds ahead of each turn -/
theorem loopF_by {B : Bs} {g : TG3} {tb : TS3} {E : Ends3} {item : Nat → Ent} (Inv : Nat → Nat → S3 → Prop)
    (zero : ∀ i S, Inv 0 i S → E.nx S)
    (succ : ∀ (C : Nat → S3 → Prop) r i S, (∀ i S, Inv r i S → C i S) → Inv (r + 1) i S → g B (item i) S fun S2 => tb { E with nx := C (i + 1), ct := C (i + 1), bk := E.nx } B S2) :
    ∀ r i S, Inv r i S → loopF B g tb E item r i S := by
  intro r
  induction r with
  | zero => exact fun i S h => zero i S h
  | succ r ih => exact fun i S h => succ (fun i S => loopF B g tb E item r i S) r i S ih h
theorem flat_getD_ints {ls : List Int} {k : Nat} : flat ((ls.map PyData.int).getD k .none) = true := by
  rw [List.getD_eq_getElem?_getD, List.getElem?_map]
  cases ls[k]? <;> rfl
theorem erase_ints (ls : List Int) (k : Nat) : (ls.map PyData.int).eraseIdx k = (ls.eraseIdx k).map PyData.int := by
  induction ls generalizing k with
  | nil => rfl
  | cons x l ih =>
    cases k with
    | zero => rfl
    | succ k => exact congrArg (PyData.int x :: ·) (ih k)
section
variable {K : PySem.W.Frag} {N : Nat} {G0 H H' : Hp} {S S' T P : S3} {σ : St} {vs : List V} {ios : List Bool}
theorem read3 {Nm : List Str} {cc : C3} {ts : TS} {t : TS3} {Q : VK} {E : XK} (hz : ios.length ≤ Nm.length) (p2 : LiftS K Nm.length ts t) (rd2 : ∀ ds kk, ds.length = ios.length → cc ds kk → t (ends3 ios ds kk) ⟨[], pinB 0 ios, []⟩ (S0 Nm.length ios ds)) (h : sp3 K ios cc vs H Q E) : ts { nx := fun _ H' => Q .non H', rt := Q } (start Nm vs) H := by
    obtain ⟨G0, ds, lv, ld, r, rd, kk, hk, fin⟩ := h
    have q := rd2 ds kk ld hk
    have lE : (ents ios ds).length = ios.length := ents_len _ _ ld
    have lS0 : (S0 Nm.length ios ds).length = Nm.length := by simp [S0, lE]; omega
    have lσ : (start Nm vs).length = Nm.length := by simp [start]; omega
    have gt : ∀ {k : Nat} {e : Ent}, (S0 Nm.length ios ds ++ [])[k]? = some (some e) → k < ios.length ∧ (ents ios ds)[k]? = some (some e) := fun {k e} h => by
      rw [List.append_nil] at h
      unfold S0 at h
      by_cases z : k < ios.length
      · rw [List.getElem?_append_left (by omega)] at h
        exact ⟨z, h⟩
      · rw [List.getElem?_append_right (by omega), List.getElem?_replicate] at h
        split at h <;> cases h
    have vt : ∀ {k : Nat}, k < ios.length → (start Nm vs ++ [])[k]? = (vs.map some)[k]? := fun {k} h => by
      rw [List.append_nil]
      unfold start
      rw [List.getElem?_append_left (by simp; omega)]
    have a : At K Nm.length G0 (fun k => if isIo ios k = true then vs[k]? else none) ⟨[], pinB 0 ios, []⟩ (S0 Nm.length ios ds) [] (start Nm vs) [] H := by
      refine ⟨lS0, lσ, rfl, ?_, fun d j m => (by cases m), fun k v e => ?_, fun k v e => ?_, fun i m => (by cases m)⟩
      · obtain ⟨F0, r⟩ := r
        refine ⟨F0, (r.reN (M := Nm.length) fun i d j h => absurd (r.bnd i d j h) (by omega)).big (fun _ => False) (by simp [lS0, lσ]) (fun a u _ e => e) (fun _ _ => .inl rfl) (fun _ _ h => h.elim) (fun _ h => h.elim) (fun _ _ _ h => h.elim) (fun i e h => ?_) (fun i h => ?_) fun i d j h => ?_⟩
        · obtain ⟨z, h'⟩ := gt h
          exact .inl ⟨id, h', vt z, fun _ => rfl, fun _ _ => id⟩
        · refine r.empt i fun d q => h d ?_
          obtain ⟨lt, _⟩ := List.getElem?_eq_some_iff.mp q
          rw [List.append_nil]
          unfold S0
          rw [List.getElem?_append_left lt]
          exact q
        · obtain ⟨z, h'⟩ := gt h
          have := r.bnd i d j h'
          omega
      · have e : (if isIo ios k = true then vs[k]? else none) = some v := e
        split at e
        · obtain ⟨lt, _⟩ := List.getElem?_eq_some_iff.mp e
          have := vt (k := k) (by omega)
          rw [List.append_nil, List.getElem?_map, e] at this
          exact this
        · cases e
      · have e : (if isIo ios k = true then vs[k]? else none) = some v := e
        split at e
        · rename_i h
          have : ios[k]? = some true := by
            unfold isIo at h
            split at h
            · rename_i b hb
              rw [hb, h]
            · cases h
          have := pinB_mem (n := 0) this
          rw [Nat.zero_add] at this
          exact this
        · cases e
    have done : ∀ S σ H' v r m, S.length = Nm.length → σ.length = Nm.length → R K Nm.length G0 H' (S ++ [some (r, m)]) (σ ++ [some v]) → Fx (fun k => if isIo ios k = true then vs[k]? else none) σ → fin3 ios ds kk r m S → Q v H' := fun S σ H' v r m l l' R0 fx q => by
      obtain ⟨ok, q⟩ := q
      have fx' : ∀ (k : Nat) w, ios[k]? = some true → vs[k]? = some w → σ[k]? = some (some w) := fun k w h1 h2 => fx k w (by
        show (if isIo ios k = true then vs[k]? else none) = some w
        rw [if_pos (by unfold isIo; rw [h1])]
        exact h2)
      by_cases fl : flat r = true
      · rw [if_pos fl] at q
        exact fin r .shr _ (outD_len ld) (.inl rfl) q v H' (R0.fin l l' lv ld hz fx' ok .shr (.inl ⟨rfl, fl⟩))
      · rw [if_neg fl] at q
        exact fin r .own _ (outD_len ld) (.inr rfl) q.2 v H' (R0.fin l l' lv ld hz fx' ok .own (.inr ⟨rfl, q.1⟩))
    refine p2 a q ⟨fun S σ H' l l' r' fx q => ?_, fun S σ H' l l' r' fx q => q.elim, fun S σ H' l l' r' fx q => q.elim, fun S σ H' v d m l l' r' fx q => ?_⟩
    · have : R K Nm.length G0 H' (S ++ [some (.none, .shr)]) (σ ++ [some .non]) := R.flatR (A := []) (ws := []) r' (by rw [l', l]) (by rw [l]; exact Nat.le_refl _) (fun _ _ e => e) rfl .non
      exact done S σ H' .non .none .shr l l' this fx q
    · have r'' : R K Nm.length G0 H' (S ++ ([] ++ [some (d, m)])) (σ ++ ([] ++ [some v])) := r'
      exact done S σ H' v d m l l' (by simpa using r'') fx q

theorem ok3G {P : Program} {w : World} {mg : Str → Option Value} {base : Heap} {x qual : Str} {st : Stmt} {f : Addr} {fd : FuncData} {Nm pn : List Str} {k : Nat} {cc : C3} (F : Fun K x qual st f fd) (Sc : FnScope Nm pn (defScope st)) (hp : pn.length = ios.length) (hz : ios.length ≤ Nm.length)
    (body : ∀ cdv A outer s H E, (A.deeper (envOfC qual (defScope st) s.heap.objs.size f cdv)).guards = some [] → Room k (A.deeper (envOfC qual (defScope st) s.heap.objs.size f cdv)) → ∃ ts t, PSs3 (cxOf CX0 P w K mg base Nm qual (defScope st) f cdv A outer s H E).nox (defBody st) ts t ∧ ∀ ds kk, ds.length = ios.length → cc ds kk → t (ends3 ios ds kk) ⟨[], pinB 0 ios, []⟩ (S0 Nm.length ios ds)) :
    FnG P w K mg base CX0 (k + 1) f fd pn (sp3 K ios cc) := by
  refine okG F Sc (fun vs H Q E h => ?_) (fun cdv A outer s H vs Q E hgd hr h => ?_)
  · obtain ⟨_, _, h, _⟩ := h
    omega
  · obtain ⟨ts, t, p, rd2⟩ := body cdv A outer s H E hgd hr
    exact ⟨ts, p.1.nox, read3 hz p.2 rd2 h⟩
end
end L2.Fb.T

namespace L2.Fb.T
open PySem PySem.Spec
open PyProof.Rows
/-! ### a list that stands in a dict of one's own changes where it stands -/
def dput : List (PyData × PyData) → PyData → PyData → List (PyData × PyData)
  | [], _, _ => []
  | p :: r, k, d => if keq p.1 k = true then (p.1, d) :: r else p :: dput r k d
def rInsert : V → List V → Hp → VK → Prop := fun x vs H Q => ∃ (l : Addr) (xs : List V) (i : Int) (y : V), x = .ref l ∧ vs = [.int i, y] ∧ H l = some (.lst xs) ∧ xs.length < sizeLine ∧ 0 ≤ i ∧ i < 2 ^ 63 ∧ Q .non (upd H l (.lst (xs.take i.toNat ++ [y] ++ xs.drop i.toNat)))
section
variable {K : PySem.W.Frag} {N : Nat} {G0 G G' H H' : Hp} {c c1 c2 : Bool} {S S' T P : S3} {σ : St} {us ps : List (Option V)} {te : TE} {t t1 t2 : TE3} {pv : PV} {B : Bs} {es A : List (Option Ent)} {ws : List (Option V)} {vs : List V} {ats : List (Option Nat)}
theorem own_put : ∀ {ks : List (Key × V)} {kv : List (PyData × PyData)} {F : List Addr}, OwnK K G H ks kv F → ∀ (k : Key) (d : PyData), dlook kv (kD k) = some d → ∃ v F1 F2 F3, valV ks k = some v ∧ F = F1 ++ (F2 ++ F3) ∧ Own K G H v d F2 ∧
    ∀ G' H' d' F2', Same G G' → (∀ a u, a ∈ F1 ++ F3 → H a = some u → H' a = some u) → Own K G' H' v d' F2' → OwnK K G' H' ks (dput kv (kD k) d') (F1 ++ (F2' ++ F3))
  | _, _, _, .nil, k, d, h => by cases h
  | _, _, _, .cons (k := k') (v := v) (r := r) (d := d0) (ds := ds) (F := F) (F' := F') a b, k, d, h => by
    rw [dlook_cons] at h
    have h : (if keq (kD k') (kD k) = true then some d0 else dlook ds (kD k)) = some d := h
    have e : ∀ d', dput ((kD k', d0) :: ds) (kD k) d' = if keq (kD k') (kD k) = true then (kD k', d') :: ds else (kD k', d0) :: dput ds (kD k) d' := fun d' => rfl
    rw [keq_k] at h
    by_cases z : k' = k
    · rw [decide_eq_true z, if_pos rfl] at h
      cases h
      refine ⟨v, [], F, F', valV_pos z, rfl, a, fun G' H' d' F2' hG hH o => ?_⟩
      rw [e, keq_k, decide_eq_true z, if_pos rfl]
      show OwnK K G' H' _ _ (F2' ++ F')
      exact .cons o (OwnK.mv hG b fun a u m q => hH a u m q)
    · rw [decide_eq_false z, if_neg Bool.false_ne_true] at h
      obtain ⟨w, F1, F2, F3, h1, h2, h3, h4⟩ := own_put b k d h
      refine ⟨w, F ++ F1, F2, F3, by rw [valV_neg z]; exact h1, by rw [h2]; simp, h3, fun G' H' d' F2' hG hH o => ?_⟩
      rw [e, keq_k, decide_eq_false z, if_neg Bool.false_ne_true, List.append_assoc]
      exact .cons (Own.mv hG a fun a u m q => hH a u (by simp [m]) q) (h4 G' H' d' F2' hG (fun a u m q => hH a u (by simp at m ⊢; rcases m with m | m <;> simp [m]) q) o)
theorem own_split : ∀ {xs : List V} {ds : List PyData} {F : List Addr} (n : Nat), OwnL K G H xs ds F → ∃ Fa Fb, F = Fa ++ Fb ∧ OwnL K G H (xs.take n) (ds.take n) Fa ∧ OwnL K G H (xs.drop n) (ds.drop n) Fb
  | _, _, _, 0, h => ⟨[], _, rfl, .nil, h⟩
  | _, _, _, n + 1, .nil => ⟨[], [], rfl, .nil, .nil⟩
  | _, _, _, n + 1, .cons (F := F) a b => by
    obtain ⟨Fa, Fb, e, h1, h2⟩ := own_split n b
    exact ⟨F ++ Fa, Fb, by rw [e, List.append_assoc], .cons a h1, h2⟩
/-- rows[key].insert(j, x), rows one's own -/
def tInsK3 (i : Nat) (t2 : TE3) (t : TA3) : TE3 := fun B S Q => (∃ e, S[i]? = some (some e)) ∧ t2 B S fun dk m S1 => ∃ kv k ds, S1[i]? = some (some (.dict kv, .own)) ∧ isT kv = false ∧ keyO dk = some k ∧ dlook kv dk = some (.list ds) ∧
  t (B.add m.bs) S1 fun es S2 => ∃ j m1 d m2, es = [some (.int j, m1), some (d, m2)] ∧ S2[i]? = some (some (.dict kv, .own)) ∧ B.br.contains i = false ∧ ds.length < 50000 ∧ 0 ≤ j ∧ j < 2 ^ 63 ∧ (flat d = true ∨ m2 = .own) ∧
    Q .none .shr (mset i (.dict (dput kv dk (.list (ds.take j.toNat ++ [d] ++ ds.drop j.toNat)))) S2)
theorem lift_insK {i : Nat} (hi : i < N) {tk : TE} {ta : TA} {t : TA3} (hn : nones ats = true) (h2 : Lift K N c tk t2) (h : LiftA K N ats true ta t) : Lift K N false (tBM K "list" rInsert (tDGet (tVar i) tk) ta) (tInsK3 i t2 t) := by
  intro G0 pv B S T σ us H Q Q3 a ⟨⟨e0, q0⟩, q⟩ kk
  have lσ := a.lσ
  have lu := a.lu
  have line : 50000 < sizeLine := by decide
  obtain ⟨w, hw, _⟩ := a.get q0
  refine ⟨w, hw, h2 a q fun vk H1 dk m S1 l1 r1 k1 ⟨kv, k, ds, e1, nT, hk, hd, q1⟩ => ?_⟩
  have ek := keyO_some hk
  subst ek
  have r1' : R K N G0 H1 ((S1 ++ T) ++ [some (kD k, m)]) ((σ ++ us) ++ [some vk]) := by simpa using r1
  have hvk : vk = kV k := key_at (R.top (by simp; omega) r1')
  subst hvk
  -- the dict ahead of the arguments
  have own1 : ∀ {H' : Hp} {S' : S3} {es : List (Option Ent)} {us' : List (Option V)} {F : Nat → List Addr}, S'.length = N → Rel K N G0 H' F (S' ++ es) (σ ++ us') → S'[i]? = some (some (.dict kv, Md.own)) → ∃ p ks Fk, w = .ref p ∧ H' p = some (.dK ks) ∧ F i = p :: Fk ∧ OwnK K (Gof H' F) H' ks kv Fk := fun {H' S' es us' F} lS' r e => by
    obtain ⟨w', w1, w2⟩ := r.ent i (.dict kv, .own) (by rw [List.getElem?_append_left (by omega)]; exact e)
    rw [List.getElem?_append_left (by omega), hw] at w1
    cases w1
    have w2 : Own K (Gof H' F) H' w (.dict kv) (F i) := w2
    generalize F i = Fi at w2
    cases w2 with
    | dct a b => exact ⟨_, _, _, rfl, a, rfl, b⟩
    | dtt a b => cases nT
  obtain ⟨F1, rr1⟩ := r1
  obtain ⟨p, ks, Fk, rfl, hp, hF1, ok1⟩ := own1 l1 rr1 e1
  obtain ⟨v, A1, A2, A3, v1, v2, v3, put1⟩ := own_put ok1 k _ hd
  refine ⟨p, v, rfl, .inl ⟨ks, k, .inl hp, rfl, v1.symm⟩, ?_, ?_⟩
  · cases v3 with
    | lst x y => exact .inl ⟨rfl, _, .inl (.inl x)⟩
  refine h (a.push l1 ⟨F1, rr1⟩) q1 fun vs H2 es S2 l2 lv le lat r2 k2 q2 => ?_
  obtain ⟨j, m1, d, m2, rfl, e2, hb, hz, j0, j1, hm, q2⟩ := q2
  obtain ⟨y1, y2, rfl⟩ := two (lv.trans le.symm)
  obtain ⟨F2, r2⟩ := r2
  obtain ⟨p', ks', Fk', ep, hp', hF2, ok2⟩ := own1 l2 r2 e2
  cases ep
  have := k2 rfl _ _ hp
  rw [this] at hp'
  cases hp'
  obtain ⟨v', B1, B2, B3, v1', v2', v3', put⟩ := own_put ok2 k _ hd
  rw [v1] at v1'
  cases v1'
  have r3 : Rel K N G0 H2 F2 ((S2 ++ T) ++ [some (kD k, m), some (.int j, m1), some (d, m2)]) ((σ ++ us) ++ [some (kV k), some y1, some y2]) := by simpa using r2
  have ey : y1 = .int j := by
    obtain ⟨v', q1, q2⟩ := r3.get (i := N + T.length + 1) (e := (.int j, m1)) (by rw [List.getElem?_append_right (by simp; omega), show N + T.length + 1 - (S2 ++ T).length = 1 by simp; omega]; rfl)
    rw [List.getElem?_append_right (by simp; omega), show N + T.length + 1 - (σ ++ us).length = 1 by simp; omega] at q1
    cases q1
    cases q2
    rfl
  subst ey
  obtain ⟨Ld, oD, ndD, hD⟩ := r3.ownOr (k := N + T.length + 2) (d := d) (m := m2) (v := y2) (by rw [List.getElem?_append_right (by simp; omega), show N + T.length + 2 - (S2 ++ T).length = 2 by simp; omega]; rfl)
    (by rw [List.getElem?_append_right (by simp; omega), show N + T.length + 2 - (σ ++ us).length = 2 by simp; omega]; rfl) hm
  cases v3' with
  | lst hl ol =>
  rename_i l xs Fc
  obtain ⟨Ca, Cb, rfl, oa, ob⟩ := own_split j.toNat ol
  have nd0 := r3.nodup i
  have Dl : ∀ x ∈ Ld, x ∉ F2 i := fun x mx mi => by have := r3.sep _ _ _ (hD x mx) mi; omega
  have pm : (p :: (B1 ++ ((l :: (Ca ++ (Ld ++ Cb))) ++ B3))).Perm (Ld ++ F2 i) := by
    rw [hF2, v2']
    refine List.perm_iff_count.mpr fun x => ?_
    simp only [List.count_append, List.count_cons]
    omega
  have ndB : (Ld ++ F2 i).Nodup := List.nodup_append.mpr ⟨ndD, nd0, fun x mx y my e => by subst e; exact Dl x mx my⟩
  have li : l ∈ F2 i := by rw [hF2, v2']; simp
  have nd2 : l ∉ B1 ∧ l ∉ Ca ∧ l ∉ Cb ∧ l ∉ B3 ∧ p ≠ l := by
    rw [hF2, v2'] at nd0
    obtain ⟨n1, n2⟩ := List.nodup_cons.mp nd0
    have h3 := List.nodup_append.mp n2
    have h4 := List.nodup_cons.mp (by simpa using h3.2.1 : (l :: (Ca ++ Cb ++ B3)).Nodup)
    have h5 := h4.1
    simp at h5
    refine ⟨fun m => h3.2.2 l m l (by simp) rfl, h5.1, h5.2.1, h5.2.2, fun z => n1 (by rw [z]; simp)⟩
  obtain ⟨nB1, nCa, nCb, nB3, npl⟩ := nd2
  have lD : l ∉ Ld := fun mm => Dl l mm li
  have keep : ∀ (xs' : List V) b u, b ≠ l → H2 b = some u → upd H2 l (.lst xs') b = some u := fun xs' b u ne e => by rw [upd_ne ne]; exact e
  refine ⟨l, xs, j, y2, rfl, rfl, hl, by rw [ol.len]; omega, j0, j1, ?_⟩
  refine kk _ _ .none .shr (mset i _ S2) (by rw [mset_len]; exact l2) ?_ (fun e => nomatch e) q2
  have := Rel.mut (i := i) (d0 := .dict kv) (d' := .dict (dput kv (kD k) (.list (ds.take j.toNat ++ [d] ++ ds.drop j.toNat)))) (e := (.none, .shr)) (v := .non) (Li := p :: (B1 ++ ((l :: (Ca ++ (Ld ++ Cb))) ++ B3))) (Lr := []) (H' := upd H2 l (.lst (xs.take j.toNat ++ [y2] ++ xs.drop j.toNat))) r3 l2 lσ lu e2 (bnot a hb)
    (fun b u h1 h2 e => keep _ b u (fun z => h1 (by rw [z]; exact li)) e) (by rw [List.append_nil]; exact pm.nodup_iff.mpr ndB) (fun b mb => by
      rw [List.append_nil] at mb
      rcases List.mem_append.mp (pm.mem_iff.mp mb) with mb | mb
      · exact .inr (.inr ⟨_, by omega, hD b mb⟩)
      · exact .inr (.inl mb)) (.inr ⟨rfl, rfl, rfl⟩) (fun b mb => by
      rw [List.append_nil] at mb
      by_cases z : b = l
      · exact ⟨.lst _, by rw [z]; exact upd_same, trivial⟩
      · have : ∃ u, H2 b = some u ∧ Mu u := by
          rcases List.mem_append.mp (pm.mem_iff.mp mb) with mb | mb
          · exact oD.mu b mb
          · exact r3.here mb
        obtain ⟨u, h1, h2⟩ := this
        exact ⟨u, keep _ b u z h1, h2⟩) fun G' w' hG tup hw' ow => ?_
  · simpa using this
  · rw [hw] at hw'
    cases hw'
    refine ⟨.dct (keep _ _ _ npl this) (put G' _ _ (l :: (Ca ++ (Ld ++ Cb))) hG (fun b u mb e => keep _ b u (fun z => by rw [z] at mb; exact (List.mem_append.mp mb).elim nB1 nB3) e) ?_), (fun e => nomatch e), fun _ => .non⟩
    refine .lst upd_same ?_
    rw [List.append_assoc, List.append_assoc]
    refine OwnL.app (OwnL.mv hG oa fun b u mb e => keep _ b u (fun z => nCa (by rw [← z]; exact mb)) e) ?_
    exact .cons (Own.mv hG oD fun b u mb e => keep _ b u (fun z => lD (by rw [← z]; exact mb)) e) (OwnL.mv hG ob fun b u mb e => keep _ b u (fun z => nCb (by rw [← z]; exact mb)) e)
/-- .. behind a call that changed that list alone, and made an answer of one's own, all of it new -/
theorem R.offO {vs1 : List (Option V)} {ios : List Bool} {d d' : List PyData} {ds : List PyData} {p : Addr} {xs xs' : List V} {rr : PyData} {v : V} {L : List Addr} (r : R K 0 G0 H (ents (true :: ios) (.list d :: ds)) (some (.ref p) :: vs1)) (hp : H p = some (.lst xs)) (lv : vs1.length = ios.length) (ld : ds.length = ios.length)
    (no : ∀ b ∈ ios, b = false) (off : Off p H H') (hp' : H' p = some (.lst xs')) (dl : DtL K H' xs' d') (fl' : flatL d' = true) (nd : L.Nodup) (new : ∀ a ∈ L, H a = none) (ow : ∀ G, (∀ a xs, H' a = some (.tup xs) → G a = some (.tup xs)) → Own K G H' v rr L) :
    R K 0 G0 H' (outs (true :: ios) (.list d' :: ds) ++ [some (rr, .own)]) (some (.ref p) :: vs1 ++ [some v]) := by
  obtain ⟨F, r⟩ := r
  obtain ⟨v0, q1, q2⟩ := r.ent 0 (.list d, .own) rfl
  cases q1
  have q2 : Own K (Gof H F) H (.ref p) (.list d) (F 0) := q2
  have pF : p ∈ F 0 := by
    generalize F 0 = Fi at q2
    cases q2 with
    | lst a b => exact List.mem_cons_self ..
  have pL : p ∉ L := fun m => by rw [new p m] at hp; cases hp
  have lo : (outs (true :: ios) (.list d' :: ds)).length = ios.length + 1 := by rw [outs_len _ _ (by simp [ld])]; rfl
  have only : ∀ {k : Nat} {e : Ent}, (outs (true :: ios) (.list d' :: ds))[k]? = some (some e) → k = 0 ∧ e = (.list d', .own) := fun {k e} h => by
    obtain ⟨z, h1, h2, rfl⟩ := outs_get _ _ _ _ h
    cases k with
    | zero => cases h2; exact ⟨rfl, rfl⟩
    | succ k =>
      have := no true (List.mem_of_getElem? (show ios[k]? = some true from h1))
      cases this
  let F' : Nat → List Addr := fun k => if k = 0 then [p] else if k = ios.length + 1 then L else []
  have F0 : F' 0 = [p] := if_pos rfl
  have F1 : F' (ios.length + 1) = L := by show (if _ then _ else if _ then _ else _) = _; rw [if_neg (by omega), if_pos rfl]
  have Fn : ∀ {k}, k ≠ 0 → k ≠ ios.length + 1 → F' k = [] := fun {k} h h' => by show (if _ then _ else if _ then _ else _) = _; rw [if_neg h, if_neg h']
  have cs : ∀ {k a}, a ∈ F' k → (k = 0 ∧ a = p) ∨ (k = ios.length + 1 ∧ a ∈ L) := fun {k a} m => by
    by_cases z : k = 0
    · subst z
      rw [F0] at m
      exact .inl ⟨rfl, List.mem_singleton.mp m⟩
    · by_cases y : k = ios.length + 1
      · subst y
        rw [F1] at m
        exact .inr ⟨rfl, m⟩
      · rw [Fn z y] at m
        cases m
  have mu : ∀ i a, a ∈ F' i → ∃ u, H' a = some u ∧ Mu u := fun i a m => by
    rcases cs m with ⟨_, rfl⟩ | ⟨_, m⟩
    · exact ⟨_, hp', trivial⟩
    · exact (ow H' fun _ _ e => e).mu a m
  refine ⟨F', r.big (fun _ => True) (by simp [lo, lv]) (fun a u h e => off a u (fun z => h 0 trivial (by rw [z]; exact pF)) e) (fun k hk => absurd trivial hk) (fun k a _ m => ?_) (fun k _ => ?_) (fun k j a _ _ mk mj => ?_) (fun i e h => .inr fun hG => ?_) (fun i h => ?_) fun i d0 j h => ?_⟩
  · rcases cs m with ⟨_, rfl⟩ | ⟨_, m⟩
    · exact .inr ⟨0, trivial, pF⟩
    · exact .inl (new a m)
  · by_cases z : k = 0
    · subst z; rw [F0]; simp
    · by_cases y : k = ios.length + 1
      · subst y; rw [F1]; exact nd
      · rw [Fn z y]; simp
  · rcases cs mk with ⟨e1, e2⟩ | ⟨e1, e2⟩ <;> rcases cs mj with ⟨e3, e4⟩ | ⟨e3, e4⟩
    · omega
    · exact absurd (e2 ▸ e4) pL
    · exact absurd (e4 ▸ e2) pL
    · omega
  · by_cases z : i < ios.length + 1
    · rw [List.getElem?_append_left (by omega)] at h
      obtain ⟨rfl, rfl⟩ := only h
      refine ⟨.ref p, rfl, ?_⟩
      show Own K _ H' (.ref p) (.list d') (F' 0)
      rw [F0]
      exact .lst hp' (OwnL.flat d' fl' (DtL.flat (fun a xs q => sqt_gof mu q) d' fl' dl))
    · obtain ⟨lt, _⟩ := List.getElem?_eq_some_iff.mp h
      have : i = ios.length + 1 := by simp [lo] at lt; omega
      subst this
      rw [List.getElem?_append_right (by omega), lo, Nat.sub_self] at h
      cases h
      refine ⟨v, by rw [List.getElem?_append_right (by simp; omega)]; simp [lv], ?_⟩
      show Own K _ H' v rr (F' (ios.length + 1))
      rw [F1]
      exact ow _ fun a xs q => sqt_gof mu q
  · by_cases z : i = 0
    · subst z
      refine absurd ?_ (h (.list d'))
      rw [List.getElem?_append_left (by omega)]
      rfl
    · by_cases y : i = ios.length + 1
      · subst y
        refine absurd ?_ (h rr)
        rw [List.getElem?_append_right (by omega), lo, Nat.sub_self]
        rfl
      · exact Fn z y
  · by_cases z : i < ios.length + 1
    · rw [List.getElem?_append_left (by omega)] at h
      obtain ⟨_, e⟩ := only h
      cases e
    · obtain ⟨lt, _⟩ := List.getElem?_eq_some_iff.mp h
      have : i = ios.length + 1 := by simp [lo] at lt; omega
      subst this
      rw [List.getElem?_append_right (by omega), lo, Nat.sub_self] at h
      cases h
/-- how many keys -/
def fLenD : F3 := fun ds Q => ∃ kv : List (PyData × PyData), ds = [.dict kv] ∧ isT kv = false ∧ Q (.int (kv.length : Nat))
theorem f_lenD : FlF K (fun xs H Q => ∃ a ks, xs = [V.ref a] ∧ Rd H a (.dK ks) ∧ ((ks.map (·.1)).Nodup → Q (.int ks.length) H)) fLenD := by
  rintro H vs ds Q Q3 hd ⟨kv, rfl, ht, h⟩ k
  cases hd with
  | cons a b =>
  cases b
  cases a with
  | dtt x y => simp [isT] at ht
  | dct a b =>
    refine ⟨_, _, rfl, a, fun _ => ?_⟩
    rw [b.len]
    exact k _ _ (.int _) (fun _ _ e => e) rfl (.int _) h
end
section
variable {X : Cx} {K : PySem.W.Frag} {e o : Expr} {es : List Expr} {p pos : Pos} {te tk : TE} {tA : TA} {tA3 : TA3} {t t2 : TE3} {c c1 : Bool} {ats : List (Option Nat)} {x : Str}
theorem mk_insK {i : Nat} {b : Expr} (hK : X.K = K) (hi : i < X.N.length) (h2 : PE3 X b tk c t2) (ha : PA3 X es tA ats true tA3) (f : PE X b tk → PA X es tA → PE X e (tBM K "list" rInsert (tDGet (tVar i) tk) tA)) (hn : nones ats = true := by rfl) : PE3 X e (tBM K "list" rInsert (tDGet (tVar i) tk) tA) false (tInsK3 i t2 tA3) := by
  subst hK
  exact ⟨f h2.1 ha.1, lift_insK hi hn h2.2 ha.2⟩
/-- a call of a def whose promise asks for no guards -/
theorem e_callG2 {CX : CXT} {k : Nat} {stm : Stmt} {pn : List Str} {cc : C3} {il : List Bool} (hK : X.K = K) (C : CalG X.prog X.w X.K X.mg X.base CX k x stm pn (sp3 K il cc)) (gd : X.A.guards = some []) (hr : Room k X.A) (hg : Gl X x) (hx : Passes CX X (fun _ _ _ => False)) (ha : PA3 X (e :: es) tA ats c tA3) (hi : ios ats = il := by rfl)
    (hdb : (x == ("__debug__" : Str)) = false := by decide) (he : starEach (e :: es) X.env = (false, eval e X.env) :: starEach es X.env := by rfl) (hpl : (backTo pos (starEach es X.env)).any (·.1) = false := by rfl) : PE3 X (.Call (.Name x p) (e :: es) [] pos) (tCal (sp3 K il cc) (fun _ _ _ => False) tA) (c && nones ats) (tCall3 ats cc tA3) := by
  subst hi
  exact ⟨pe_callCG C gd hr hg hx ha.1 hdb he hpl, by subst hK; exact lift_call ha.2⟩
end
end L2.Fb.T

namespace L2.Fb.T
open PySem PySem.Spec
open PyProof.Rows
/-! ### from the older layer into trees, in the middle of a body -/
def tOf3 (K : PySem.W.Frag) (N : Nat) (s : TS3) : TS := fun D σ H => ∃ G0 pv B S E, At K N G0 pv B S [] σ [] H ∧ s E B S ∧ Cov K N G0 pv [] [] D E
theorem pss_of3 {X : Cx} {K : PySem.W.Frag} {sts : List Stmt} {ts : TS} {s : TS3} (hK : X.K = K) (h : PSs3 X sts ts s) : PSs X sts (tOf3 K X.N.length s) := by
  subst hK
  exact ⟨fun pins sh σ H D I ⟨G0, pv, B, S, E, a, q, c⟩ => h.1.run pins sh σ H D I (h.2 a q c)⟩
section
variable {K : PySem.W.Frag} {N : Nat} {H : Hp} {S : S3} {σ : St}
def one1 (ip : Nat) (p : Addr) : Nat → List Addr := fun k => if k = ip then [p] else []
/-- one list of whole numbers of one's own, whole numbers beside it; the slot 0 stands fast -/
theorem at_list {ip : Nat} {p : Addr} {ls : List Int} {v0 : V} (lS : S.length = N) (lσ : σ.length = N) (hp : H p = some (.lst (ls.map V.int))) (hs : S[ip]? = some (some (.list (ls.map .int), .own))) (hv : σ[ip]? = some (some (.ref p)))
    (nums : ∀ (k : Nat) (e : Ent), k ≠ ip → S[k]? = some (some e) → ∃ j, e = (.int j, .shr) ∧ σ[k]? = some (some (.int j))) (h0 : σ[0]? = some (some v0)) :
    At K N (Gof H (one1 ip p)) (fun k => if k = 0 then some v0 else none) ⟨[], [0], []⟩ S [] σ [] H := by
  have f1 : one1 ip p ip = [p] := if_pos rfl
  have f0 : ∀ {k}, k ≠ ip → one1 ip p k = [] := fun h => if_neg h
  have ints_own : ∀ {G : Hp} (ls : List Int), OwnL K G H (ls.map V.int) (ls.map PyData.int) [] := fun {G} ls => by
    induction ls with
    | nil => exact .nil
    | cons n ls ih => exact .cons (F := []) (F' := []) (.int n) ih
  refine ⟨lS, lσ, rfl, ⟨one1 ip p, ⟨by simp [lS, lσ], fun a u e => e, fun i => ?_, fun i j a mi mj => ?_, fun i e h => ?_, fun i h => ?_, fun i d j h => ?_⟩⟩, fun d j m => (nomatch m), fun i v e => ?_, fun i v e => ?_, fun i m => (nomatch m)⟩
  · by_cases z : i = ip
    · subst z; rw [f1]; simp
    · rw [f0 z]; simp
  · by_cases z : i = ip
    · by_cases y : j = ip
      · rw [z, y]
      · rw [f0 y] at mj; cases mj
    · rw [f0 z] at mi; cases mi
  · rw [List.append_nil] at h ⊢
    by_cases z : i = ip
    · subst z
      rw [hs] at h
      cases h
      refine ⟨.ref p, hv, ?_⟩
      show Own K _ H (.ref p) (.list (ls.map .int)) (one1 i p i)
      rw [f1]
      exact .lst hp (ints_own ls)
    · obtain ⟨j, rfl, q⟩ := nums i e z h
      exact ⟨_, q, .int j⟩
  · by_cases z : i = ip
    · subst z
      exact absurd (by rw [List.append_nil]; exact hs) (h _)
    · exact f0 z
  · rw [List.append_nil] at h
    by_cases z : i = ip
    · subst z
      rw [hs] at h
      cases h
    · obtain ⟨j', e, _⟩ := nums i _ z h
      cases e
  · by_cases z : i = 0
    · subst z
      have e : some v0 = some v := e
      cases e
      exact h0
    · have e : (if i = 0 then some v0 else none) = some v := e
      rw [if_neg z] at e
      cases e
  · by_cases z : i = 0
    · subst z
      exact List.mem_singleton.mpr rfl
    · have e : (if i = 0 then some v0 else none) = some v := e
      rw [if_neg z] at e
      cases e
/-- what was read of a heap ahead of that list is still read -/
theorem same_of_r {H0 H H' : Hp} {ip : Nat} {p : Addr} {S' : S3} {vs : List (Option V)} (s : Same H0 H) (np : H0 p = none) (r : R K N (Gof H (one1 ip p)) H' S' vs) : Same H0 H' := fun a u e => by
  obtain ⟨F, r⟩ := r
  refine (gof_some (r.base a u ?_)).2
  rw [gof_of fun k m => ?_]
  · exact s a u e
  · have m : a ∈ (if k = ip then [p] else []) := m
    split at m
    · rw [List.mem_singleton.mp m, np] at e
      cases e
    · cases m
end
end L2.Fb.T

namespace L2.Fb.Law
open PySem PySem.Spec
open PyProof.Rows
abbrev s_present_of : Stmt := topS 16
abbrev N_present_of : List Str := ["past", "hand", "deed"]
abbrev P_present_of : List Str := ["past", "hand"]
theorem sc_present_of : FnScope N_present_of P_present_of (defScope s_present_of) := ⟨rfl, rfl, rfl, by decide +kernel, rfl, by decide +kernel, by decide +kernel⟩
abbrev s__parts_of : Stmt := topS 20
abbrev N__parts_of : List Str := ["past", "word", "parts", "hand", "part", "deed"]
abbrev P__parts_of : List Str := ["past", "word"]
theorem sc__parts_of : FnScope N__parts_of P__parts_of (defScope s__parts_of) := ⟨rfl, rfl, rfl, by decide +kernel, rfl, by decide +kernel, by decide +kernel⟩
abbrev s_tellings : Stmt := topS 18
abbrev N_tellings : List Str := ["past"]
abbrev P_tellings : List Str := ["past"]
theorem sc_tellings : FnScope N_tellings P_tellings (defScope s_tellings) := ⟨rfl, rfl, rfl, by decide +kernel, rfl, by decide +kernel, by decide +kernel⟩
abbrev s_hearings : Stmt := topS 19
abbrev N_hearings : List Str := ["past"]
abbrev P_hearings : List Str := ["past"]
theorem sc_hearings : FnScope N_hearings P_hearings (defScope s_hearings) := ⟨rfl, rfl, rfl, by decide +kernel, rfl, by decide +kernel, by decide +kernel⟩
abbrev s_presents : Stmt := topS 10
abbrev N_presents : List Str := ["past", "hand"]
abbrev P_presents : List Str := ["past"]
theorem sc_presents : FnScope N_presents P_presents (defScope s_presents) := ⟨rfl, rfl, rfl, by decide +kernel, rfl, by decide +kernel, by decide +kernel⟩
abbrev s__tale : Stmt := topS 21
abbrev N__tale : List Str := ["past", "letter", "told"]
abbrev P__tale : List Str := ["past", "letter"]
theorem sc__tale : FnScope N__tale P__tale (defScope s__tale) := ⟨rfl, rfl, rfl, by decide +kernel, rfl, by decide +kernel, by decide +kernel⟩
abbrev s_told_in : Stmt := topS 11
abbrev N_told_in : List Str := ["past", "letter"]
abbrev P_told_in : List Str := ["past", "letter"]
theorem sc_told_in : FnScope N_told_in P_told_in (defScope s_told_in) := ⟨rfl, rfl, rfl, by decide +kernel, rfl, by decide +kernel, by decide +kernel⟩
abbrev s_heard_in : Stmt := topS 12
abbrev N_heard_in : List Str := ["past", "letter"]
abbrev P_heard_in : List Str := ["past", "letter"]
theorem sc_heard_in : FnScope N_heard_in P_heard_in (defScope s_heard_in) := ⟨rfl, rfl, rfl, by decide +kernel, rfl, by decide +kernel, by decide +kernel⟩
abbrev s_letters_lying : Stmt := topS 13
abbrev N_letters_lying : List Str := ["past", "heard", "letter"]
abbrev P_letters_lying : List Str := ["past"]
theorem sc_letters_lying : FnScope N_letters_lying P_letters_lying (defScope s_letters_lying) := ⟨rfl, rfl, rfl, by decide +kernel, rfl, by decide +kernel, by decide +kernel⟩
/-! ### parts, as data -/
def keepsR : List Deed → Nat
  | [] => 0
  | .keep :: r => keepsR r + 1
  | .tell _ _ :: r => keepsR r
  | .hear _ :: r => keepsR r
def rowP (w : Str) : Nat → List Deed → List (Int × Nat)
  | _, [] => []
  | n, .keep :: r => rowP w (n + 1) r
  | n, .tell l _ :: r => if w = "tell" then (l, n) :: rowP w n r else rowP w n r
  | n, .hear l :: r => if w = "hear" then (l, n) :: rowP w n r else rowP w n r
def oneP (w : Str) (n : Nat) : Deed → List (Int × Nat)
  | .keep => []
  | .tell l _ => if w = "tell" then [(l, n)] else []
  | .hear l => if w = "hear" then [(l, n)] else []
theorem keeps_snoc : ∀ (r : List Deed) (d : Deed), keepsR (r ++ [d]) = keepsR r + (if d = .keep then 1 else 0)
  | [], d => by cases d <;> simp [keepsR]
  | .keep :: r, d => by
    have := keeps_snoc r d
    show keepsR (r ++ [d]) + 1 = keepsR r + 1 + _
    omega
  | .tell _ _ :: r, d => keeps_snoc r d
  | .hear _ :: r, d => keeps_snoc r d
theorem rowP_snoc (w : Str) : ∀ (r : List Deed) (n : Nat) (d : Deed), rowP w n (r ++ [d]) = rowP w n r ++ oneP w (n + keepsR r) d
  | [], n, d => by
    cases d with
    | keep => rfl
    | tell l h => show (if w = "tell" then [(l, n)] else []) = _; rfl
    | hear l => show (if w = "hear" then [(l, n)] else []) = _; rfl
  | .keep :: r, n, d => by
    show rowP w (n + 1) (r ++ [d]) = rowP w (n + 1) r ++ oneP w (n + (keepsR r + 1)) d
    rw [rowP_snoc w r (n + 1) d, show n + 1 + keepsR r = n + (keepsR r + 1) by omega]
  | .tell l h :: r, n, d => by
    show (if w = "tell" then (l, n) :: rowP w n (r ++ [d]) else rowP w n (r ++ [d])) = (if w = "tell" then (l, n) :: rowP w n r else rowP w n r) ++ oneP w (n + keepsR r) d
    rw [rowP_snoc w r n d]
    split <;> rfl
  | .hear l :: r, n, d => by
    show (if w = "hear" then (l, n) :: rowP w n (r ++ [d]) else rowP w n (r ++ [d])) = (if w = "hear" then (l, n) :: rowP w n r else rowP w n r) ++ oneP w (n + keepsR r) d
    rw [rowP_snoc w r n d]
    split <;> rfl
theorem rowP_app (w : Str) : ∀ (r r' : List Deed) (n : Nat), rowP w n (r ++ r') = rowP w n r ++ rowP w (n + keepsR r) r'
  | [], _, _ => rfl
  | .keep :: r, r', n => by
    show rowP w (n + 1) (r ++ r') = rowP w (n + 1) r ++ rowP w (n + (keepsR r + 1)) r'
    rw [rowP_app w r r' (n + 1), show n + 1 + keepsR r = n + (keepsR r + 1) by omega]
  | .tell l h :: r, r', n => by
    show (if w = "tell" then (l, n) :: rowP w n (r ++ r') else rowP w n (r ++ r')) = (if w = "tell" then (l, n) :: rowP w n r else rowP w n r) ++ rowP w (n + keepsR r) r'
    rw [rowP_app w r r' n]
    split <;> rfl
  | .hear l :: r, r', n => by
    show (if w = "hear" then (l, n) :: rowP w n (r ++ r') else rowP w n (r ++ r')) = (if w = "hear" then (l, n) :: rowP w n r else rowP w n r) ++ rowP w (n + keepsR r) r'
    rw [rowP_app w r r' n]
    split <;> rfl
theorem rowP_tell : ∀ (r : List Deed) (n : Nat), (rowP "tell" n r).map (·.1) = toldR r
  | [], _ => rfl
  | .keep :: r, n => rowP_tell r (n + 1)
  | .tell l h :: r, n => by
    show (if ("tell" : Str) = "tell" then (l, n) :: rowP "tell" n r else rowP "tell" n r).map (·.1) = l :: toldR r
    rw [if_pos rfl, List.map_cons, rowP_tell r n]
  | .hear l :: r, n => by
    show (if ("tell" : Str) = "hear" then (l, n) :: rowP "tell" n r else rowP "tell" n r).map (·.1) = toldR r
    rw [if_neg (by decide +kernel), rowP_tell r n]
theorem rowP_hear (h : Str) : ∀ (r : List Deed) (n : Nat), (rowP "hear" n r).map (·.1) = (hearsR (h, r)).map (·.1)
  | [], _ => rfl
  | .keep :: r, n => rowP_hear h r (n + 1)
  | .tell l k :: r, n => by
    show (if ("hear" : Str) = "tell" then (l, n) :: rowP "hear" n r else rowP "hear" n r).map (·.1) = (hearsR (h, r)).map (·.1)
    rw [if_neg (by decide +kernel), rowP_hear h r n]
  | .hear l :: r, n => by
    show (if ("hear" : Str) = "hear" then (l, n) :: rowP "hear" n r else rowP "hear" n r).map (·.1) = l :: (hearsR (h, r)).map (·.1)
    rw [if_pos rfl, List.map_cons, rowP_hear h r n]
theorem flatMap_same {α β : Type} {f g : α → List β} : ∀ (l : List α), (∀ x ∈ l, f x = g x) → l.flatMap f = l.flatMap g
  | [], _ => rfl
  | a :: l, h => by
    rw [List.flatMap_cons, List.flatMap_cons, h a (List.mem_cons_self ..), flatMap_same l fun x m => h x (List.mem_cons_of_mem _ m)]
theorem rowP_len (w : Str) : ∀ (r : List Deed) (n : Nat), (rowP w n r).length ≤ r.length
  | [], _ => Nat.le_refl _
  | .keep :: r, n => Nat.le_succ_of_le (rowP_len w r (n + 1))
  | .tell l h :: r, n => by
    have := rowP_len w r n
    show (if w = "tell" then (l, n) :: rowP w n r else rowP w n r).length ≤ r.length + 1
    split
    · rw [List.length_cons]; omega
    · omega
  | .hear l :: r, n => by
    have := rowP_len w r n
    show (if w = "hear" then (l, n) :: rowP w n r else rowP w n r).length ≤ r.length + 1
    split
    · rw [List.length_cons]; omega
    · omega
def handP (w : Str) (R : Str → List Deed) (h : Str) : List (Int × Str × Nat) := (rowP w 0 (R h)).map fun x => (x.1, h, x.2)
def partsP (w : Str) (R : Str → List Deed) (ys : List Str) : List (Int × Str × Nat) := ys.flatMap (handP w R)
theorem partsP_len (w : Str) (R : Str → List Deed) : ∀ (ys : List Str), (partsP w R ys).length ≤ total R ys
  | [] => Nat.le_refl _
  | h :: ys => by
    have h1 := partsP_len w R ys
    have h2 := rowP_len w (R h) 0
    show ((rowP w 0 (R h)).map (fun x => (x.1, h, x.2)) ++ partsP w R ys).length ≤ ((R h).length :: ys.map fun h => (R h).length).sum
    unfold total at h1
    rw [List.length_append, List.length_map, List.sum_cons]
    omega
theorem parts_tell {p : Past} (nd : (p.map (·.1)).Nodup) {ys : List Str} (h : ys.Perm (p.map (·.1))) : ((partsP "tell" (rowsOf p) ys).map (·.1)).Perm (toldP p) := by
  refine ((h.flatMap_right (handP "tell" (rowsOf p))).map (·.1)).trans ?_
  rw [List.flatMap_map, List.map_flatMap]
  unfold toldP
  rw [flatMap_same (g := fun q : Str × List Deed => toldR q.2)]
  intro q m
  unfold handP
  rw [rowsOf_mem nd m, List.map_map]
  exact rowP_tell q.2 0
theorem parts_hear {p : Past} (nd : (p.map (·.1)).Nodup) {ys : List Str} (h : ys.Perm (p.map (·.1))) : ((partsP "hear" (rowsOf p) ys).map (·.1)).Perm ((hearsP p).map (·.1)) := by
  refine ((h.flatMap_right (handP "hear" (rowsOf p))).map (·.1)).trans ?_
  rw [List.flatMap_map, List.map_flatMap]
  unfold hearsP
  rw [List.map_flatMap, flatMap_same (g := fun q : Str × List Deed => (hearsR q).map (·.1))]
  intro q m
  unfold handP
  rw [rowsOf_mem nd m, List.map_map]
  exact rowP_hear q.1 q.2 0
theorem parts_nodup {p : Past} (g : GoodP p) {wd : Str} (hw : wd = "tell" ∨ wd = "hear") {ys : List Str} (h : ys.Perm (p.map (·.1))) : ((partsP wd (rowsOf p) ys).map (·.1)).Nodup := by
  rcases hw with rfl | rfl
  · exact (parts_tell g.nd h).nodup_iff.mpr g.told
  · exact (parts_hear g.nd h).nodup_iff.mpr g.heard.2
theorem parts_cut (w : Str) (R : Str → List Deed) {ys : List Str} {i : Nat} {h : Str} (e : ys[i]? = some h) (j : Nat) : ∃ rest, partsP w R ys = (partsP w R (ys.take i) ++ (rowP w 0 ((R h).take j)).map fun x => (x.1, h, x.2)) ++ rest := by
  obtain ⟨lt, eh⟩ := List.getElem?_eq_some_iff.mp e
  have c1 : ys = ys.take i ++ h :: ys.drop (i + 1) := by
    rw [← eh, ← List.drop_eq_getElem_cons lt, List.take_append_drop]
  have c2 : rowP w 0 (R h) = rowP w 0 ((R h).take j) ++ rowP w (0 + keepsR ((R h).take j)) ((R h).drop j) := by
    rw [← rowP_app, List.take_append_drop]
  refine ⟨(rowP w (0 + keepsR ((R h).take j)) ((R h).drop j)).map (fun x => (x.1, h, x.2)) ++ partsP w R (ys.drop (i + 1)), ?_⟩
  have c3 : partsP w R ys = partsP w R (ys.take i) ++ (handP w R h ++ partsP w R (ys.drop (i + 1))) := by
    show ys.flatMap _ = _
    rw (occs := .pos [1]) [c1]
    rw [List.flatMap_append, List.flatMap_cons]
    rfl
  rw [c3]
  unfold handP
  rw [c2, List.map_append, List.append_assoc, List.append_assoc]
theorem putK_new {ks : List (Key × V)} {k : Key} {v : V} (h : k ∉ ks.map (·.1)) : putK ks k v = ks ++ [(k, v)] := by
  unfold putK
  rw [if_neg]
  rw [Bool.not_eq_true, List.any_eq_false]
  intro x mx
  simp only [decide_eq_true_eq]
  exact fun e => h (List.mem_map.mpr ⟨x, mx, e⟩)
theorem keeps_len : ∀ (r : List Deed), (r.filterMap fun d => if d = Deed.keep then some d else none).length = keepsR r
  | [] => rfl
  | .keep :: r => by
    have := keeps_len r
    show (Deed.keep :: r.filterMap fun d => if d = Deed.keep then some d else none).length = keepsR r + 1
    rw [List.length_cons, this]
  | .tell _ _ :: r => keeps_len r
  | .hear _ :: r => keeps_len r
/-- a dict of letters: the hand and the part -/
def PR (K : PySem.W.Frag) (H : Hp) (kv : Key × V) (x : Int × Str × Nat) : Prop := kv.1 = .inl x.1 ∧ ∃ t, kv.2 = .ref t ∧ H t = some (.tup [.str x.2.1, .int (x.2.2 : Nat)])
theorem ext_off {H H' : Hp} {m t : Addr} {x : List (Key × V)} {xs : List V} (hm : H m = some (.dK x)) (o : Off m H H') (h : H t = some (.tup xs)) : H' t = some (.tup xs) := o _ _ (fun z => by rw [z, hm] at h; cases h) h
section
variable {P : Program} {w : World} {K : PySem.W.Frag} {mg : Str → Option Value} {base : Heap}
theorem PR.keys {H : Hp} : ∀ {ks : List (Key × V)} {ps : List (Int × Str × Nat)}, Paired (PR K H) ks ps → ks.map (·.1) = ps.map fun x => Sum.inl x.1
  | _, _, .nil => rfl
  | _, _, .cons a b => by rw [List.map_cons, List.map_cons, a.1, PR.keys b]
def sp_present_of (K : PySem.W.Frag) : Sp := fun vs H Q _ => ∃ v p h, vs = [v, .str h] ∧ Da K H v (pastD p) ∧ (p.map (·.1)).Nodup ∧ h ∈ p.map (·.1) ∧ (p.map fun q => q.2.length).sum ≤ 4000 ∧ ∀ H', Same H H' → Q (.int ((keepsR (rowsOf p h) + 1 : Nat) : Int)) H'
theorem ok_present_of (D : Dfn K mg "present_of" s_present_of P_present_of) (T : Txt mg) : Cal P w K mg base CX0 1 "present_of" s_present_of P_present_of (sp_present_of K) := D.cal fun f fd F => by
  refine F.ok sc_present_of (fun vs H Q E h => ?_) (fun cdv A outer s H vs Q E hr h => ?_)
  · obtain ⟨v, p, h, rfl, _⟩ := h
    rfl
  · obtain ⟨v, p, hand, rfl, hd, nd, mh, few, q⟩ := h
    have hu := hu_of hr
    refine ⟨_, (pss_one (ps_ret (pe_op op_add (pe_callB (call_len_seqK (K := K) rfl) (by rfl) T.len PySem.boot_len (pa_cons (pe_lc (own := [("deed", 2)]) (g := (gName 2)) rfl sc_present_of.nd (pi_listK (K := K) rfl (pe_dget hu (pv 0) (pv 1) (fun _ _ => rfl))) (blkOk_by (own := [("deed", 2)]) (N := N_present_of) (sc := defScope s_present_of) (by decide +kernel)) (fun _ _ _ _ _ => pg_name (i := 2) sc_present_of.nd rfl (.inl rfl)) (fun _ _ _ _ _ => pts_one (pt_cmpR op_eq (pe_ix (ix_tupK (K := K) rfl) (pv 2) pe_int (fun _ _ => rfl)) pe_str (nomark _))) (fun _ _ _ _ _ => (pv 2))) pa_nil)) pe_int))), ?_⟩
    obtain ⟨a, ks, rfl, rd, dk⟩ := past_at hd
    obtain ⟨z, mz, rfl⟩ := List.mem_map.mp mh
    obtain ⟨v', hv', da'⟩ := past_look dk z.2 (look_of nd mz)
    obtain ⟨b, xs, rfl, sl, dl⟩ := row_at da'
    rw [rowsOf_mem nd mz] at q
    have lz : z.2.length ≤ 4000 := Nat.le_trans (mem_le_sum (fun q : Str × List Deed => q.2.length) p z mz) few
    have lx : xs.length = z.2.length := by rw [dl.len, List.length_map]
    refine ⟨.ref a, rfl, .str z.1, rfl, a, .ref b, rfl, .inl ⟨ks, .inr z.1, rd, rfl, hv'.symm⟩, b, rfl, ⟨_, sl⟩, fun M nM => ?_⟩
    refine lc_fm (walk_list (K := K) (xs := xs)) z.2 (fun d => if d = .keep then some d else none) (fun _ _ _ => True) nM lx (by omega) (fun H' sm => sm.seq sl) (fun _ _ _ _ _ _ => trivial) ?_ ?_
    · rintro i d x H2 H3 hd' sm - ⟨rfl, hx⟩ KK NN kk nn
      obtain ⟨d', t, h1, rfl, st⟩ := rows_at dl hx
      rw [hd'] at h1
      cases h1
      have st' := sqt_same sm st
      cases d with
      | keep => exact ⟨rfl, .ref t, rfl, t, _, 0, _, rfl, rfl, st', atI_nat (j := 0) rfl, rfl, _, rfl, iteT ⟨.ref t, rfl, kk _ _ _ (if_pos rfl) (.refl _) trivial⟩⟩
      | tell l h => exact ⟨rfl, .ref t, rfl, t, _, 0, _, rfl, rfl, st', atI_nat (j := 0) rfl, rfl, _, rfl, iteF (nn _ (if_neg (by simp)) (.refl _))⟩
      | hear l => exact ⟨rfl, .ref t, rfl, t, _, 0, _, rfl, rfl, st', atI_nat (j := 0) rfl, rfl, _, rfl, iteF (nn _ (if_neg (by simp)) (.refl _))⟩
    · intro H1 ys sm eM pr
      have le := pr.length
      rw [keeps_len] at le
      refine ⟨M, _, rfl, .inl (.inl (.inl eM)), _, 1, rfl, rfl, ?_⟩
      rw [← le]
      exact q _ sm
def sp_parts_of (K : PySem.W.Frag) : Sp := fun vs H Q _ => ∃ v p wd, vs = [v, .str wd] ∧ (wd = "tell" ∨ wd = "hear") ∧ Da K H v (pastD p) ∧ GoodP p ∧ (p.map fun q => q.2.length).sum ≤ 4000 ∧
  ∀ ys, ys.Perm (p.map (·.1)) → PyProof.Rows.sortedS ys = true → ∀ H' m ks, Same H H' → H m = none → H' m = some (.dK ks) → Paired (PR K H') ks (partsP wd (rowsOf p) ys) → Q (.ref m) H'
theorem ok_parts_of (D : Dfn K mg "_parts_of" s__parts_of P__parts_of) (T : Txt mg) : Cal P w K mg base CX0 1 "_parts_of" s__parts_of P__parts_of (sp_parts_of K) := D.cal fun f fd F => by
  refine F.ok sc__parts_of (fun vs H Q E h => ?_) (fun cdv A outer s H vs Q E hr h => ?_)
  · obtain ⟨v, p, wd, rfl, _⟩ := h
    rfl
  · obtain ⟨v, p, wd, rfl, hw, hd, g, few, q⟩ := h
    have hu := hu_of hr
    refine ⟨_, (pss_cons (ps_set (i := 2) sc__parts_of.nd rfl (.inl rfl) pe_dnewK)
      (pss_cons (ps_for PassesOwn.never rfl (pi_listK (K := K) rfl (pe_callB (call_sortedD rfl) (by rfl) T.sorted (by decide +kernel) (pa_cons (pv 0) pa_nil))) (pg_name (i := 3) sc__parts_of.nd rfl (.inl rfl)) (pss_cons (ps_set (i := 4) sc__parts_of.nd rfl (.inl rfl) pe_int)
      (pss_one (ps_for PassesOwn.never rfl (pi_listK (K := K) rfl (pe_dget hu (pv 0) (pv 3) (fun _ _ => rfl))) (pg_name (i := 5) sc__parts_of.nd rfl (.inl rfl)) (pss_one (ps_if (pt_cmpR op_eq (pe_ix (ix_tupK (K := K) rfl) (pv 5) pe_int (fun _ _ => rfl)) pe_str (nomark _)) (pss_one (ps_aug (i := 4) sc__parts_of.nd rfl (.inl rfl) pe_int ip_add)) (pss_one (ps_if (pt_cmpR op_eq (pe_ix (ix_tupK (K := K) rfl) (pv 5) pe_int (fun _ _ => rfl)) (pv 1) (nomark _)) (pss_one (ps_dput hu (pv 2) (pe_ix (ix_tupK (K := K) rfl) (pv 5) pe_int (fun _ _ => rfl)) (pe_tup (pa_cons (pv 3) (pa_cons (pv 4) pa_nil))) rfl)) pss_nil))))))))
      (pss_one (ps_ret (pv 2))))), ?_⟩
    obtain ⟨a, ks, rfl, rd, dk⟩ := past_at hd
    have nd := g.nd
    intro m nm
    have sm0 := same_new (o := .dK []) nm
    have em0 : upd H m (.dK []) m = some (.dK []) := upd_same
    generalize upd H m (.dK []) = H0 at sm0 em0
    refine ⟨.ref a, rfl, a, ks, p.map (·.1), rfl, rd_same sm0 rd, by rw [past_keys dk, List.map_map]; rfl, by rw [List.length_map]; have := g.few; omega, fun ys h1 perm srt n1 => ?_⟩
    have pn := parts_nodup g hw perm
    have tot : total (rowsOf p) ys ≤ 4000 := by
      rw [total_perm _ perm, total_past nd]
      exact few
    have pl := partsP_len wd (rowsOf p) ys
    have s1 := sm0.trans (same_new (o := .lst (ys.map V.str)) n1)
    have e1 : upd H0 h1 (.lst (ys.map V.str)) h1 = some (.lst (ys.map V.str)) := upd_same
    have em1 := same_new (o := .lst (ys.map V.str)) n1 _ _ em0
    have m1 : m ≠ h1 := fun z => by rw [z] at em0; rw [em0] at n1; cases n1
    generalize upd H0 h1 (.lst (ys.map V.str)) = H1 at s1 e1 em1
    clear sm0 em0 n1
    refine ⟨h1, rfl, ⟨_, .inl (.inl e1)⟩, ?_⟩
    refine for_it (walk_list (K := K) (xs := ys.map V.str)) (fun i σ' H' => (∃ y3 y4 y5, σ' = [some (.ref a), some (.str wd), some (.ref m), y3, y4, y5]) ∧ Same H H' ∧ H' h1 = some (.lst (ys.map V.str)) ∧ ∃ kvs, H' m = some (.dK kvs) ∧ Paired (PR K H') kvs (partsP wd (rowsOf p) (ys.take i)))
      ⟨⟨none, none, none, rfl⟩, s1, e1, [], em1, .nil⟩ (fun i σ' H' _ pv => .inl (.inl pv.2.2.1)) ?_ ?_
    · rintro i x σ' H2 H2' hi ⟨⟨y3, y4, y5, rfl⟩, s2, e2, kvs, em2, pr⟩ ⟨rfl, hx⟩
      rw [List.length_map] at hi
      have eh : ys[i]? = some (ys[i]'hi) := List.getElem?_eq_getElem hi
      generalize ys[i]'hi = hand at eh
      rw [List.getElem?_map, eh] at hx
      cases hx
      have mh : hand ∈ p.map (·.1) := perm.mem_iff.mp (List.mem_of_getElem? eh)
      obtain ⟨z, mz, rfl⟩ := List.mem_map.mp mh
      obtain ⟨v', hv', da'⟩ := past_look dk z.2 (look_of nd mz)
      obtain ⟨b, xs, rfl, sl, dl⟩ := row_at da'
      have rz := rowsOf_mem nd mz
      have lx : xs.length = z.2.length := by rw [dl.len, List.length_map]
      refine ⟨.ref a, rfl, .str z.1, rfl, a, .ref b, rfl, .inl ⟨ks, .inr z.1, rd_same s2 rd, rfl, hv'.symm⟩, b, rfl, ⟨_, s2.seq sl⟩, ?_⟩
      refine for_it (walk_list (K := K) (xs := xs)) (fun j σ' H' => (∃ y5, σ' = [some (.ref a), some (.str wd), some (.ref m), some (.str z.1), some (.int (keepsR (z.2.take j) : Nat)), y5]) ∧ Same H H' ∧ H' h1 = some (.lst (ys.map V.str)) ∧ ∃ kvs, H' m = some (.dK kvs) ∧ Paired (PR K H') kvs (partsP wd (rowsOf p) (ys.take i) ++ (rowP wd 0 (z.2.take j)).map fun x => (x.1, z.1, x.2)))
        ⟨⟨_, rfl⟩, s2, e2, kvs, em2, by rw [List.take_zero]; simpa [rowP] using pr⟩ (fun j σ' H' _ pv => pv.2.1.seq sl) ?_ ?_
      · rintro j x σ' H3 H4 hj ⟨⟨y5, rfl⟩, s3, e3, kvs3, em3, pr3⟩ ⟨rfl, hx3⟩
        obtain ⟨d, t, hd3, rfl, st⟩ := rows_at dl hx3
        have tk := take_snoc hd3
        have kp : keepsR (z.2.take (j + 1)) = keepsR (z.2.take j) + (if d = .keep then 1 else 0) := by rw [tk, keeps_snoc]
        have rp : rowP wd 0 (z.2.take (j + 1)) = rowP wd 0 (z.2.take j) ++ oneP wd (keepsR (z.2.take j)) d := by rw [tk, rowP_snoc, Nat.zero_add]
        have st3 := sqt_same s3 st
        obtain ⟨rest, cut⟩ := parts_cut wd (rowsOf p) eh (j + 1)
        rw [rz] at cut
        have len3 : kvs3.length ≤ 4000 := by
          have h1 := pr3.length
          have h2 := congrArg List.length cut
          rw [rp, List.map_append] at h2
          simp only [List.length_append] at h1 h2
          omega
        have nd3 : ((partsP wd (rowsOf p) (ys.take i) ++ (rowP wd 0 (z.2.take (j + 1))).map fun x => (x.1, z.1, x.2)).map (·.1)).Nodup := by
          rw [cut, List.map_append] at pn
          exact (List.nodup_append.mp pn).1
        have line : 50000 < sizeLine := by decide
        -- a letter put
        have put : ∀ (l : Int) (t2 : Addr) (H5 : Hp), oneP wd (keepsR (z.2.take j)) d = [(l, keepsR (z.2.take j))] → Same H4 H5 → H5 t2 = some (.tup [.str z.1, .int (keepsR (z.2.take j) : Nat)]) →
            Same H (upd H5 m (.dK (putK kvs3 (.inl l) (.ref t2)))) ∧ upd H5 m (.dK (putK kvs3 (.inl l) (.ref t2))) h1 = some (.lst (ys.map V.str)) ∧ ∃ kvs, upd H5 m (.dK (putK kvs3 (.inl l) (.ref t2))) m = some (.dK kvs) ∧
              Paired (PR K (upd H5 m (.dK (putK kvs3 (.inl l) (.ref t2))))) kvs (partsP wd (rowsOf p) (ys.take i) ++ (rowP wd 0 (z.2.take (j + 1))).map fun x => (x.1, z.1, x.2)) := by
          intro l t2 H5 ho s5 et
          have em5 := s5 _ _ em3
          have eA : (partsP wd (rowsOf p) (ys.take i) ++ (rowP wd 0 (z.2.take (j + 1))).map fun x => (x.1, z.1, x.2)) = (partsP wd (rowsOf p) (ys.take i) ++ (rowP wd 0 (z.2.take j)).map fun x => (x.1, z.1, x.2)) ++ [(l, z.1, keepsR (z.2.take j))] := by
            rw [rp, ho, List.map_append, ← List.append_assoc]
            rfl
          have off : Off m H5 (upd H5 m (.dK (putK kvs3 (.inl l) (.ref t2)))) := off_upd
          refine ⟨same_mut (s3.trans s5) nm, by rw [upd_ne m1.symm]; exact s5 _ _ e3, _, upd_same, ?_⟩
          have new : (Sum.inl l : Key) ∉ kvs3.map (·.1) := by
            rw [PR.keys pr3]
            intro mm
            obtain ⟨y, my, ey⟩ := List.mem_map.mp mm
            have ey : y.1 = l := by injection ey
            rw [eA, List.map_append, List.nodup_append] at nd3
            exact nd3.2.2 _ (List.mem_map.mpr ⟨y, my, ey⟩) l (List.mem_singleton.mpr rfl) rfl
          rw [putK_new new] at off ⊢
          rw [eA]
          refine paired_snoc (Paired.mapP pr3 fun kv x ⟨k1, t, k2, k3⟩ => ⟨k1, t, k2, ext_off em5 off (s5 _ _ k3)⟩) ⟨rfl, t2, rfl, ext_off em5 off et⟩
        cases d with
        | keep =>
          have kp : keepsR (z.2.take (j + 1)) = keepsR (z.2.take j) + 1 := kp
          refine ⟨.ref t, rfl, t, _, 0, _, rfl, rfl, st3, atI_nat (j := 0) rfl, rfl, _, rfl, iteT ⟨.int (keepsR (z.2.take j) : Nat), rfl, _, 1, rfl, rfl, ?_⟩⟩
          have e0 : rowP wd 0 (z.2.take (j + 1)) = rowP wd 0 (z.2.take j) := by
            rw [rp]
            exact List.append_nil _
          rw [kp, e0]
          exact ⟨⟨_, rfl⟩, s3, e3, kvs3, em3, pr3⟩
        | tell l h =>
          have kp : keepsR (z.2.take (j + 1)) = keepsR (z.2.take j) := kp
          refine ⟨.ref t, rfl, t, _, 0, _, rfl, rfl, st3, atI_nat (j := 0) rfl, rfl, _, rfl, iteF ?_⟩
          refine ⟨.ref t, rfl, t, _, 0, _, rfl, rfl, st3, atI_nat (j := 0) rfl, .str wd, rfl, rfl, _, rfl, ?_⟩
          by_cases c : wd = "tell"
          · rw [show decide (V.str "tell" = V.str wd) = true from decide_eq_true (by rw [c])]
            refine iteT ⟨.str z.1, rfl, .int (keepsR (z.2.take j) : Nat), rfl, by show 2 ≤ sizeLine; decide, fun t2 n2 => ?_⟩
            have s5 := same_new (o := .tup [.str z.1, .int (keepsR (z.2.take j) : Nat)]) n2
            obtain ⟨p1, p2, p3⟩ := put l t2 _ (by show (if wd = "tell" then [(l, keepsR (z.2.take j))] else []) = _; rw [if_pos c]) s5 upd_same
            refine ⟨.ref m, rfl, .ref t, rfl, t, _, 1, .int l, rfl, rfl, sqt_same s5 st3, atI_nat (j := 1) rfl, m, _, rfl, DPut.k (k := Sum.inl l) (s5 _ _ em3) (by omega), ?_⟩
            rw [kp]
            exact ⟨⟨_, rfl⟩, p1, p2, p3⟩
          · rw [show decide (V.str "tell" = V.str wd) = false from decide_eq_false fun e => c (by injection e with e; exact e.symm)]
            have e0 : rowP wd 0 (z.2.take (j + 1)) = rowP wd 0 (z.2.take j) := by
              rw [rp, show oneP wd (keepsR (z.2.take j)) (.tell l h) = [] from if_neg c]
              exact List.append_nil _
            rw [kp, e0]
            exact iteF ⟨⟨_, rfl⟩, s3, e3, kvs3, em3, pr3⟩
        | hear l =>
          have kp : keepsR (z.2.take (j + 1)) = keepsR (z.2.take j) := kp
          refine ⟨.ref t, rfl, t, _, 0, _, rfl, rfl, st3, atI_nat (j := 0) rfl, rfl, _, rfl, iteF ?_⟩
          refine ⟨.ref t, rfl, t, _, 0, _, rfl, rfl, st3, atI_nat (j := 0) rfl, .str wd, rfl, rfl, _, rfl, ?_⟩
          by_cases c : wd = "hear"
          · rw [show decide (V.str "hear" = V.str wd) = true from decide_eq_true (by rw [c])]
            refine iteT ⟨.str z.1, rfl, .int (keepsR (z.2.take j) : Nat), rfl, by show 2 ≤ sizeLine; decide, fun t2 n2 => ?_⟩
            have s5 := same_new (o := .tup [.str z.1, .int (keepsR (z.2.take j) : Nat)]) n2
            obtain ⟨p1, p2, p3⟩ := put l t2 _ (by show (if wd = "hear" then [(l, keepsR (z.2.take j))] else []) = _; rw [if_pos c]) s5 upd_same
            refine ⟨.ref m, rfl, .ref t, rfl, t, _, 1, .int l, rfl, rfl, sqt_same s5 st3, atI_nat (j := 1) rfl, m, _, rfl, DPut.k (k := Sum.inl l) (s5 _ _ em3) (by omega), ?_⟩
            rw [kp]
            exact ⟨⟨_, rfl⟩, p1, p2, p3⟩
          · rw [show decide (V.str "hear" = V.str wd) = false from decide_eq_false fun e => c (by injection e with e; exact e.symm)]
            have e0 : rowP wd 0 (z.2.take (j + 1)) = rowP wd 0 (z.2.take j) := by
              rw [rp, show oneP wd (keepsR (z.2.take j)) (.hear l) = [] from if_neg c]
              exact List.append_nil _
            rw [kp, e0]
            exact iteF ⟨⟨_, rfl⟩, s3, e3, kvs3, em3, pr3⟩
      · rintro σ' H3 ⟨⟨y5, rfl⟩, s3, e3, kvs3, em3, pr3⟩
        refine ⟨⟨_, _, _, rfl⟩, s3, e3, kvs3, em3, ?_⟩
        rw [lx, List.take_length] at pr3
        rw [take_snoc eh]
        unfold partsP at pr3 ⊢
        rw [List.flatMap_append, List.flatMap_singleton]
        unfold handP at pr3 ⊢
        rw [rz]
        exact pr3
    · rintro σ' H2 ⟨⟨y3, y4, y5, rfl⟩, s2, e2, kvs, em2, pr⟩
      rw [List.length_map, List.take_length] at pr
      exact ⟨_, rfl, q ys perm srt H2 m kvs s2 nm em2 pr⟩
def sp_tellings (K : PySem.W.Frag) (wd : Str) : Sp := fun vs H Q _ => ∃ v p, vs = [v] ∧ Da K H v (pastD p) ∧ GoodP p ∧ (p.map fun q => q.2.length).sum ≤ 4000 ∧
  ∀ ys, ys.Perm (p.map (·.1)) → PyProof.Rows.sortedS ys = true → ∀ H' m ks, Same H H' → H m = none → H' m = some (.dK ks) → Paired (PR K H') ks (partsP wd (rowsOf p) ys) → Q (.ref m) H'
theorem ok_tellings (D : Dfn K mg "tellings" s_tellings P_tellings) (C__parts_of : Cal P w K mg base CX0 1 "_parts_of" s__parts_of P__parts_of (sp_parts_of K)) : Cal P w K mg base CX0 2 "tellings" s_tellings P_tellings (sp_tellings K "tell") := D.cal fun f fd F => by
  refine F.ok sc_tellings (fun vs H Q E h => ?_) (fun cdv A outer s H vs Q E hr h => ?_)
  · obtain ⟨v, p, rfl, _⟩ := h
    rfl
  · obtain ⟨v, p, rfl, hd, g, few, q⟩ := h
    refine ⟨_, (pss_one (ps_ret (pe_callC C__parts_of (hr.mono (by decide)) rfl pass0 (pa_cons (pv 0) (pa_cons pe_str pa_nil))))), ?_⟩
    exact ⟨v, rfl, v, p, "tell", rfl, .inl rfl, hd, g, few, q⟩
theorem ok_hearings (D : Dfn K mg "hearings" s_hearings P_hearings) (C__parts_of : Cal P w K mg base CX0 1 "_parts_of" s__parts_of P__parts_of (sp_parts_of K)) : Cal P w K mg base CX0 2 "hearings" s_hearings P_hearings (sp_tellings K "hear") := D.cal fun f fd F => by
  refine F.ok sc_hearings (fun vs H Q E h => ?_) (fun cdv A outer s H vs Q E hr h => ?_)
  · obtain ⟨v, p, rfl, _⟩ := h
    rfl
  · obtain ⟨v, p, rfl, hd, g, few, q⟩ := h
    refine ⟨_, (pss_one (ps_ret (pe_callC C__parts_of (hr.mono (by decide)) rfl pass0 (pa_cons (pv 0) (pa_cons pe_str pa_nil))))), ?_⟩
    exact ⟨v, rfl, v, p, "hear", rfl, .inr rfl, hd, g, few, q⟩
def sp_presents (K : PySem.W.Frag) : Sp := fun vs H Q _ => ∃ v p, vs = [v] ∧ Da K H v (pastD p) ∧ GoodP p ∧ (p.map fun q => q.2.length).sum ≤ 4000 ∧
  ∀ ys, ys.Perm (p.map (·.1)) → PyProof.Rows.sortedS ys = true → ∀ H' m, Same H H' → H m = none → H' m = some (.dK (ys.map fun h => ((.inr h, V.int ((keepsR (rowsOf p h) + 1 : Nat) : Int)) : Key × V))) → Q (.ref m) H'
theorem ok_presents (D : Dfn K mg "presents" s_presents P_presents) (T : Txt mg) (C_check_past : Cal P w K mg base CX0 7 "check_past" s_check_past P_check_past (sp_check_past K)) (C_present_of : Cal P w K mg base CX0 1 "present_of" s_present_of P_present_of (sp_present_of K)) :
    Cal P w K mg base CX0 8 "presents" s_presents P_presents (sp_presents K) := D.cal fun f fd F => by
  refine F.ok sc_presents (fun vs H Q E h => ?_) (fun cdv A outer s H vs Q E hr h => ?_)
  · obtain ⟨v, p, rfl, _⟩ := h
    rfl
  · obtain ⟨v, p, rfl, hd, g, few, q⟩ := h
    have hu := hu_of hr
    refine ⟨_, (pss_cons (ps_expr (pe_callC C_check_past (hr.mono (by decide)) rfl pass0 (pa_cons (pv 0) pa_nil)))
      (pss_one (ps_ret (pe_dc (own := [("hand", 1)]) (g := (gName 1)) rfl sc_presents.nd (pi_listK (K := K) rfl (pe_callB (call_sortedD rfl) (by rfl) T.sorted (by decide +kernel) (pa_cons (pv 0) pa_nil))) (blkOk_by (own := [("hand", 1)]) (N := N_presents) (sc := defScope s_presents) (by decide +kernel)) (fun _ _ _ _ _ => pg_name (i := 1) sc_presents.nd rfl (.inl rfl)) (fun _ _ _ _ _ => pts_nil) (fun _ _ _ _ _ => (pv 1)) (fun _ _ _ _ _ => (pe_callC C_present_of (hr.mono (by decide)) rfl pass0 (pa_cons (pv 0) (pa_cons (pv 1) pa_nil)))))))), ?_⟩
    refine ⟨v, rfl, v, p, rfl, hd, g, few, fun H0 s0 => ?_⟩
    obtain ⟨a, ks, rfl, rd, dk⟩ := past_at (Da.same s0 _ hd)
    refine ⟨.ref a, rfl, a, ks, p.map (·.1), rfl, rd, by rw [past_keys dk, List.map_map]; rfl, by rw [List.length_map]; have := g.few; omega, fun ys h1 perm srt n1 => ?_⟩
    have s1 := s0.trans (same_new (o := .lst (ys.map V.str)) n1)
    have e1 : upd H0 h1 (.lst (ys.map V.str)) h1 = some (.lst (ys.map V.str)) := upd_same
    generalize upd H0 h1 (.lst (ys.map V.str)) = H1 at s1 e1
    have ndY : ys.Nodup := perm.nodup_iff.mpr g.nd
    refine ⟨h1, rfl, ⟨_, .inl (.inl e1)⟩, fun m nm => ?_⟩
    have fm : H m = none := s1.free nm
    refine dc_it (walk_list (K := K) (xs := ys.map V.str)) (fun i H' => Same H1 H' ∧ H' m = some (.dK ((ys.take i).map fun h => ((.inr h, V.int ((keepsR (rowsOf p h) + 1 : Nat) : Int)) : Key × V)))) ⟨same_new nm, upd_same⟩ (fun i H' _ pv => .inl (.inl (pv.1 _ _ e1))) ?_ ?_
    · rintro i x H2 H3 hi ⟨sm, em⟩ ⟨rfl, hx⟩
      rw [List.length_map] at hi
      have eh : ys[i]? = some (ys[i]'hi) := List.getElem?_eq_getElem hi
      have cutY : ys.take (i + 1) = ys.take i ++ [ys[i]'hi] := take_snoc eh
      have nin : (ys[i]'hi) ∉ ys.take i := fun mm => by
        have h1 : (ys.take (i + 1)).Nodup := ndY.sublist (List.take_sublist _ _)
        rw [cutY, List.nodup_append] at h1
        exact h1.2.2 _ mm _ (List.mem_singleton.mpr rfl) rfl
      generalize ys[i]'hi = hand at eh cutY nin
      rw [List.getElem?_map, eh] at hx
      cases hx
      refine ⟨rfl, yes_on ⟨.str hand, rfl, .ref a, rfl, .str hand, rfl, .ref a, p, hand, rfl, Da.same (s1.trans sm) _ hd, g.nd, perm.mem_iff.mp (List.mem_of_getElem? eh), few, fun H4 s4 => ⟨_, .inr hand, rfl, s4 _ _ em, ?_, ?_⟩⟩⟩
      · rw [List.length_map, List.length_take]
        have : 50000 < sizeLine := by decide
        have := g.few
        have := perm.length_eq
        rw [List.length_map] at this
        omega
      · refine ⟨same_mut (sm.trans s4) nm, ?_⟩
        rw [upd_same, putK_new, cutY, List.map_append]
        · rfl
        · intro mm
          obtain ⟨kv, m1, e2⟩ := List.mem_map.mp mm
          obtain ⟨h', m2, rfl⟩ := List.mem_map.mp m1
          have e2 : (Sum.inr h' : Key) = .inr hand := e2
          injection e2 with e2
          exact nin (by rw [← e2]; exact m2)
    · rintro H2 ⟨sm, em⟩
      rw [List.length_map, List.take_length] at em
      exact q ys perm srt H2 m (s1.trans sm) fm em
def sp_tale (K : PySem.W.Frag) : Sp := fun vs H Q _ => ∃ v p l, vs = [v, .int l] ∧ Da K H v (pastD p) ∧ GoodP p ∧ (p.map fun q => q.2.length).sum ≤ 4000 ∧ l ∈ toldP p ∧
  ∀ ys h n H' t, ys.Perm (p.map (·.1)) → PyProof.Rows.sortedS ys = true → (l, h, n) ∈ partsP "tell" (rowsOf p) ys → Same H H' → H' t = some (.tup [.str h, .int (n : Nat)]) → Q (.ref t) H'
theorem PR.val {H : Hp} {ks : List (Key × V)} {ps : List (Int × Str × Nat)} (h : Paired (PR K H) ks ps) (nd : (ps.map (·.1)).Nodup) {l : Int} {hn : Str × Nat} (m : (l, hn) ∈ ps) : ∃ t, valV ks (.inl l) = some (.ref t) ∧ H t = some (.tup [.str hn.1, .int (hn.2 : Nat)]) := by
  obtain ⟨i, hi⟩ := List.mem_iff_getElem?.mp m
  obtain ⟨kv, ek, k1, t, k2, k3⟩ := paired_at h hi
  refine ⟨t, ?_, k3⟩
  have ndk : (ks.map (·.1)).Nodup := by
    rw [PR.keys h, show (ps.map fun x => (Sum.inl x.1 : Key)) = (ps.map (·.1)).map Sum.inl by rw [List.map_map]; rfl]
    exact List.Pairwise.map _ (fun a b h e => h (by injection e)) nd
  obtain ⟨kk, vv⟩ := kv
  have k1 : kk = .inl l := k1
  have k2 : vv = .ref t := k2
  subst k1 k2
  exact valV_nodup ndk ek
theorem ok_tale (D : Dfn K mg "_tale" s__tale P__tale) (T : Txt mg) (C_is_whole : Cal P w K mg base CX0 1 "is_whole" s_is_whole P_is_whole (sp_is_whole K)) (C_tellings : Cal P w K mg base CX0 2 "tellings" s_tellings P_tellings (sp_tellings K "tell")) :
    Cal P w K mg base CX0 3 "_tale" s__tale P__tale (sp_tale K) := D.cal fun f fd F => by
  refine F.ok sc__tale (fun vs H Q E h => ?_) (fun cdv A outer s H vs Q E hr h => ?_)
  · obtain ⟨v, p, l, rfl, _⟩ := h
    rfl
  · obtain ⟨v, p, l, rfl, hd, g, few, ml, q⟩ := h
    have hu := hu_of hr
    refine ⟨_, (pss_cons (ps_set (i := 2) sc__tale.nd rfl (.inl rfl) (pe_callC C_tellings (hr.mono (by decide)) rfl pass0 (pa_cons (pv 0) pa_nil)))
      (pss_cons (ps_if (PW.pt (pw_or (pt_not (pt_val (pe_callC C_is_whole (hr.mono (by decide)) rfl pass0 (pa_cons (pv 1) pa_nil)))) (pw_or1 (pt_cmp (pc_dnotin hu (pv 1) (pv 2)))))) (pss_one ps_never) pss_nil)
      (pss_one (ps_ret (pe_dget hu (pv 2) (pv 1) (fun _ _ => rfl)))))), ?_⟩
    refine ⟨v, rfl, v, p, rfl, hd, g, few, fun ys perm srt H1 m ks s1 nm em pr => ?_⟩
    have pn := parts_nodup g (.inl rfl) perm
    obtain ⟨x, mx, ex⟩ := List.mem_map.mp ((parts_tell g.nd perm).mem_iff.mpr ml)
    obtain ⟨l', hn⟩ := x
    have ex : l' = l := ex
    subst ex
    obtain ⟨t, hv, st⟩ := PR.val pr pn mx
    refine ⟨.int l', rfl, .int l', .int l', rfl, .int l', _, rfl, iteF ?_⟩
    refine ⟨.int l', rfl, .ref m, rfl, m, some (.ref t), rfl, .inl ⟨ks, .inl l', .inl em, rfl, hv.symm⟩, _, rfl, iteF ?_⟩
    exact ⟨.ref m, rfl, .int l', rfl, m, .ref t, rfl, .inl ⟨ks, .inl l', .inl em, rfl, hv.symm⟩, q ys hn.1 hn.2 H1 t perm srt mx s1 st⟩
theorem ok_told_in (D : Dfn K mg "told_in" s_told_in P_told_in) (C_check_past : Cal P w K mg base CX0 7 "check_past" s_check_past P_check_past (sp_check_past K)) (C__tale : Cal P w K mg base CX0 3 "_tale" s__tale P__tale (sp_tale K)) :
    Cal P w K mg base CX0 8 "told_in" s_told_in P_told_in (sp_tale K) := D.cal fun f fd F => by
  refine F.ok sc_told_in (fun vs H Q E h => ?_) (fun cdv A outer s H vs Q E hr h => ?_)
  · obtain ⟨v, p, l, rfl, _⟩ := h
    rfl
  · obtain ⟨v, p, l, rfl, hd, g, few, ml, q⟩ := h
    refine ⟨_, (pss_cons (ps_expr (pe_callC C_check_past (hr.mono (by decide)) rfl pass0 (pa_cons (pv 0) pa_nil)))
      (pss_one (ps_ret (pe_callC C__tale (hr.mono (by decide)) rfl pass0 (pa_cons (pv 0) (pa_cons (pv 1) pa_nil)))))), ?_⟩
    refine ⟨v, rfl, v, p, rfl, hd, g, few, fun H0 s0 => ?_⟩
    exact ⟨v, rfl, .int l, rfl, v, p, l, rfl, Da.same s0 _ hd, g, few, ml, fun ys h n H' t perm srt mx s1 st => q ys h n H' t perm srt mx (s0.trans s1) st⟩
def sp_heard_in (K : PySem.W.Frag) : Sp := fun vs H Q _ => ∃ v p l, vs = [v, .int l] ∧ Da K H v (pastD p) ∧ GoodP p ∧ (p.map fun q => q.2.length).sum ≤ 4000 ∧ l ∈ toldP p ∧
  (∀ ys h n H' t, ys.Perm (p.map (·.1)) → PyProof.Rows.sortedS ys = true → (l, h, n) ∈ partsP "hear" (rowsOf p) ys → Same H H' → H' t = some (.tup [.str h, .int (n : Nat)]) → Q (.ref t) H') ∧ (l ∉ (hearsP p).map (·.1) → ∀ H', Same H H' → Q .non H')
theorem ok_heard_in (D : Dfn K mg "heard_in" s_heard_in P_heard_in) (C_check_past : Cal P w K mg base CX0 7 "check_past" s_check_past P_check_past (sp_check_past K)) (C__tale : Cal P w K mg base CX0 3 "_tale" s__tale P__tale (sp_tale K)) (C_hearings : Cal P w K mg base CX0 2 "hearings" s_hearings P_hearings (sp_tellings K "hear")) :
    Cal P w K mg base CX0 8 "heard_in" s_heard_in P_heard_in (sp_heard_in K) := D.cal fun f fd F => by
  refine F.ok sc_heard_in (fun vs H Q E h => ?_) (fun cdv A outer s H vs Q E hr h => ?_)
  · obtain ⟨v, p, l, rfl, _⟩ := h
    rfl
  · obtain ⟨v, p, l, rfl, hd, g, few, ml, q1, q2⟩ := h
    have hu := hu_of hr
    refine ⟨_, (pss_cons (ps_expr (pe_callC C_check_past (hr.mono (by decide)) rfl pass0 (pa_cons (pv 0) pa_nil)))
      (pss_cons (ps_expr (pe_callC C__tale (hr.mono (by decide)) rfl pass0 (pa_cons (pv 0) (pa_cons (pv 1) pa_nil))))
      (pss_one (ps_ret (pe_dget1 hu (pe_callC C_hearings (hr.mono (by decide)) rfl pass0 (pa_cons (pv 0) pa_nil)) (pv 1) ⟨rfl, rfl, rfl, rfl⟩))))), ?_⟩
    refine ⟨v, rfl, v, p, rfl, hd, g, few, fun H0 s0 => ?_⟩
    refine ⟨v, rfl, .int l, rfl, v, p, l, rfl, Da.same s0 _ hd, g, few, ml, fun ys0 h0 n0 H1 t0 perm0 srt0 mx0 s1 st0 => ?_⟩
    have s01 := s0.trans s1
    refine ⟨v, rfl, v, p, rfl, Da.same s01 _ hd, g, few, fun ys perm srt H2 m ks s2 nm em pr => ?_⟩
    have s02 := s01.trans s2
    have pn := parts_nodup g (.inr rfl) perm
    by_cases c : l ∈ (hearsP p).map (·.1)
    · obtain ⟨x, mx, ex⟩ := List.mem_map.mp ((parts_hear g.nd perm).mem_iff.mpr c)
      obtain ⟨l', hn⟩ := x
      have ex : l' = l := ex
      subst ex
      obtain ⟨t, hv, st⟩ := PR.val pr pn mx
      exact ⟨m, rfl, .inl ⟨_, .inl em⟩, .int l', rfl, some (.ref t), .inl ⟨ks, .inl l', .inl em, rfl, hv.symm⟩, q1 ys hn.1 hn.2 H2 t perm srt mx s02 st⟩
    · have hv : valV ks (.inl l) = none := by
        cases e : valV ks (.inl l) with
        | none => rfl
        | some v0 =>
          have : (valV ks (.inl l)).isSome = true := by rw [e]; rfl
          rw [← valV_any, List.any_eq_true] at this
          obtain ⟨kv, mk, ek⟩ := this
          have ek := of_decide_eq_true ek
          have m1 : (Sum.inl l : Key) ∈ ks.map (·.1) := List.mem_map.mpr ⟨kv, mk, ek⟩
          rw [PR.keys pr] at m1
          obtain ⟨x, mx, ex⟩ := List.mem_map.mp m1
          have ex : x.1 = l := by injection ex
          exact absurd ((parts_hear g.nd perm).mem_iff.mp (List.mem_map.mpr ⟨x, mx, ex⟩)) c
      exact ⟨m, rfl, .inl ⟨_, .inl em⟩, .int l, rfl, none, .inl ⟨ks, .inl l, .inl em, rfl, hv.symm⟩, q2 c H2 s02⟩
def lyingL (p : Past) : List Int := (toldP p).filter fun l => decide (l ∉ (hearsP p).map (·.1))
def sp_letters_lying (K : PySem.W.Frag) : Sp := fun vs H Q _ => ∃ v p, vs = [v] ∧ Da K H v (pastD p) ∧ GoodP p ∧ (p.map fun q => q.2.length).sum ≤ 4000 ∧
  ∀ (ns' : List Int) H' o, ns'.Perm (lyingL p) → ns'.Pairwise (· ≤ ·) → Same H H' → H o = none → H' o = some (.lst (ns'.map V.int)) → Q (.ref o) H'
theorem ok_letters_lying (D : Dfn K mg "letters_lying" s_letters_lying P_letters_lying) (T : Txt mg) (C_check_past : Cal P w K mg base CX0 7 "check_past" s_check_past P_check_past (sp_check_past K)) (C_tellings : Cal P w K mg base CX0 2 "tellings" s_tellings P_tellings (sp_tellings K "tell")) (C_hearings : Cal P w K mg base CX0 2 "hearings" s_hearings P_hearings (sp_tellings K "hear")) :
    Cal P w K mg base CX0 8 "letters_lying" s_letters_lying P_letters_lying (sp_letters_lying K) := D.cal fun f fd F => by
  refine F.ok sc_letters_lying (fun vs H Q E h => ?_) (fun cdv A outer s H vs Q E hr h => ?_)
  · obtain ⟨v, p, rfl, _⟩ := h
    rfl
  · obtain ⟨v, p, rfl, hd, g, few, q⟩ := h
    have hu := hu_of hr
    refine ⟨_, (pss_cons (ps_expr (pe_callC C_check_past (hr.mono (by decide)) rfl pass0 (pa_cons (pv 0) pa_nil)))
      (pss_cons (ps_set (i := 1) sc_letters_lying.nd rfl (.inr rfl) (pe_callC C_hearings (hr.mono (by decide)) rfl pass0 (pa_cons (pv 0) pa_nil)))
      (pss_one (ps_ret (pe_callB (cr_sortedAnyK (K := K) rfl) (by rfl) T.sorted (by decide +kernel) (pa_cons (pe_lc (own := [("letter", 2)]) (g := (gName 2)) rfl sc_letters_lying.nd (pi_keys (pe_frz (pe_callC C_tellings (hr.mono (by decide)) rfl pass0 (pa_cons (pv 0) pa_nil)))) (blkOk_by (own := [("letter", 2)]) (N := N_letters_lying) (sc := defScope s_letters_lying) (by decide +kernel)) (fun _ _ _ _ _ => pg_name (i := 2) sc_letters_lying.nd rfl (.inl rfl)) (fun _ _ _ _ _ => pts_one (pt_cmp (pc_dnotin hu (pv 2) (pv 1)))) (fun _ _ _ _ _ => (pv 2))) pa_nil)))))), ?_⟩
    refine ⟨v, rfl, v, p, rfl, hd, g, few, fun H0 s0 => ?_⟩
    refine ⟨v, rfl, v, p, rfl, Da.same s0 _ hd, g, few, fun ys perm srt H1 m ks s1 nm em pr => ?_⟩
    have s01 := s0.trans s1
    refine ⟨v, rfl, v, p, rfl, Da.same s01 _ hd, g, few, fun ys2 perm2 srt2 H2 m2 ks2 s2 nm2 em2 pr2 => ⟨m2, ks2, rfl, em2, fun od => ⟨m2, od, rfl, .inl ⟨ks2, upd_same, fun M nM => ?_⟩⟩⟩⟩
    have fm2 : H m2 = none := s01.free nm2
    have mm : m ≠ m2 := fun z => by rw [← z, em] at nm2; cases nm2
    have emz : upd H2 m2 (.frz od (.dK ks2)) m = some (.dK ks) := by rw [upd_ne mm]; exact s2 _ _ em
    have sz : Same H (upd H2 m2 (.frz od (.dK ks2))) := same_mut (s01.trans s2) fm2
    have efz : upd H2 m2 (.frz od (.dK ks2)) m2 = some (.frz od (.dK ks2)) := upd_same
    generalize upd H2 m2 (.frz od (.dK ks2)) = Hz at emz sz efz nM
    have hv : ∀ l : Int, (valV ks (.inl l)).isSome = decide (l ∈ (hearsP p).map (·.1)) := fun l => by
      have hm : l ∈ (hearsP p).map (·.1) ↔ (Sum.inl l : Key) ∈ ks.map (·.1) := by
        rw [PR.keys pr, ← (parts_hear g.nd perm).mem_iff]
        constructor
        · intro h
          obtain ⟨x, mx, ex⟩ := List.mem_map.mp h
          exact List.mem_map.mpr ⟨x, mx, by rw [ex]⟩
        · intro h
          obtain ⟨x, mx, ex⟩ := List.mem_map.mp h
          have ex : x.1 = l := by injection ex
          exact List.mem_map.mpr ⟨x, mx, ex⟩
      rw [← valV_any]
      by_cases z : l ∈ (hearsP p).map (·.1)
      · rw [decide_eq_true z]
        obtain ⟨kv, mk, ek⟩ := List.mem_map.mp (hm.mp z)
        exact List.any_eq_true.mpr ⟨kv, mk, decide_eq_true ek⟩
      · rw [decide_eq_false z]
        refine List.any_eq_false.mpr fun kv mk => ?_
        rw [decide_eq_true_eq]
        exact fun e => z (hm.mpr (List.mem_map.mpr ⟨kv, mk, e⟩))
    have l2 := pr2.length
    have pl := partsP_len "tell" (rowsOf p) ys2
    have tot : total (rowsOf p) ys2 ≤ 4000 := by
      rw [total_perm _ perm2, total_past g.nd]
      exact few
    refine lc_fm walk_keys (partsP "tell" (rowsOf p) ys2) (fun x => if x.1 ∈ (hearsP p).map (·.1) then none else some x.1) (fun l y _ => y = .int l) nM l2 (by omega) (fun H' sm => sm _ _ efz) (fun _ _ _ _ _ r => r) ?_ ?_
    · rintro i x y H3 H4 hi sm - ⟨rfl, k, v', hk, rfl⟩ KK NN kk nn
      obtain ⟨kv, ek, k1, _⟩ := paired_at pr2 hi
      rw [hk] at ek
      cases Option.some.inj ek
      have k1 : k = .inl x.1 := k1
      subst k1
      refine ⟨rfl, .int x.1, rfl, .ref m, rfl, m, valV ks (.inl x.1), rfl, .inl ⟨ks, .inl x.1, .inl (sm _ _ emz), rfl, rfl⟩, _, rfl, ?_⟩
      rw [hv]
      by_cases z : x.1 ∈ (hearsP p).map (·.1)
      · rw [decide_eq_true z]
        exact iteF (nn _ (if_pos z) (.refl _))
      · rw [decide_eq_false z]
        exact iteT ⟨.int x.1, rfl, kk _ _ _ (if_neg z) (.refl _) rfl⟩
    · intro H3 zs sm eM prz
      have ez := paired_eq prz
      refine ⟨M, _, rfl, .inl (.inl (by rw [eM, ez])), fun ns' o pm pw no => q ns' _ o (pm.trans ?_) pw ((sz.trans sm).trans (same_new no)) ((sz.trans sm).free no) upd_same⟩
      have h1 : (partsP "tell" (rowsOf p) ys2).filterMap (fun x => if x.1 ∈ (hearsP p).map (·.1) then none else some x.1) = ((partsP "tell" (rowsOf p) ys2).map (·.1)).filter fun l => decide (l ∉ (hearsP p).map (·.1)) := by
        generalize partsP "tell" (rowsOf p) ys2 = l
        clear q pr2 l2 pl
        induction l with
        | nil => rfl
        | cons x l ih =>
          rw [List.filterMap_cons, List.map_cons, List.filter_cons]
          by_cases z : x.1 ∈ (hearsP p).map (·.1)
          · rw [if_pos z, if_neg (by simpa using z)]
            exact ih
          · rw [if_neg z, if_pos (by simpa using z)]
            exact congrArg (x.1 :: ·) ih
      rw [h1]
      exact (parts_tell g.nd perm2).filter _
end
end L2.Fb.Law

namespace L2.Fb.Law
open PySem PySem.Spec
open PyProof.Rows
abbrev s__law_where : Stmt := topS 36
abbrev N__law_where : List Str := ["rows", "told", "heard", "hand", "number", "deed"]
abbrev P__law_where : List Str := ["rows"]
theorem sc__law_where : FnScope N__law_where P__law_where (defScope s__law_where) := ⟨rfl, rfl, rfl, by decide +kernel, rfl, by decide +kernel, by decide +kernel⟩
section
variable {P : Program} {w : World} {K : PySem.W.Frag} {mg : Str → Option Value} {base : Heap}
theorem dp_deed {H : Hp} {t : Addr} {d : Deed} (h : SqT K H t (deedV d)) : Dp K H (.ref t) (deedD d) := by
  cases d with
  | keep => exact .tup h (.cons (.str _) .nil)
  | tell l k => exact .tup h (.cons (.str _) (.cons (.int _) (.cons (.str _) .nil)))
  | hear l => exact .tup h (.cons (.str _) (.cons (.int _) .nil))
theorem ok_words : PyData.strOk "keep" = true ∧ PyData.strOk "tell" = true ∧ PyData.strOk "hear" = true := by decide +kernel
theorem sh_deed {d : Deed} (h : ∀ l k, d = .tell l k → PyData.strOk k = true) : SeqAt.shaped (deedD d) = true := by
  obtain ⟨w1, w2, w3⟩ := ok_words
  cases d with
  | keep => simp [SeqAt.shaped, deedD, PyData.canLay0, PyData.canLayAll0, PyData.depth, PyData.depthAll, w1]
  | tell l k => simp [SeqAt.shaped, deedD, PyData.canLay0, PyData.canLayAll0, PyData.depth, PyData.depthAll, w2, h l k rfl]
  | hear l => simp [SeqAt.shaped, deedD, PyData.canLay0, PyData.canLayAll0, PyData.depth, PyData.depthAll, w3]
theorem eqv_keep (d : Deed) : (deedD d).eqv (.tuple [.str "keep"]) = decide (d = .keep) := by
  have a1 : ("tell" : Str) ≠ "keep" := by decide +kernel
  have a2 : ("hear" : Str) ≠ "keep" := by decide +kernel
  cases d with
  | keep => simp [deedD, PyData.eqv, PyData.eqvAll]
  | tell l k => simp [deedD, PyData.eqv, PyData.eqvAll]
  | hear l => simp [deedD, PyData.eqv, PyData.eqvAll]
theorem rowP_cons (w : Str) (n : Nat) (d : Deed) (s : List Deed) : rowP w n (d :: s) = oneP w n d ++ rowP w (n + (if d = .keep then 1 else 0)) s := by
  cases d with
  | keep => rfl
  | tell l k =>
    show (if w = "tell" then (l, n) :: rowP w n s else rowP w n s) = (if w = "tell" then [(l, n)] else []) ++ rowP w n s
    split <;> rfl
  | hear l =>
    show (if w = "hear" then (l, n) :: rowP w n s else rowP w n s) = (if w = "hear" then [(l, n)] else []) ++ rowP w n s
    split <;> rfl
/-- what stands behind place c of a row -/
def tailP (w : Str) (R : Str → List Deed) (h : Str) (c : Nat) : List (Int × Str × Nat) := (rowP w (keepsR ((R h).take c)) ((R h).drop c)).map fun x => (x.1, h, x.2)
theorem tailP_step (w : Str) (R : Str → List Deed) (h : Str) {c : Nat} {d : Deed} (e : (R h)[c]? = some d) : tailP w R h c = ((oneP w (keepsR ((R h).take c)) d).map fun x => (x.1, h, x.2)) ++ tailP w R h (c + 1) := by
  obtain ⟨lt, ed⟩ := List.getElem?_eq_some_iff.mp e
  unfold tailP
  rw [List.drop_eq_getElem_cons lt, ed, rowP_cons, List.map_append, take_snoc e, keeps_snoc]
theorem tailP_cut (w : Str) (R : Str → List Deed) {ys : List Str} {i : Nat} {h : Str} (e : ys[i]? = some h) (c : Nat) : ∃ rest, (partsP w R ys).Perm ((partsP w R (ys.take i) ++ tailP w R h c) ++ rest) := by
  obtain ⟨lt, eh⟩ := List.getElem?_eq_some_iff.mp e
  have c1 : ys = ys.take i ++ h :: ys.drop (i + 1) := by
    rw [← eh, ← List.drop_eq_getElem_cons lt, List.take_append_drop]
  have c2 : rowP w 0 (R h) = rowP w 0 ((R h).take c) ++ rowP w (keepsR ((R h).take c)) ((R h).drop c) := by
    have := rowP_app w ((R h).take c) ((R h).drop c) 0
    rw [List.take_append_drop, Nat.zero_add] at this
    exact this
  refine ⟨(rowP w 0 ((R h).take c)).map (fun x => (x.1, h, x.2)) ++ partsP w R (ys.drop (i + 1)), ?_⟩
  have c3 : partsP w R ys = partsP w R (ys.take i) ++ (handP w R h ++ partsP w R (ys.drop (i + 1))) := by
    show ys.flatMap _ = _
    rw (occs := .pos [1]) [c1]
    rw [List.flatMap_append, List.flatMap_cons]
    rfl
  rw [c3]
  unfold handP
  rw [c2, List.map_append]
  show (_ ++ ((_ ++ tailP w R h c) ++ _)).Perm _
  rw [List.append_assoc, List.append_assoc]
  refine List.Perm.append_left _ ?_
  rw [← List.append_assoc, ← List.append_assoc]
  exact List.Perm.append_right _ List.perm_append_comm
/-- one letter more in a dict of letters -/
theorem PR.put {H : Hp} {ks : List (Key × V)} {L X : List (Int × Str × Nat)} {l : Int} {h : Str} {n : Nat} {t : Addr} {p : Past} {w : Str} {ys : List Str} {rest : List (Int × Str × Nat)} (pr : Paired (PR K H) ks L) (nd : ((partsP w (rowsOf p) ys).map (·.1)).Nodup)
    (cut : (partsP w (rowsOf p) ys).Perm (((l, h, n) :: X) ++ rest)) (hp : L.Perm X) (st : H t = some (.tup [.str h, .int (n : Nat)])) : putK ks (.inl l) (.ref t) = ks ++ [(.inl l, .ref t)] ∧ Paired (PR K H) (ks ++ [(.inl l, .ref t)]) (L ++ [(l, h, n)]) ∧ (L ++ [(l, h, n)]).Perm ((l, h, n) :: X) := by
  refine ⟨putK_new ?_, paired_snoc pr ⟨rfl, t, rfl, st⟩, List.perm_append_comm.trans (hp.cons _)⟩
  rw [PR.keys pr]
  intro mm
  obtain ⟨y, my, ey⟩ := List.mem_map.mp mm
  have ey : y.1 = l := by injection ey
  have nd2 := ((cut.map (·.1)).nodup_iff).mp nd
  rw [List.map_append, List.map_cons] at nd2
  have nd3 := (List.nodup_cons.mp (List.nodup_append.mp nd2).1).1
  exact nd3 (List.mem_map.mpr ⟨y, hp.mem_iff.mp my, ey⟩)
def Off2 (m1 m2 : Addr) (H H' : Hp) : Prop := ∀ b u, b ≠ m1 → b ≠ m2 → H b = some u → H' b = some u
theorem Off2.same {m1 m2 : Addr} {H H' H'' : Hp} (o : Off2 m1 m2 H H') (s : Same H' H'') : Off2 m1 m2 H H'' := fun b u a c e => s _ _ (o b u a c e)
theorem sql_off2 {m1 m2 b : Addr} {H H' : Hp} {x1 x2 : List (Key × V)} {xs : List V} (o : Off2 m1 m2 H H') (h1 : H m1 = some (.dK x1)) (h2 : H m2 = some (.dK x2)) (h : SqL K H b xs) : SqL K H' b xs := by
  rcases h with (h | ⟨od, h⟩) | h
  · exact .inl (.inl (o _ _ (fun z => by rw [z, h1] at h; cases h) (fun z => by rw [z, h2] at h; cases h) h))
  · exact .inl (.inr ⟨od, o _ _ (fun z => by rw [z, h1] at h; cases h) (fun z => by rw [z, h2] at h; cases h) h⟩)
  · exact .inr h
theorem sqt_off2 {m1 m2 b : Addr} {H H' : Hp} {x1 x2 : List (Key × V)} {xs : List V} (o : Off2 m1 m2 H H') (h1 : H m1 = some (.dK x1)) (h2 : H m2 = some (.dK x2)) (h : SqT K H b xs) : SqT K H' b xs := by
  rcases h with (h | ⟨od, h⟩) | h
  · exact .inl (.inl (o _ _ (fun z => by rw [z, h1] at h; cases h) (fun z => by rw [z, h2] at h; cases h) h))
  · exact .inl (.inr ⟨od, o _ _ (fun z => by rw [z, h1] at h; cases h) (fun z => by rw [z, h2] at h; cases h) h⟩)
  · exact .inr h
theorem PR.same {H H' : Hp} {ks : List (Key × V)} {L : List (Int × Str × Nat)} (s : Same H H') (h : Paired (PR K H) ks L) : Paired (PR K H') ks L := Paired.mapP h fun kv x ⟨k1, t, k2, k3⟩ => ⟨k1, t, k2, s _ _ k3⟩
theorem PR.off {H H' : Hp} {ks x : List (Key × V)} {L : List (Int × Str × Nat)} {m : Addr} (hm : H m = some (.dK x)) (o : Off m H H') (h : Paired (PR K H) ks L) : Paired (PR K H') ks L := Paired.mapP h fun kv x ⟨k1, t, k2, k3⟩ => ⟨k1, t, k2, ext_off hm o k3⟩
/-- what the two dicts hold -/
structure W2 (K : PySem.W.Frag) (m1 m2 : Addr) (H : Hp) (X1 X2 : List (Int × Str × Nat)) : Prop where
  ex1 : ∃ k1 L1, H m1 = some (.dK k1) ∧ Paired (PR K H) k1 L1 ∧ L1.Perm X1
  ex2 : ∃ k2 L2, H m2 = some (.dK k2) ∧ Paired (PR K H) k2 L2 ∧ L2.Perm X2
theorem W2.same {m1 m2 : Addr} {H H' : Hp} {X1 X2 : List (Int × Str × Nat)} (s : Same H H') (h : W2 K m1 m2 H X1 X2) : W2 K m1 m2 H' X1 X2 :=
  ⟨let ⟨k, L, a, b, c⟩ := h.ex1; ⟨k, L, s _ _ a, PR.same s b, c⟩, let ⟨k, L, a, b, c⟩ := h.ex2; ⟨k, L, s _ _ a, PR.same s b, c⟩⟩
theorem W2.perm {m1 m2 : Addr} {H : Hp} {X1 X2 Y1 Y2 : List (Int × Str × Nat)} (h : W2 K m1 m2 H X1 X2) (p1 : X1.Perm Y1) (p2 : X2.Perm Y2) : W2 K m1 m2 H Y1 Y2 :=
  ⟨let ⟨k, L, a, b, c⟩ := h.ex1; ⟨k, L, a, b, c.trans p1⟩, let ⟨k, L, a, b, c⟩ := h.ex2; ⟨k, L, a, b, c.trans p2⟩⟩
def sp_where (K : PySem.W.Frag) : Sp := fun vs H Q _ => ∃ v p, vs = [v] ∧ Da K H v (pastD p) ∧ GoodP p ∧ (p.map fun q => q.2.length).sum ≤ 4000 ∧
  ∀ H' t m1 m2 ks1 ks2 l1 l2, Same H H' → H t = none → H' t = some (.tup [.ref m1, .ref m2]) → H m1 = none → H m2 = none → m1 ≠ m2 → H' m1 = some (.dK ks1) → H' m2 = some (.dK ks2) → Paired (PR K H') ks1 l1 → Paired (PR K H') ks2 l2 → l1.Perm (partsP "tell" (rowsOf p) (p.map (·.1))) → l2.Perm (partsP "hear" (rowsOf p) (p.map (·.1))) → Q (.ref t) H'
theorem ok_where (D : Dfn K mg "_law_where" s__law_where P__law_where) (T : TxtL mg) : Cal P w K mg base CX0 1 "_law_where" s__law_where P__law_where (sp_where K) := D.cal fun f fd F => by
  refine F.ok sc__law_where (fun vs H Q E h => ?_) (fun cdv A outer s H vs Q E hr h => ?_)
  · obtain ⟨v, p, rfl, _⟩ := h
    rfl
  · obtain ⟨v, p, rfl, hd, g, few, q⟩ := h
    have hu := hu_of hr
    have hu64 := hu64_of hr
    refine ⟨_, (pss_cons (ps_par (i := 1) (j := 2) (by rfl) sc__law_where.nd rfl rfl (by decide) rfl rfl (pa_cons pe_dnewK (pa_cons pe_dnewK pa_nil)) (by rfl))
      (pss_cons (ps_lockO (ps_for PassesOwn.never rfl (pi_keys (pv 0)) (pg_name (i := 3) sc__law_where.nd rfl (.inl rfl)) (pss_cons (ps_set (i := 4) sc__law_where.nd rfl (.inl rfl) (pe_callB (call_len_seqK (K := K) rfl) (by rfl) T.len PySem.boot_len (pa_cons (pe_lc (own := [("deed", 5)]) (g := (gName 5)) rfl sc__law_where.nd (pi_listK (K := K) rfl (pe_dget hu (pv 0) (pv 3) (fun _ _ => rfl))) (blkOk_by (own := [("deed", 5)]) (N := N__law_where) (sc := defScope s__law_where) (by decide +kernel)) (fun _ _ _ _ _ => pg_name (i := 5) sc__law_where.nd rfl (.inl rfl)) (fun _ _ _ _ _ => pts_one (pt_cmpR (op_eqDK (K := K) rfl hu64) (pv 5) (pe_tup (pa_cons pe_str pa_nil)) (nomark _))) (fun _ _ _ _ _ => (pv 5))) pa_nil)))
      (pss_one (ps_for PassesOwn.never rfl (pi_listK (K := K) rfl (pe_revK (K := K) rfl (pe_dget hu (pv 0) (pv 3) (fun _ _ => rfl)) (po_some (pe_un un_neg pe_int)))) (pg_name (i := 5) sc__law_where.nd rfl (.inl rfl)) (pss_cons (ps_if (pt_cmpR op_eq (pe_ix (ix_tupK (K := K) rfl) (pv 5) pe_int (fun _ _ => rfl)) pe_str (nomark _)) (pss_one (ps_set (i := 4) sc__law_where.nd rfl (.inl rfl) (pe_op op_sub (pv 4) pe_int))) pss_nil)
      (pss_cons (ps_if (pt_cmpR op_eq (pe_ix (ix_tupK (K := K) rfl) (pv 5) pe_int (fun _ _ => rfl)) pe_str (nomark _)) (pss_one (ps_dput hu (pv 1) (pe_ix (ix_tupK (K := K) rfl) (pv 5) pe_int (fun _ _ => rfl)) (pe_tup (pa_cons (pv 3) (pa_cons (pv 4) pa_nil))) rfl)) pss_nil)
      (pss_one (ps_if (pt_cmpR op_eq (pe_ix (ix_tupK (K := K) rfl) (pv 5) pe_int (fun _ _ => rfl)) pe_str (nomark _)) (pss_one (ps_dput hu (pv 2) (pe_ix (ix_tupK (K := K) rfl) (pv 5) pe_int (fun _ _ => rfl)) (pe_tup (pa_cons (pv 3) (pa_cons (pv 4) pa_nil))) rfl)) pss_nil)))))))))
      (pss_one (ps_ret (pe_tup (pa_cons (pv 1) (pa_cons (pv 2) pa_nil))))))), ?_⟩
    intro m1 n1 m2 n2
    refine ⟨.ref m1, .ref m2, rfl, ?_⟩
    have s1 := (same_new (o := .dK []) n1).trans (same_new (o := .dK []) n2)
    have e1 : upd (upd H m1 (.dK [])) m2 (.dK []) m1 = some (.dK []) := same_new n2 _ _ upd_same
    have e2 : upd (upd H m1 (.dK [])) m2 (.dK []) m2 = some (.dK []) := upd_same
    have f1 : H m1 = none := n1
    have f2 : H m2 = none := (same_new n1).free n2
    have m12 : m1 ≠ m2 := fun z => by rw [← z, upd_same] at n2; cases n2
    generalize upd (upd H m1 (.dK [])) m2 (.dK []) = H0 at s1 e1 e2
    clear n1 n2
    obtain ⟨a, ks, rfl, rd, dk⟩ := past_at hd
    refine ⟨a, ks, rd_same s1 rd, fun od un HL L => ⟨.ref a, rfl, a, od, rfl, .inl ⟨ks, L.frz, ?_⟩⟩⟩
    have a1 : a ≠ m1 := fun z => by rcases rd with rd | ⟨_, rd⟩ <;> rw [z, f1] at rd <;> cases rd
    have a2 : a ≠ m2 := fun z => by rcases rd with rd | ⟨_, rd⟩ <;> rw [z, f2] at rd <;> cases rd
    have dkL := DaK.le L.le _ (DaK.same s1 _ dk)
    have e1L : HL m1 = some (.dK []) := by rw [L.off m1 a1.symm]; exact e1
    have e2L : HL m2 = some (.dK []) := by rw [L.off m2 a2.symm]; exact e2
    have nd := g.nd
    have line : 50000 < sizeLine := by decide
    refine for_it walk_keys (fun i σ' H' => (∃ y3 y4 y5, σ' = [some (.ref a), some (.ref m1), some (.ref m2), y3, y4, y5]) ∧ Off2 m1 m2 HL H' ∧ W2 K m1 m2 H' (partsP "tell" (rowsOf p) ((p.map (·.1)).take i)) (partsP "hear" (rowsOf p) ((p.map (·.1)).take i)))
      ⟨⟨none, none, none, rfl⟩, fun _ _ _ _ z => z, ⟨[], [], e1L, .nil, .refl _⟩, [], [], e2L, .nil, .refl _⟩ (fun i σ' H' _ pv => pv.2.1 _ _ a1 a2 L.frz) ?_ ?_
    · rintro i x σ' H1 H1' hi ⟨⟨y3, y4, y5, rfl⟩, off, W⟩ ⟨rfl, k, v', hk, rfl⟩
      obtain ⟨z, hz, rfl, daz⟩ := past_ix dkL i k v' hk
      have mz := List.mem_of_getElem? hz
      have ez : (p.map (·.1))[i]? = some z.1 := by rw [List.getElem?_map, hz]; rfl
      obtain ⟨vv, hv, da'⟩ := past_look dkL z.2 (look_of nd mz)
      obtain ⟨b, xs, rfl, sl, dl⟩ := row_at da'
      have rz := rowsOf_mem nd mz
      have lx : xs.length = z.2.length := by rw [dl.len, List.length_map]
      have lz : z.2.length ≤ 4000 := Nat.le_trans (mem_le_sum (fun q : Str × List Deed => q.2.length) p z mz) few
      have dg : ∀ {H' : Hp}, Off2 m1 m2 HL H' → DGet H' a (.str z.1) (some (.ref b)) := fun o => .inl ⟨ks, .inr z.1, .inr ⟨od, o _ _ a1 a2 L.frz⟩, rfl, hv.symm⟩
      refine ⟨.ref a, rfl, .str z.1, rfl, a, .ref b, rfl, dg off, b, rfl, ⟨_, sql_off2 off e1L e2L sl⟩, fun M nM => ?_⟩
      refine lc_fm (walk_list (K := K) (xs := xs)) z.2 (fun d => if d = .keep then some d else none) (fun _ _ _ => True) nM lx (by omega) (fun H' sm => sql_off2 (off.same sm) e1L e2L sl) (fun _ _ _ _ _ _ => trivial) ?_ ?_
      · rintro j d y H3 H4 hd' sm - ⟨rfl, hx⟩ KK NN kk nn
        obtain ⟨d', t, h1, rfl, st⟩ := rows_at dl hx
        rw [hd'] at h1
        cases h1
        have st3 := sqt_off2 (off.same sm) e1L e2L st
        refine ⟨rfl, .ref t, rfl, by show 1 ≤ sizeLine; decide, fun tk nk => ⟨deedD d, deedD .keep, dp_deed (sqt_same (same_new nk) st3), dp_deed (d := .keep) (.inl (.inl upd_same)), sh_deed fun l k e => ?_, sh_deed fun l k e => (nomatch e), _, rfl, ?_⟩⟩
        · rw [e] at hd'
          have gd := g.deeds z mz _ (List.mem_of_getElem? hd')
          exact strOk_name gd.2.1
        · rw [show (deedD d).eqv (deedD .keep) = decide (d = .keep) from eqv_keep d]
          by_cases c : d = .keep
          · rw [decide_eq_true c]
            exact iteT ⟨.ref t, rfl, kk _ _ _ (if_pos c) (same_new nk) trivial⟩
          · rw [decide_eq_false c]
            exact iteF (nn _ (if_neg c) (same_new nk))
      intro H3 zs sm eM pr
      have le := pr.length
      rw [keeps_len] at le
      have off3 := off.same sm
      have W3 := W.same sm
      clear off W sm pr nM
      refine ⟨M, _, rfl, .inl (.inl (.inl eM)), ?_⟩
      rw [← le]
      refine ⟨.ref a, rfl, .str z.1, rfl, a, .ref b, rfl, dg off3, 1, rfl, -1, rfl, rfl, b, xs, rfl, sql_off2 off3 e1L e2L sl, fun rv nrv => ⟨rv, rfl, ⟨_, .inl (.inl upd_same)⟩, ?_⟩⟩
      have erv : upd H3 rv (.lst xs.reverse) rv = some (.lst xs.reverse) := upd_same
      have off4 := off3.same (same_new (o := .lst xs.reverse) nrv)
      have W4 := W3.same (same_new (o := .lst xs.reverse) nrv)
      have rv1 : rv ≠ m1 := fun y => by obtain ⟨k, _, e, _⟩ := W3.ex1; rw [y, e] at nrv; cases nrv
      have rv2 : rv ≠ m2 := fun y => by obtain ⟨k, _, e, _⟩ := W3.ex2; rw [y, e] at nrv; cases nrv
      generalize upd H3 rv (.lst xs.reverse) = H4 at erv off4 W4
      clear off3 W3 nrv eM
      refine for_it (walk_list (K := K) (xs := xs.reverse)) (fun j σ' H' => (∃ y5, σ' = [some (.ref a), some (.ref m1), some (.ref m2), some (.str z.1), some (.int (keepsR (z.2.take (z.2.length - j)) : Nat)), y5]) ∧ Off2 m1 m2 HL H' ∧ H' rv = some (.lst xs.reverse) ∧
        W2 K m1 m2 H' (partsP "tell" (rowsOf p) ((p.map (·.1)).take i) ++ tailP "tell" (rowsOf p) z.1 (z.2.length - j)) (partsP "hear" (rowsOf p) ((p.map (·.1)).take i) ++ tailP "hear" (rowsOf p) z.1 (z.2.length - j))) ?_ (fun j σ' H' _ pv => .inl (.inl pv.2.2.1)) ?_ ?_
      · have tl : ∀ w, tailP w (rowsOf p) z.1 (z.2.length - 0) = [] := fun w => by
          unfold tailP
          rw [rz, Nat.sub_zero, List.drop_length]
          rfl
        refine ⟨⟨y5, ?_⟩, off4, erv, ?_⟩
        · rw [Nat.sub_zero, List.take_length]
          rfl
        · rw [tl, tl, List.append_nil, List.append_nil]
          exact W4
      · rintro j x σ' H5 H6 hj ⟨⟨y5', rfl⟩, off5, erv5, W5⟩ ⟨rfl, hx⟩
        rw [List.length_reverse, lx] at hj
        obtain ⟨c, hc⟩ : ∃ c, z.2.length - j = c + 1 := ⟨z.2.length - j - 1, by omega⟩
        have hc' : z.2.length - (j + 1) = c := by omega
        rw [List.getElem?_reverse (by rw [lx]; exact hj), show xs.length - 1 - j = c by omega] at hx
        obtain ⟨d, t, hdz, rfl, st⟩ := rows_at dl hx
        have hR : (rowsOf p z.1)[c]? = some d := by rw [rz]; exact hdz
        have st5 := sqt_off2 off5 e1L e2L st
        have kp : keepsR (z.2.take (c + 1)) = keepsR (z.2.take c) + (if d = .keep then 1 else 0) := by rw [take_snoc hdz, keeps_snoc]
        have stp : ∀ w, tailP w (rowsOf p) z.1 c = ((oneP w (keepsR (z.2.take c)) d).map fun x => (x.1, z.1, x.2)) ++ tailP w (rowsOf p) z.1 (c + 1) := fun w => by
          have := tailP_step w (rowsOf p) z.1 hR
          rw [rz] at this
          exact this
        rw [hc] at W5
        rw [hc, hc']
        have none1 : ∀ w, oneP w (keepsR (z.2.take c)) d = [] → tailP w (rowsOf p) z.1 (c + 1) = tailP w (rowsOf p) z.1 c := fun w h => by
          rw [stp w, h]
          rfl
        cases d with
        | keep =>
          have kp : keepsR (z.2.take (c + 1)) = keepsR (z.2.take c) + 1 := kp
          rw [none1 "tell" rfl, none1 "hear" rfl] at W5
          have ek : ((keepsR (z.2.take (c + 1)) : Nat) : Int) - 1 = ((keepsR (z.2.take c) : Nat) : Int) := by omega
          refine ⟨.ref t, rfl, t, _, 0, _, rfl, rfl, st5, atI_nat (j := 0) rfl, rfl, _, rfl, iteT ⟨.int (keepsR (z.2.take (c + 1)) : Nat), rfl, _, 1, rfl, rfl, ?_⟩⟩
          refine ⟨.ref t, rfl, t, _, 0, _, rfl, rfl, st5, atI_nat (j := 0) rfl, rfl, _, rfl, iteF ⟨.ref t, rfl, t, _, 0, _, rfl, rfl, st5, atI_nat (j := 0) rfl, rfl, _, rfl, iteF ⟨⟨some (.ref t), ?_⟩, off5, erv5, W5⟩⟩⟩
          rw [← ek]
          rfl
        | tell l h =>
          have kp : keepsR (z.2.take (c + 1)) = keepsR (z.2.take c) := kp
          rw [none1 "hear" (show (if ("hear" : Str) = "tell" then [(l, keepsR (z.2.take c))] else []) = [] from if_neg (by decide +kernel))] at W5
          obtain ⟨k1, L1, q1, pr1, pm1⟩ := W5.ex1
          obtain ⟨k2, L2, q2, pr2, pm2⟩ := W5.ex2
          obtain ⟨rest, cut⟩ := tailP_cut "tell" (rowsOf p) ez c
          have one : oneP "tell" (keepsR (z.2.take c)) (.tell l h) = [(l, keepsR (z.2.take c))] := show (if ("tell" : Str) = "tell" then [(l, keepsR (z.2.take c))] else []) = _ from if_pos rfl
          have stt := stp "tell"
          rw [one] at stt
          have len1 : k1.length ≤ 4000 := by
            have h1 := pr1.length
            have h2 := pm1.length_eq
            have h3 := cut.length_eq
            have h4 := partsP_len "tell" (rowsOf p) (p.map (·.1))
            rw [total_past nd] at h4
            rw [stt] at h3
            simp only [List.length_append, List.length_map, List.length_cons, List.length_nil] at h2 h3
            omega
          refine ⟨.ref t, rfl, t, _, 0, _, rfl, rfl, st5, atI_nat (j := 0) rfl, rfl, _, rfl, iteF ⟨.ref t, rfl, t, _, 0, _, rfl, rfl, st5, atI_nat (j := 0) rfl, rfl, _, rfl, iteT ?_⟩⟩
          refine ⟨.str z.1, rfl, .int (keepsR (z.2.take (c + 1)) : Nat), rfl, by show 2 ≤ sizeLine; decide, fun t2 n2 => ?_⟩
          have s6 := same_new (o := .tup [.str z.1, .int (keepsR (z.2.take (c + 1)) : Nat)]) n2
          have et : upd H6 t2 (.tup [.str z.1, .int (keepsR (z.2.take (c + 1)) : Nat)]) t2 = some (.tup [.str z.1, .int (keepsR (z.2.take (c + 1)) : Nat)]) := upd_same
          generalize upd H6 t2 (.tup [.str z.1, .int (keepsR (z.2.take (c + 1)) : Nat)]) = H7 at s6 et
          rw [kp] at et
          obtain ⟨pk, pp, pq⟩ := PR.put (X := partsP "tell" (rowsOf p) ((p.map (·.1)).take i) ++ tailP "tell" (rowsOf p) z.1 (c + 1)) (PR.same s6 pr1) (parts_nodup g (.inl rfl) (.refl _)) (rest := rest) (by
            refine cut.trans (List.Perm.append_right _ ?_)
            rw [stt]
            exact List.perm_middle) pm1 et
          refine ⟨.ref m1, rfl, .ref t, rfl, t, _, 1, .int l, rfl, rfl, sqt_same s6 st5, atI_nat (j := 1) rfl, m1, _, rfl, DPut.k (k := Sum.inl l) (s6 _ _ q1) (by omega), ?_⟩
          rw [pk]
          have o8 : Off m1 H7 (upd H7 m1 (.dK (k1 ++ [(.inl l, .ref t2)]))) := off_upd
          have st8 := sqt_off (s6 _ _ q1) o8 (sqt_same s6 st5)
          refine ⟨.ref t, rfl, t, _, 0, _, rfl, rfl, st8, atI_nat (j := 0) rfl, rfl, _, rfl, iteF ⟨⟨some (.ref t), by rw [kp]; rfl⟩, ?_, ?_, ?_, ?_⟩⟩
          · exact fun b u y1 y2 y3 => o8 b u y1 (s6 _ _ (off5 b u y1 y2 y3))
          · exact o8 _ _ rv1 (s6 _ _ erv5)
          · refine ⟨_, _, upd_same, PR.off (s6 _ _ q1) o8 pp, pq.trans ?_⟩
            rw [stt]
            exact List.perm_middle.symm
          · exact ⟨k2, L2, o8 _ _ m12.symm (s6 _ _ q2), PR.off (s6 _ _ q1) o8 (PR.same s6 pr2), pm2⟩
        | hear l =>
          have kp : keepsR (z.2.take (c + 1)) = keepsR (z.2.take c) := kp
          rw [none1 "tell" (show (if ("tell" : Str) = "hear" then [(l, keepsR (z.2.take c))] else []) = [] from if_neg (by decide +kernel))] at W5
          obtain ⟨k1, L1, q1, pr1, pm1⟩ := W5.ex1
          obtain ⟨k2, L2, q2, pr2, pm2⟩ := W5.ex2
          obtain ⟨rest, cut⟩ := tailP_cut "hear" (rowsOf p) ez c
          have one : oneP "hear" (keepsR (z.2.take c)) (.hear l) = [(l, keepsR (z.2.take c))] := show (if ("hear" : Str) = "hear" then [(l, keepsR (z.2.take c))] else []) = _ from if_pos rfl
          have stt := stp "hear"
          rw [one] at stt
          have len2 : k2.length ≤ 4000 := by
            have h1 := pr2.length
            have h2 := pm2.length_eq
            have h3 := cut.length_eq
            have h4 := partsP_len "hear" (rowsOf p) (p.map (·.1))
            rw [total_past nd] at h4
            rw [stt] at h3
            simp only [List.length_append, List.length_map, List.length_cons, List.length_nil] at h2 h3
            omega
          refine ⟨.ref t, rfl, t, _, 0, _, rfl, rfl, st5, atI_nat (j := 0) rfl, rfl, _, rfl, iteF ⟨.ref t, rfl, t, _, 0, _, rfl, rfl, st5, atI_nat (j := 0) rfl, rfl, _, rfl, iteF ⟨.ref t, rfl, t, _, 0, _, rfl, rfl, st5, atI_nat (j := 0) rfl, rfl, _, rfl, iteT ?_⟩⟩⟩
          refine ⟨.str z.1, rfl, .int (keepsR (z.2.take (c + 1)) : Nat), rfl, by show 2 ≤ sizeLine; decide, fun t2 n2 => ?_⟩
          have s6 := same_new (o := .tup [.str z.1, .int (keepsR (z.2.take (c + 1)) : Nat)]) n2
          have et : upd H6 t2 (.tup [.str z.1, .int (keepsR (z.2.take (c + 1)) : Nat)]) t2 = some (.tup [.str z.1, .int (keepsR (z.2.take (c + 1)) : Nat)]) := upd_same
          generalize upd H6 t2 (.tup [.str z.1, .int (keepsR (z.2.take (c + 1)) : Nat)]) = H7 at s6 et
          rw [kp] at et
          obtain ⟨pk, pp, pq⟩ := PR.put (X := partsP "hear" (rowsOf p) ((p.map (·.1)).take i) ++ tailP "hear" (rowsOf p) z.1 (c + 1)) (PR.same s6 pr2) (parts_nodup g (.inr rfl) (.refl _)) (rest := rest) (by
            refine cut.trans (List.Perm.append_right _ ?_)
            rw [stt]
            exact List.perm_middle) pm2 et
          refine ⟨.ref m2, rfl, .ref t, rfl, t, _, 1, .int l, rfl, rfl, sqt_same s6 st5, atI_nat (j := 1) rfl, m2, _, rfl, DPut.k (k := Sum.inl l) (s6 _ _ q2) (by omega), ?_⟩
          rw [pk]
          have o8 : Off m2 H7 (upd H7 m2 (.dK (k2 ++ [(.inl l, .ref t2)]))) := off_upd
          refine ⟨⟨some (.ref t), by rw [kp]; rfl⟩, ?_, ?_, ?_, ?_⟩
          · exact fun b u y1 y2 y3 => o8 b u y2 (s6 _ _ (off5 b u y1 y2 y3))
          · exact o8 _ _ rv2 (s6 _ _ erv5)
          · exact ⟨k1, L1, o8 _ _ m12 (s6 _ _ q1), PR.off (s6 _ _ q2) o8 (PR.same s6 pr1), pm1⟩
          · refine ⟨_, _, upd_same, PR.off (s6 _ _ q2) o8 pp, pq.trans ?_⟩
            rw [stt]
            exact List.perm_middle.symm
      · rintro σ' H5 ⟨⟨y5', rfl⟩, off5, erv5, W5⟩
        refine ⟨⟨_, _, _, rfl⟩, off5, ?_⟩
        have hd : ∀ w, partsP w (rowsOf p) ((p.map (·.1)).take i) ++ tailP w (rowsOf p) z.1 (z.2.length - xs.reverse.length) = partsP w (rowsOf p) ((p.map (·.1)).take (i + 1)) := fun w => by
          rw [take_snoc ez, List.length_reverse, lx, Nat.sub_self]
          unfold partsP
          rw [List.flatMap_append, List.flatMap_singleton]
          rfl
        rw [hd, hd] at W5
        exact W5
    · rintro σ' H5 ⟨⟨y3, y4, y5, rfl⟩, off, W⟩
      have fz := off _ _ a1 a2 L.frz
      refine ⟨fz, ?_⟩
      have tn : (p.map (·.1)).take ks.length = p.map (·.1) := by
        rw [past_len dk, show p.length = (p.map (·.1)).length from (List.length_map ..).symm]
        exact List.take_length
      rw [tn] at W
      obtain ⟨k1, L1, q1, pr1, pm1⟩ := W.ex1
      obtain ⟨k2, L2, q2, pr2, pm2⟩ := W.ex2
      have sU : Same H (un H5) := fun b u h => by
        have b1 : b ≠ m1 := fun y => by rw [y, f1] at h; cases h
        have b2 : b ≠ m2 := fun y => by rw [y, f2] at h; cases h
        by_cases y : b = a
        · rw [y, L.unAt H5 fz, ← y]
          exact s1 _ _ h
        · rw [L.unOff H5 b y]
          refine off b u b1 b2 ?_
          rw [L.off b y]
          exact s1 _ _ h
      have u1 : un H5 m1 = some (.dK k1) := by rw [L.unOff H5 m1 a1.symm]; exact q1
      have u2 : un H5 m2 = some (.dK k2) := by rw [L.unOff H5 m2 a2.symm]; exact q2
      have pu : ∀ {k : List (Key × V)} {l : List (Int × Str × Nat)}, Paired (PR K H5) k l → Paired (PR K (un H5)) k l := fun h => Paired.mapP h fun kv x ⟨y1, t, y2, y3⟩ => ⟨y1, t, y2, by rw [L.unOff H5 t fun z => by rw [z, fz] at y3; cases y3]; exact y3⟩
      have w1 := pu pr1
      have w2 := pu pr2
      generalize un H5 = H6 at sU u1 u2 w1 w2
      refine ⟨.ref m1, rfl, .ref m2, rfl, by show 2 ≤ sizeLine; decide, fun t nt => ?_⟩
      have sT := same_new (o := .tup [.ref m1, .ref m2]) nt
      exact q _ t m1 m2 k1 k2 L1 L2 (sU.trans sT) (sU.free nt) upd_same f1 f2 m12 (sT _ _ u1) (sT _ _ u2) (PR.same sT w1) (PR.same sT w2) pm1 pm2
end
end L2.Fb.Law

namespace L2.Fb.Law
open PySem PySem.Spec
open PyProof.Rows
open L2.Fb.T
section
variable {P : Program} {w : World} {K : PySem.W.Frag} {mg : Str → Option Value} {base : Heap}
/-! ### promises over trees: the prelude -/
def potD (a b c : Int) : PyData := .list [.int a, .int b, .int c]
def PotN (a b c : Int) (n : Nat) : Prop := 0 ≤ a ∧ 0 ≤ b ∧ b < 2 ^ 200 ∧ 0 ≤ c ∧ c + n ≤ 1000000
theorem PotN.less {a b c : Int} {n m : Nat} (h : PotN a b c n) (l : m ≤ n) : PotN a b c m := ⟨h.1, h.2.1, h.2.2.1, h.2.2.2.1, by have := h.2.2.2.2; omega⟩
def c_dip : C3 := fun ds k => ∃ (a b c many : Int) (n : Nat), ds = [potD a b c, .int many] ∧ PotN a b c (n + 1) ∧ 0 < many ∧ many < 1073741824 ∧ ∀ a' b' c' r, PotN a' b' c' n → 0 ≤ r → r < many → k (.int r) .shr [potD a' b' c', .int many]
theorem dip3 (C : Cal P w K mg base CX0 1 "_law_dip" s__law_dip P__law_dip (sp_dip K)) : Cal P w K mg base CX0 1 "_law_dip" s__law_dip P__law_dip (sp3 K [true, false] c_dip) := Cal.imp C fun vs H Q E h => by
  obtain ⟨G0, ds, lv, ld, r, rd, kk, ⟨a, b, c, many, n, rfl, pn, m0, m1, hk⟩, fin⟩ := h
  obtain ⟨v0, v1, rfl⟩ := two lv
  obtain ⟨p, xs, rfl, hp, dl⟩ := R.inL (ios := [false]) (d := [.int a, .int b, .int c]) (ds := [.int many]) (v0 := v0) (vs := [some v1]) r rfl
  have e1 : v1 = .int many := by
    have := rd 1 (.int many) v1 rfl rfl rfl
    cases this
    rfl
  subst e1
  have ex : xs = [.int a, .int b, .int c] := by
    cases dl with
    | cons x y => cases y with
      | cons y z => cases z with
        | cons z u => cases u; cases x; cases y; cases z; rfl
  subst ex
  refine ⟨p, many, n, rfl, m0, m1, ⟨a, b, c, hp, pn.1, pn.2.1, pn.2.2.1, pn.2.2.2.1, pn.2.2.2.2⟩, fun H' r' off ⟨a', b', c', hp', q1, q2, q3, q4, q5⟩ r0 r1 => ?_⟩
  refine fin (.int r') .shr [potD a' b' c', .int many] rfl (.inl rfl) (hk a' b' c' r' ⟨q1, q2, q3, q4, q5⟩ r0 r1) (.int r') H' ?_
  exact R.offL (ios := [false]) (d := [.int a, .int b, .int c]) (d' := [.int a', .int b', .int c']) (ds := [.int many]) (vs := [some (.int many)]) (xs' := [.int a', .int b', .int c']) r hp rfl rfl (by simp) off hp' (.cons (.int _) (.cons (.int _) (.cons (.int _) .nil))) rfl rfl (.int _)
theorem past1 {G0 : Hp} {vs : List V} {d : PyData} (lv : vs.length = 1) (rd : ∀ (k : Nat) e v, ([false] : List Bool)[k]? = some false → [d][k]? = some e → vs[k]? = some v → Dt K G0 v e) : ∃ v, vs = [v] ∧ Dt K G0 v d := by
  obtain ⟨v, rfl⟩ := one lv
  exact ⟨v, rfl, rd 0 d v rfl rfl rfl⟩
theorem plain_deed (d : Deed) : plain (deedD d) = true := by cases d <;> rfl
theorem plain_row : ∀ r : List Deed, plainL (r.map deedD) = true
  | [] => rfl
  | d :: r => by
    show (plain (deedD d) && plainL (r.map deedD)) = true
    rw [plain_deed, plain_row r]
    rfl
theorem plain_kv : ∀ p : Past, plainK (pastKv p) = true
  | [] => rfl
  | q :: p => by
    show (plain (rowD q.2) && plainK (pastKv p)) = true
    rw [plain_kv p, show plain (rowD q.2) = true from plain_row q.2]
    rfl
theorem plain_past (p : Past) : plain (pastD p) = true := plain_kv p
theorem base_le {G0 H : Hp} {S : S3} {vs : List (Option V)} {N : Nat} (r : R K N G0 H S vs) : Same G0 H := let ⟨F, r⟩ := r; fun a u e => (gof_some (r.base _ _ e)).2
def Good (p : Past) : Prop := GoodP p ∧ (p.map fun q => q.2.length).sum ≤ 4000
def presD (p : Past) (ys : List Str) : PyData := .dict (ys.map fun h => (.str h, .int ((keepsR (rowsOf p h) + 1 : Nat) : Int)))
def c_presents : C3 := fun ds k => ∃ p, ds = [pastD p] ∧ Good p ∧ ∀ ys, ys.Perm (p.map (·.1)) → PyProof.Rows.sortedS ys = true → k (presD p ys) .own [pastD p]
theorem own_presD {G H : Hp} {m : Addr} {f : Str → Int} : ∀ (ys : List Str), OwnK K G H (ys.map fun h => ((.inr h, V.int (f h)) : Key × V)) (ys.map fun h => ((.str h, .int (f h)) : PyData × PyData)) []
  | [] => .nil
  | y :: ys => .cons (k := .inr y) (F := []) (F' := []) (.int _) (own_presD (m := m) ys)
theorem presents3 (C : Cal P w K mg base CX0 8 "presents" s_presents P_presents (sp_presents K)) : Cal P w K mg base CX0 8 "presents" s_presents P_presents (sp3 K [false] c_presents) := Cal.imp C fun vs H Q E h => by
  obtain ⟨G0, ds, lv, ld, r, rd, kk, ⟨p, rfl, ⟨g, few⟩, hk⟩, fin⟩ := h
  obtain ⟨v, rfl, dv⟩ := past1 lv rd
  refine ⟨v, p, rfl, (Dt.le (same_lep (base_le r)) _ dv).da _ (plain_past p), g, few, fun ys pm so H' m s nm hm => ?_⟩
  refine fin (presD p ys) .own [pastD p] rfl (.inr rfl) (hk ys pm so) (.ref m) H' ?_
  exact R.rdO (L := [m]) r rfl rfl (by simp) s (by simp) (fun a ma => by rw [List.mem_singleton.mp ma]; exact nm) fun G hG => .dct hm (own_presD (m := m) ys)
def c_lying : C3 := fun ds k => ∃ p, ds = [pastD p] ∧ Good p ∧ ∀ ns : List Int, ns.Perm (lyingL p) → ns.Pairwise (· ≤ ·) → k (.list (ns.map .int)) .own [pastD p]
theorem own_ints {G H : Hp} : ∀ (ns : List Int), OwnL K G H (ns.map V.int) (ns.map PyData.int) []
  | [] => .nil
  | n :: ns => .cons (F := []) (F' := []) (.int n) (own_ints ns)
theorem lying3 (C : Cal P w K mg base CX0 8 "letters_lying" s_letters_lying P_letters_lying (sp_letters_lying K)) : Cal P w K mg base CX0 8 "letters_lying" s_letters_lying P_letters_lying (sp3 K [false] c_lying) := Cal.imp C fun vs H Q E h => by
  obtain ⟨G0, ds, lv, ld, r, rd, kk, ⟨p, rfl, ⟨g, few⟩, hk⟩, fin⟩ := h
  obtain ⟨v, rfl, dv⟩ := past1 lv rd
  refine ⟨v, p, rfl, (Dt.le (same_lep (base_le r)) _ dv).da _ (plain_past p), g, few, fun ns H' m pm pw s nm hm => ?_⟩
  refine fin (.list (ns.map .int)) .own [pastD p] rfl (.inr rfl) (hk ns pm pw) (.ref m) H' ?_
  exact R.rdO (L := [m]) r rfl rfl (by simp) s (by simp) (fun a ma => by rw [List.mem_singleton.mp ma]; exact nm) fun G hG => .lst hm (own_ints ns)
def partD (h : Str) (n : Nat) : PyData := .tuple [.str h, .int (n : Nat)]
def c_told : C3 := fun ds k => ∃ p l, ds = [pastD p, .int l] ∧ Good p ∧ l ∈ toldP p ∧ ∀ ys h n, ys.Perm (p.map (·.1)) → PyProof.Rows.sortedS ys = true → (l, h, n) ∈ partsP "tell" (rowsOf p) ys → k (partD h n) .shr ds
theorem told3 (C : Cal P w K mg base CX0 8 "told_in" s_told_in P_told_in (sp_tale K)) : Cal P w K mg base CX0 8 "told_in" s_told_in P_told_in (sp3 K [false, false] c_told) := Cal.imp C fun vs H Q E h => by
  obtain ⟨G0, ds, lv, ld, r, rd, kk, ⟨p, l, rfl, ⟨g, few⟩, ml, hk⟩, fin⟩ := h
  obtain ⟨v, v1, rfl⟩ := two lv
  have dv := rd 0 (pastD p) v rfl rfl rfl
  have e1 : v1 = .int l := by
    have := rd 1 (.int l) v1 rfl rfl rfl
    cases this
    rfl
  subst e1
  refine ⟨v, p, l, rfl, (Dt.le (same_lep (base_le r)) _ dv).da _ (plain_past p), g, few, ml, fun ys h n H' t pm so mx s ht => ?_⟩
  refine fin (partD h n) .shr _ rfl (.inl rfl) (hk ys h n pm so mx) (.ref t) H' ?_
  exact R.rdF r rfl rfl (by simp) s rfl (.tup ht (.cons (.str _) (.cons (.int _) .nil)))
def c_heard : C3 := fun ds k => ∃ p l, ds = [pastD p, .int l] ∧ Good p ∧ l ∈ toldP p ∧ (∀ ys h n, ys.Perm (p.map (·.1)) → PyProof.Rows.sortedS ys = true → (l, h, n) ∈ partsP "hear" (rowsOf p) ys → k (partD h n) .shr ds) ∧ (l ∉ (hearsP p).map (·.1) → k .none .shr ds)
theorem heard3 (C : Cal P w K mg base CX0 8 "heard_in" s_heard_in P_heard_in (sp_heard_in K)) : Cal P w K mg base CX0 8 "heard_in" s_heard_in P_heard_in (sp3 K [false, false] c_heard) := Cal.imp C fun vs H Q E h => by
  obtain ⟨G0, ds, lv, ld, r, rd, kk, ⟨p, l, rfl, ⟨g, few⟩, ml, hk, hk2⟩, fin⟩ := h
  obtain ⟨v, v1, rfl⟩ := two lv
  have dv := rd 0 (pastD p) v rfl rfl rfl
  have e1 : v1 = .int l := by
    have := rd 1 (.int l) v1 rfl rfl rfl
    cases this
    rfl
  subst e1
  refine ⟨v, p, l, rfl, (Dt.le (same_lep (base_le r)) _ dv).da _ (plain_past p), g, few, ml, fun ys h n H' t pm so mx s ht => ?_, fun no H' s => ?_⟩
  · refine fin (partD h n) .shr _ rfl (.inl rfl) (hk ys h n pm so mx) (.ref t) H' ?_
    exact R.rdF r rfl rfl (by simp) s rfl (.tup ht (.cons (.str _) (.cons (.int _) .nil)))
  · refine fin .none .shr _ rfl (.inl rfl) (hk2 no) .non H' ?_
    exact R.rdF r rfl rfl (by simp) s rfl .non
/-- a dict of letters -/
def prD (l : List (Int × Str × Nat)) : List (PyData × PyData) := l.map fun x => (.int x.1, partD x.2.1 x.2.2)
theorem own_prD {G H : Hp} (hG : ∀ a xs, H a = some (.tup xs) → G a = some (.tup xs)) : ∀ {ks : List (Key × V)} {l : List (Int × Str × Nat)}, Paired (PR K H) ks l → OwnK K G H ks (prD l) []
  | _, _, .nil => .nil
  | (k, v) :: _, x :: _, .cons a b => by
    obtain ⟨a1, t, a2, a3⟩ := a
    have a1 : k = .inl x.1 := a1
    have a2 : v = .ref t := a2
    subst a1 a2
    exact .cons (k := .inl x.1) (F := []) (F' := []) (.tup (F := []) (hG _ _ a3) (.cons (F := []) (F' := []) (.str _) (.cons (F := []) (F' := []) (.int _) .nil))) (own_prD hG b)
def c_where : C3 := fun ds k => ∃ p, ds = [pastD p] ∧ Good p ∧ ∀ l1 l2, l1.Perm (partsP "tell" (rowsOf p) (p.map (·.1))) → l2.Perm (partsP "hear" (rowsOf p) (p.map (·.1))) → k (.tuple [.dict (prD l1), .dict (prD l2)]) .own ds
theorem where3 (C : Cal P w K mg base CX0 1 "_law_where" s__law_where P__law_where (sp_where K)) : Cal P w K mg base CX0 1 "_law_where" s__law_where P__law_where (sp3 K [false] c_where) := Cal.imp C fun vs H Q E h => by
  obtain ⟨G0, ds, lv, ld, r, rd, kk, ⟨p, rfl, ⟨g, few⟩, hk⟩, fin⟩ := h
  obtain ⟨v, rfl, dv⟩ := past1 lv rd
  refine ⟨v, p, rfl, (Dt.le (same_lep (base_le r)) _ dv).da _ (plain_past p), g, few, fun H' t m1 m2 ks1 ks2 l1 l2 s nt ht n1 n2 m12 h1 h2 p1 p2 pm1 pm2 => ?_⟩
  refine fin (.tuple [.dict (prD l1), .dict (prD l2)]) .own _ rfl (.inr rfl) (hk l1 l2 pm1 pm2) (.ref t) H' ?_
  refine R.rdO (L := [m1] ++ ([m2] ++ [])) r rfl rfl (by simp) s (by simpa using m12) (fun a ma => ?_) fun G hG => .tup (hG _ _ ht) (.cons (.dct h1 (own_prD hG p1)) (.cons (.dct h2 (own_prD hG p2)) .nil))
  simp at ma
  rcases ma with rfl | rfl
  · exact n1
  · exact n2
end
end L2.Fb.Law

namespace L2.Fb.Law
open PySem PySem.Spec
open PyProof.Rows
open L2.Fb.T
abbrev s__law_some : Stmt := topS 38
abbrev N__law_some : List Str := ["pot", "letters", "left", "turn"]
abbrev P__law_some : List Str := ["pot", "letters"]
theorem sc__law_some : FnScope N__law_some P__law_some (defScope s__law_some) := ⟨rfl, rfl, rfl, by decide +kernel, rfl, by decide +kernel, by decide +kernel⟩
section
variable {P : Program} {w : World} {K : PySem.W.Frag} {mg : Str → Option Value} {base : Heap}
def intsD (ls : List Int) : PyData := .list (ls.map .int)
def c_some : C3 := fun ds k => ∃ (a b c : Int) (n : Nat) (ls : List Int), ds = [potD a b c, intsD ls] ∧ PotN a b c (n + 12) ∧ ls.length ≤ 4000 ∧ ∀ a' b' c' (so : List Int), PotN a' b' c' n → (∀ l ∈ so, l ∈ ls) → so.length ≤ 12 → k (intsD so) .own [potD a' b' c', intsD ls]
theorem ok_some (D : Dfn K mg "_law_some" s__law_some P__law_some) (T : TxtL mg) (C__law_dip : Cal P w K mg base CX0 1 "_law_dip" s__law_dip P__law_dip (sp3 K [true, false] c_dip)) : Cal P w K mg base CX0 2 "_law_some" s__law_some P__law_some (sp3 K [true, false] c_some) := D.cal fun f fd F => by
  refine ok3 F sc__law_some rfl (by decide) fun cdv A outer s H E hr => ?_
  have hu := hu_of hr
  refine ⟨_, _, (ss_cons (s_set (i := 2) sc__law_some.nd rfl (.inr rfl) (e_tyN (K := K) rfl (call_list_ofK (K := K) rfl) n_list (by rfl) T.list (by decide +kernel) (a_cons (e_var (pv 1) (show 1 < N__law_some.length by decide)) a_nil)))
      (ss_one (s_ret (e_lc (own := [("turn", 3)]) rfl sc__law_some.nd (i_rng1 (by rfl) T.range (a_cons (e_cbF (K := K) rfl (call_min2 rfl) f_min2 (by rfl) T.min (by decide +kernel) (a_cons e_int (a_cons (e_cbF (K := K) rfl (call_len_seqK (K := K) rfl) f_len (by rfl) T.len (by decide +kernel) (a_cons (e_var (pv 2) (show 2 < N__law_some.length by decide)) a_nil)) a_nil))) a_nil)) (blkOk_by (own := [("turn", 3)]) (N := N__law_some) (sc := defScope s__law_some) (by decide +kernel)) (fun _ _ _ _ _ => g_name (i := 3) sc__law_some.nd rfl (.inl rfl)) (fun _ _ _ _ _ => ⟨pts_nil, lift_yes⟩) (fun _ _ _ _ _ => (mk_pop (i := 2) (K := K) rfl (show 2 < N__law_some.length by decide) (a_cons (e_call2 (K := K) rfl C__law_dip (hr.mono (by decide)) rfl pass0 (a_at (pv 0) (show 0 < N__law_some.length by decide) (a_cons (e_cbF (K := K) rfl (call_len_seqK (K := K) rfl) f_len (by rfl) T.len (by decide +kernel) (a_cons (e_var (pv 2) (show 2 < N__law_some.length by decide)) a_nil)) a_nil))) a_nil) (fun h => (pe_bmK (K := K) rfl PySem.F.plainAttrs_list PySem.F.slot_list_pop PySem.F.type_list_pop mt_popAt (pv 2) h)))) (sh := s))))), fun ds kk _ h => ?_⟩
  obtain ⟨a, b, c, n, ls, rfl, pn, lz, k⟩ := h
  have ln : (ls.map PyData.int).length = ls.length := List.length_map ..
  refine ⟨flat_ints ls, ⟨?_, ?_⟩, rfl, ?_, ?_⟩
  · show -2 ^ 62 ≤ if ((ls.map PyData.int).length : Int) < 12 then ((ls.map PyData.int).length : Int) else 12
    split <;> omega
  · show (if ((ls.map PyData.int).length : Int) < 12 then ((ls.map PyData.int).length : Int) else 12) < 2 ^ 62
    split <;> omega
  · show (if ((ls.map PyData.int).length : Int) < 12 then ((ls.map PyData.int).length : Int) else 12).toNat ≤ 50000
    split <;> omega
  refine compF_by (fun r i acc S => ∃ (a b c : Int) (so lf : List Int) (x : Option Ent), S = [some (potD a b c, .own), some (intsD ls, .shr), some (intsD lf, .own), x] ∧ PotN a b c (n + r) ∧ (∀ l ∈ so, l ∈ ls) ∧ (∀ l ∈ lf, l ∈ ls) ∧ r ≤ lf.length ∧ lf.length ≤ 4000 ∧ so.length + r ≤ 12 ∧ acc = so.map .int) ?_ ?_ _ 0 [] _ ?_
  · rintro i acc S ⟨a, b, c, so, lf, x, rfl, pn, h1, h2, h3, h4, h5, rfl⟩
    exact ⟨rfl, rfl, k a b c so pn h1 (by omega)⟩
  · rintro C r i acc S hC ⟨a, b, c, so, lf, x, rfl, pn, h1, h2, h3, h4, h5, rfl⟩
    have lm : (lf.map PyData.int).length = lf.length := List.length_map ..
    refine ⟨trivial, ⟨_, rfl⟩, rfl, a, b, c, (lf.map PyData.int).length, n + r, rfl, ⟨pn.1, pn.2.1, pn.2.2.1, pn.2.2.2.1, by have := pn.2.2.2.2; omega⟩, by omega, by omega, fun a' b' c' j pn' j0 j1 => ?_⟩
    obtain ⟨j, rfl⟩ := Int.eq_ofNat_of_zero_le j0
    have hj : j < lf.length := by omega
    refine ⟨⟨by omega, by omega⟩, j, .int lf[j], seqIdx (by omega), by rw [List.getElem?_map, List.getElem?_eq_getElem hj]; rfl, ?_⟩
    refine ⟨.inl rfl, hC _ _ _ ⟨a', b', c', so ++ [lf[j]], lf.eraseIdx j, some (.int (0 + (i : Nat)), .shr), ?_, pn', ?_, ?_, ?_, ?_, ?_, ?_⟩⟩
    · rw [erase_ints]
      rfl
    · intro l m
      rcases List.mem_append.mp m with m | m
      · exact h1 l m
      · rw [List.mem_singleton.mp m]
        exact h2 _ (List.getElem_mem hj)
    · exact fun l m => h2 l (List.mem_of_mem_eraseIdx m)
    · rw [List.length_eraseIdx, if_pos hj]; omega
    · rw [List.length_eraseIdx, if_pos hj]; omega
    · simp; omega
    · simp
  · refine ⟨a, b, c, [], ls, none, rfl, ?_, fun _ m => (by cases m), fun _ m => m, ?_, lz, ?_, rfl⟩
    · refine pn.less ?_
      show n + (if ((ls.map PyData.int).length : Int) < 12 then ((ls.map PyData.int).length : Int) else 12).toNat ≤ n + 12
      split <;> omega
    · show (if ((ls.map PyData.int).length : Int) < 12 then ((ls.map PyData.int).length : Int) else 12).toNat ≤ ls.length
      split <;> omega
    · show 0 + (if ((ls.map PyData.int).length : Int) < 12 then ((ls.map PyData.int).length : Int) else 12).toNat ≤ 12
      split <;> omega
end
end L2.Fb.Law

namespace L2.Fb.Law
open PySem PySem.Spec
open PyProof.Rows
open L2.Fb.T
abbrev s__law_right : Stmt := topS 37
abbrev N__law_right : List Str := ["pot", "rows", "kept", "told", "heard", "due", "lying", "again", "found", "some", "letter", "hand"]
abbrev P__law_right : List Str := ["pot", "rows"]
theorem sc__law_right : FnScope N__law_right P__law_right (defScope s__law_right) := ⟨rfl, rfl, rfl, by decide +kernel, rfl, by decide +kernel, by decide +kernel⟩
section
variable {P : Program} {w : World} {K : PySem.W.Frag} {mg : Str → Option Value} {base : Heap}
def Small (p : Past) : Prop := (∀ q ∈ p, nameOk q.1 = true ∧ ∀ d ∈ q.2, LetterSmall d) ∧ p.length ≤ 40
def c_right : C3 := fun ds k => ∃ (a b c : Int) (n : Nat) (p : Past), ds = [potD a b c, pastD p] ∧ PotN a b c (n + 12) ∧ Good p ∧ Small p ∧ ∀ a' b' c', PotN a' b' c' n → k (.bool true) .shr [potD a' b' c', pastD p]
/-! ### what the reading asks -/
theorem isT_past (p : Past) : isT (pastKv p) = false := by cases p <;> rfl
theorem isT_pr (l : List (Int × Str × Nat)) : isT (prD l) = false := by cases l <;> rfl
theorem dlook_past (h : Str) : ∀ p : Past, dlook (pastKv p) (.str h) = (look p h).map rowD
  | [] => rfl
  | q :: p => by
    show dlook ((.str q.1, rowD q.2) :: pastKv p) (.str h) = _
    rw [dlook_cons, dlook_past h p]
    by_cases z : q.1 = h
    · have e1 : look (q :: p) h = some q.2 := by
        unfold look
        rw [List.find?_cons_of_pos (by simp [z])]
        rfl
      rw [e1]
      simp [keq, z]
    · have e1 : look (q :: p) h = look p h := by
        unfold look
        rw [List.find?_cons_of_neg (by simp [z])]
      rw [e1]
      simp [keq, z]
theorem dlook_pr (l : Int) : ∀ L : List (Int × Str × Nat), dlook (prD L) (.int l) = (L.find? fun x => decide (x.1 = l)).map fun x => partD x.2.1 x.2.2
  | [] => rfl
  | x :: L => by
    show dlook ((.int x.1, partD x.2.1 x.2.2) :: prD L) (.int l) = _
    rw [dlook_cons, dlook_pr l L, List.find?_cons]
    by_cases z : x.1 = l <;> simp [keq, z]
theorem find_pr {L : List (Int × Str × Nat)} (nd : (L.map (·.1)).Nodup) {l : Int} {h : Str} {n : Nat} (m : (l, h, n) ∈ L) : (L.find? fun x => decide (x.1 = l)) = some (l, h, n) := by
  induction L with
  | nil => cases m
  | cons x L ih =>
    rw [List.map_cons] at nd
    obtain ⟨n1, n2⟩ := List.nodup_cons.mp nd
    rw [List.find?_cons]
    rcases List.mem_cons.mp m with e | m
    · subst e
      simp
    · have : x.1 ≠ l := fun z => n1 (by rw [z]; exact List.mem_map.mpr ⟨_, m, rfl⟩)
      simp [this]
      exact ih n2 m
theorem find_no {L : List (Int × Str × Nat)} {l : Int} (h : l ∉ L.map (·.1)) : (L.find? fun x => decide (x.1 = l)) = none := by
  rw [List.find?_eq_none]
  intro x m
  simp only [decide_eq_true_eq]
  exact fun z => h (List.mem_map.mpr ⟨x, m, z⟩)
theorem noDict_row : ∀ r : List Deed, noDictL (r.map deedD) = true
  | [] => rfl
  | d :: r => by
    show (noDict (deedD d) && noDictL (r.map deedD)) = true
    rw [noDict_row r]
    cases d <;> rfl
theorem lay_row {r : List Deed} (h : ∀ d ∈ r, ∀ l k, d = Deed.tell l k → PyData.strOk k = true) : PyData.canLayAll0 (r.map deedD) = true ∧ PyData.depthAll (r.map deedD) ≤ 60 := by
  induction r with
  | nil => exact ⟨by simp [PyData.canLayAll0], by simp [PyData.depthAll]⟩
  | cons d r ih =>
    obtain ⟨i1, i2⟩ := ih fun d m => h d (List.mem_cons_of_mem _ m)
    have sd := sh_deed (d := d) (h d (List.mem_cons_self ..))
    have c1 := SeqAt.canLay_of_shaped sd
    have d1 : (deedD d).depth ≤ 1 := by cases d <;> simp [deedD, PyData.depth, PyData.depthAll]
    refine ⟨?_, ?_⟩
    · rw [List.map_cons]
      simp [PyData.canLayAll0, c1, i1]
    · rw [List.map_cons]
      simp only [PyData.depthAll]
      omega
theorem count_keeps : ∀ r : List Deed, ((r.map deedD).countP fun e => e.eqv (deedD .keep)) = keepsR r
  | [] => rfl
  | d :: r => by
    rw [List.map_cons, List.countP_cons, count_keeps r, show (deedD d).eqv (deedD .keep) = decide (d = .keep) from eqv_keep d]
    cases d <;> simp [keepsR]
def dueD (p : Past) : List (PyData × PyData) := p.map fun q => (.str q.1, .int (1 + (keepsR q.2 : Int)))
theorem pairs_due (p : Past) : pairsD (dueD p) = p.map fun q => PyData.tuple [.str q.1, .int (1 + (keepsR q.2 : Int))] := by
  unfold pairsD dueD
  rw [List.map_map]
  rfl
theorem flat_due : ∀ p : Past, flatL ((dueD p).map (·.2)) = true
  | [] => rfl
  | q :: p => flat_due p
theorem dlook_due (h : Str) : ∀ p : Past, dlook (dueD p) (.str h) = (look p h).map fun r => .int (1 + (keepsR r : Int))
  | [] => rfl
  | q :: p => by
    show dlook ((.str q.1, .int (1 + (keepsR q.2 : Int))) :: dueD p) (.str h) = _
    rw [dlook_cons, dlook_due h p]
    by_cases z : q.1 = h
    · have e1 : look (q :: p) h = some q.2 := by
        unfold look
        rw [List.find?_cons_of_pos (by simp [z])]
        rfl
      rw [e1]
      simp [keq, z]
    · have e1 : look (q :: p) h = look p h := by
        unfold look
        rw [List.find?_cons_of_neg (by simp [z])]
      rw [e1]
      simp [keq, z]
theorem sorted_one {a b : List Int} (pa : a.Pairwise (· ≤ ·)) (pb : b.Pairwise (· ≤ ·)) (h : a.Perm b) : a = b :=
  h.eq_of_pairwise (fun x y _ _ h1 h2 => Int.le_antisymm h1 h2) pa pb
theorem show_small (ds : List PyData) (hx : ∀ x ∈ ds, x.showable = true ∧ x.shown.length ≤ 82 ∧ x.depth = 0) : PyData.showableAll ds = true ∧ PyData.depthAll ds = 0 ∧ ((PyData.shownAll ds).map (·.length)).sum ≤ 82 * ds.length ∧ (PyData.shownAll ds).length = ds.length := by
  induction ds with
  | nil => exact ⟨rfl, rfl, Nat.zero_le _, rfl⟩
  | cons x ds ih =>
    obtain ⟨a, b, c, e⟩ := ih fun y m => hx y (List.mem_cons_of_mem _ m)
    obtain ⟨a1, b1, c1⟩ := hx x (List.mem_cons_self ..)
    refine ⟨?_, ?_, ?_, ?_⟩
    · unfold PyData.showableAll
      rw [a1, a]
      rfl
    · unfold PyData.depthAll
      rw [b, c1]
      rfl
    · unfold PyData.shownAll
      rw [List.map_cons, List.sum_cons, List.length_cons]
      omega
    · unfold PyData.shownAll
      rw [List.length_cons, List.length_cons, e]
theorem show_str {x : Str} (h : (reprText x).length ≤ 82) : (PyData.str x).showable = true ∧ (PyData.str x).shown.length ≤ 82 ∧ (PyData.str x).depth = 0 := ⟨by unfold PyData.showable; rfl, by unfold PyData.shown; exact h, by unfold PyData.depth; rfl⟩
theorem show_int {l : Int} (h0 : 0 ≤ l) (h1 : l < 1000000000) : (PyData.int l).showable = true ∧ (PyData.int l).shown.length ≤ 82 ∧ (PyData.int l).depth = 0 := ⟨int_show h0 h1, by unfold PyData.shown; have := int_len h0 h1; omega, by unfold PyData.depth; rfl⟩
theorem show_ints {ns : List Int} (h : ∀ l ∈ ns, 0 ≤ l ∧ l < 1000000000) (few : ns.length ≤ 4000) : (PyData.list (ns.map .int)).showable = true ∧ (PyData.list (ns.map .int)).shown.length ≤ sizeLine ∧ (PyData.list (ns.map .int)).depth ≤ 60 := by
  obtain ⟨a, b, c, e⟩ := show_small (ns.map .int) fun x m => by
    obtain ⟨l, ml, rfl⟩ := List.mem_map.mp m
    exact show_int (h l ml).1 (h l ml).2
  rw [List.length_map] at c e
  have : 16000000 < sizeLine := by decide
  refine ⟨?_, ?_, ?_⟩
  · unfold PyData.showable
    exact a
  · unfold PyData.shown
    have := listText_len_le (PyData.shownAll (ns.map .int))
    omega
  · unfold PyData.depth
    omega
theorem show_part {h : Str} {n : Nat} (ho : nameOk h = true) (hn : n ≤ 4000) : (partD h n).showable = true ∧ (partD h n).shown.length ≤ sizeLine ∧ (partD h n).depth ≤ 60 := by
  obtain ⟨a, b, c, e⟩ := show_small [.str h, .int (n : Nat)] fun x m => by
    rcases List.mem_cons.mp m with rfl | m
    · exact show_str (repr_name ho)
    · cases List.mem_singleton.mp m
      exact show_int (by omega) (by omega)
  simp only [List.length_cons, List.length_nil] at c e
  have : 16000000 < sizeLine := by decide
  unfold partD
  refine ⟨?_, ?_, ?_⟩
  · unfold PyData.showable
    exact a
  · unfold PyData.shown
    have := tupleText_len_le (PyData.shownAll [.str h, .int (n : Nat)])
    omega
  · unfold PyData.depth
    omega
theorem plain_ints : ∀ ns : List Int, plainL (ns.map PyData.int) = true
  | [] => rfl
  | _ :: ns => plain_ints ns
theorem tk_pres (p : Past) (ys : List Str) : tk (presD p ys) = true := by cases ys <;> rfl
theorem isT_pres (f : Str → PyData) (ys : List Str) : isT (ys.map fun h => ((.str h, f h) : PyData × PyData)) = false := by cases ys <;> rfl
theorem isT_due (p : Past) : isT (dueD p) = false := by cases p <;> rfl
theorem ite_neF {α : Type} [DecidableEq α] {x y : α} (h : x = y) {A B : Prop} (b : B) : if (!decide (x = y)) = true then A else B := by rw [decide_eq_true h]; exact b
theorem fEq_ne {x y : PyData} (h : x = y) {Q : PyData → Prop} (q : Q (.bool false)) : fEq true (.str x.shown) (.str y.shown) Q := by
  subst h
  show Q (.bool (!decide (x.shown = x.shown)))
  rw [decide_eq_true rfl]
  exact q
theorem rowP_le (w : Str) : ∀ (r : List Deed) (n : Nat) {l : Int} {m : Nat}, (l, m) ∈ rowP w n r → m ≤ n + r.length
  | [], _, _, _, h => by cases h
  | .keep :: r, n, l, m, h => by
    have := rowP_le w r (n + 1) (show (l, m) ∈ rowP w (n + 1) r from h)
    rw [List.length_cons]; omega
  | .tell l0 h0 :: r, n, l, m, h => by
    have h : (l, m) ∈ (if w = "tell" then (l0, n) :: rowP w n r else rowP w n r) := h
    rw [List.length_cons]
    split at h
    · rcases List.mem_cons.mp h with e | h
      · cases e; omega
      · have := rowP_le w r n h; omega
    · have := rowP_le w r n h; omega
  | .hear l0 :: r, n, l, m, h => by
    have h : (l, m) ∈ (if w = "hear" then (l0, n) :: rowP w n r else rowP w n r) := h
    rw [List.length_cons]
    split at h
    · rcases List.mem_cons.mp h with e | h
      · cases e; omega
      · have := rowP_le w r n h; omega
    · have := rowP_le w r n h; omega
/-- a part of a good past can be shown -/
theorem part_show {p : Past} (g : Good p) (sm : Small p) {w : Str} {ys : List Str} (h : ys.Perm (p.map (·.1))) {l : Int} {hd : Str} {n : Nat} (m : (l, hd, n) ∈ partsP w (rowsOf p) ys) : (partD hd n).showable = true ∧ (partD hd n).shown.length ≤ sizeLine ∧ (partD hd n).depth ≤ 60 := by
  obtain ⟨y, my, mx⟩ := List.mem_flatMap.mp m
  obtain ⟨x, mr, ex⟩ := List.mem_map.mp mx
  cases ex
  obtain ⟨q, mq, eq⟩ := List.mem_map.mp (h.mem_iff.mp my)
  subst eq
  rw [rowsOf_mem g.1.nd mq] at mr
  have h1 := rowP_le w q.2 0 mr
  have h2 := mem_le_sum (fun q : Str × List Deed => q.2.length) p q mq
  have h3 := g.2
  exact show_part (sm.1 q mq).1 (by have : q.2.length ≤ (p.map fun q => q.2.length).sum := h2; omega)
theorem parts_perm {w : Str} {R : Str → List Deed} {ys zs : List Str} (h : ys.Perm zs) : (partsP w R ys).Perm (partsP w R zs) := h.flatMap_right _
theorem sel_pr {L : List (Int × Str × Nat)} (nd : (L.map (·.1)).Nodup) {l : Int} {h : Str} {n : Nat} (m : (l, h, n) ∈ L) : dlook (prD L) (.int l) = some (partD h n) := by
  rw [dlook_pr, find_pr nd m]
  rfl
theorem ok_right (D : Dfn K mg "_law_right" s__law_right P__law_right) (T : TxtL mg) (C_presents : Cal P w K mg base CX0 8 "presents" s_presents P_presents (sp3 K [false] c_presents)) (C_letters_lying : Cal P w K mg base CX0 8 "letters_lying" s_letters_lying P_letters_lying (sp3 K [false] c_lying))
    (C_told_in : Cal P w K mg base CX0 8 "told_in" s_told_in P_told_in (sp3 K [false, false] c_told)) (C_heard_in : Cal P w K mg base CX0 8 "heard_in" s_heard_in P_heard_in (sp3 K [false, false] c_heard)) (C__law_where : Cal P w K mg base CX0 1 "_law_where" s__law_where P__law_where (sp3 K [false] c_where))
    (C__law_some : Cal P w K mg base CX0 2 "_law_some" s__law_some P__law_some (sp3 K [true, false] c_some)) : CalG P w K mg base CX0 9 "_law_right" s__law_right P__law_right (sp3 K [true, false] c_right) := D.calG fun f fd F => by
  refine ok3G F sc__law_right rfl (by decide) fun cdv A outer s H E hgd hr => ?_
  have hu := hu_of hr
  have hu64 := hu64_of hr
  have hu0 : (A.deeper (envOfC "_law_right" (defScope s__law_right) s.heap.objs.size f cdv)).units < cLine := by omega
  refine ⟨_, _, (ss_cons (s_set (i := 2) sc__law_right.nd rfl (.inl rfl) (e_cbF (K := K) rfl (call_showK (K := K) rfl hgd hu64) f_repr (by rfl) T.repr (by decide +kernel) (a_cons (e_var (pv 1) (show 1 < N__law_right.length by decide)) a_nil)))
      (ss_cons (s_asg (h1 := rfl) (e_call2 (K := K) rfl C__law_where (hr.mono (by decide)) rfl pass0 (a_cons (e_var (pv 1) (show 1 < N__law_right.length by decide)) a_nil)) (g_tup (n := 2) (K := K) rfl (by rfl) (gs_cons (g_name (i := 3) sc__law_right.nd rfl (.inl rfl)) (gs_cons (g_name (i := 4) sc__law_right.nd rfl (.inr rfl)) gs_nil))))
      (ss_cons (s_set (i := 5) sc__law_right.nd rfl (.inl rfl) (e_tyD (K := K) rfl (call_dictPK (K := K) rfl rfl) n_dict (by rfl) T.dict (by decide +kernel) (a_cons (e_lkE (i := 1) (e_lc (own := [("hand", 11)]) rfl sc__law_right.nd (i_keys (i := 1) (pv 1) (show 1 < N__law_right.length by decide)) (blkOk_by (own := [("hand", 11)]) (N := N__law_right) (sc := defScope s__law_right) (by decide +kernel)) (fun _ _ _ _ _ => g_name (i := 11) sc__law_right.nd rfl (.inl rfl)) (fun _ _ _ _ _ => ⟨pts_nil, lift_yes⟩) (fun _ _ _ _ _ => (e_tup (a_cons (e_var (pv 11) (show 11 < N__law_right.length by decide)) (a_cons (e_op (K := K) rfl op_add f_add e_int (mk_bmF (K := K) rfl m_count (e_dget hu (e_var (pv 1) (show 1 < N__law_right.length by decide)) (e_var (pv 11) (show 11 < N__law_right.length by decide)) (fun _ _ => rfl)) (a_cons (e_tup (a_cons e_str a_nil)) a_nil) (fun h h2 => (pe_bmK (K := K) rfl PySem.F.plainAttrs_list PySem.F.slot_list_count PySem.F.type_list_count (mt_lcountDK (K := K) rfl hu64) h h2)))) a_nil)))) (sh := s))) a_nil)))
      (ss_cons (s_set (i := 6) sc__law_right.nd rfl (.inl rfl) (e_cbN (K := K) rfl (cr_sortedAnyK (K := K) rfl) n_sortI (by rfl) T.sorted (by decide +kernel) (a_cons (e_lkE (i := 3) (e_lc (own := [("letter", 10)]) rfl sc__law_right.nd (i_keys (i := 3) (pv 3) (show 3 < N__law_right.length by decide)) (blkOk_by (own := [("letter", 10)]) (N := N__law_right) (sc := defScope s__law_right) (by decide +kernel)) (fun _ _ _ _ _ => g_name (i := 10) sc__law_right.nd rfl (.inl rfl)) (fun _ _ _ _ _ => (fun h => ⟨pts_one h.1, h.2⟩) (t_dnotin hu (e_var (pv 10) (show 10 < N__law_right.length by decide)) (e_var (pv 4) (show 4 < N__law_right.length by decide)) rfl)) (fun _ _ _ _ _ => (e_var (pv 10) (show 10 < N__law_right.length by decide))) (sh := s))) a_nil)))
      (ss_cons (s_for PassesOwn.never rfl (i_rng1 (by rfl) T.range (a_cons e_int a_nil)) (g_name (i := 7) sc__law_right.nd rfl (.inl rfl)) (ss_cons (s_par (i := 8) (j := 9) (show 8 < N__law_right.length by decide) (show 9 < N__law_right.length by decide) (by decide) (a_cons (e_call2 (K := K) rfl C_presents (hr.mono (by decide)) rfl pass0 (a_cons (e_var (pv 1) (show 1 < N__law_right.length by decide)) a_nil)) (a_cons (e_call2 (K := K) rfl C_letters_lying (hr.mono (by decide)) rfl pass0 (a_cons (e_var (pv 1) (show 1 < N__law_right.length by decide)) a_nil)) a_nil)) (fun h => ps_par (i := 8) (j := 9) (by rfl) sc__law_right.nd rfl rfl (by decide) rfl rfl h (by rfl)))
      (ss_cons (s_if (PW3.pt (w_or (t_not (t_val (mk_isi (K := K) rfl (e_var (pv 8) (show 8 < N__law_right.length by decide)) (by decide) (fun h => pe_callB (call_isiKK (K := K) rfl) (by rfl) T.isinstance (by decide +kernel) (pa_cons h (pa_cons (pe_bltn (v := .ty "dict") (by rfl) T.dict (by decide +kernel) rfl) pa_nil)))))) (w_or (mk_neDT (i := 8) (j := 5) (show 8 < N__law_right.length by decide) (show 5 < N__law_right.length by decide) (pt_cmpR (op_ne_dictA hu0) (pv 8) (pv 5) (nomark _))) (w_or1 (t_cmp (K := K) rfl op_ne f_ne (e_cbF (K := K) rfl (call_showK (K := K) rfl hgd hu64) f_repr (by rfl) T.repr (by decide +kernel) (a_cons (e_var (pv 9) (show 9 < N__law_right.length by decide)) a_nil)) (e_cbF (K := K) rfl (call_showK (K := K) rfl hgd hu64) f_repr (by rfl) T.repr (by decide +kernel) (a_cons (e_var (pv 6) (show 6 < N__law_right.length by decide)) a_nil)) (nomark _)))))) (ss_one (s_ret e_bl)) ss_nil)
      (ss_cons (s_expr (mk_dclr (i := 8) (K := K) rfl (show 8 < N__law_right.length by decide) (pe_bm0 PySem.F.plainAttrs_dict PySem.F.slot_dict_clear PySem.F.type_dict_clear mt_dclear (pv 8))))
      (ss_one (s_expr (mk_app (i := 9) (K := K) rfl (show 9 < N__law_right.length by decide) (a_cons e_non a_nil) (fun h => (pe_bmK (K := K) rfl PySem.F.plainAttrs_list PySem.F.slot_list_append PySem.F.type_list_append mt_append (pv 9) h)))))))))
      (ss_cons (s_for PassesOwn.never rfl (i_list (K := K) rfl (e_call2 (K := K) rfl C__law_some (hr.mono (by decide)) rfl pass0 (a_at (pv 0) (show 0 < N__law_right.length by decide) (a_cons (e_cbN (K := K) rfl (call_sortedDIA rfl) n_sortDI (by rfl) T.sorted (by decide +kernel) (a_cons (e_var (pv 3) (show 3 < N__law_right.length by decide)) a_nil)) a_nil)))) (g_name (i := 10) sc__law_right.nd rfl (.inl rfl)) (ss_one (s_if (PW3.pt (w_or (t_cmp (K := K) rfl op_ne f_ne (e_cbF (K := K) rfl (call_showK (K := K) rfl hgd hu64) f_repr (by rfl) T.repr (by decide +kernel) (a_cons (e_call2 (K := K) rfl C_told_in (hr.mono (by decide)) rfl pass0 (a_cons (e_var (pv 1) (show 1 < N__law_right.length by decide)) (a_cons (e_var (pv 10) (show 10 < N__law_right.length by decide)) a_nil))) a_nil)) (e_cbF (K := K) rfl (call_showK (K := K) rfl hgd hu64) f_repr (by rfl) T.repr (by decide +kernel) (a_cons (e_dget hu (e_var (pv 3) (show 3 < N__law_right.length by decide)) (e_var (pv 10) (show 10 < N__law_right.length by decide)) (fun _ _ => rfl)) a_nil)) (nomark _)) (w_or1 (t_cmp (K := K) rfl op_ne f_ne (e_cbF (K := K) rfl (call_showK (K := K) rfl hgd hu64) f_repr (by rfl) T.repr (by decide +kernel) (a_cons (e_call2 (K := K) rfl C_heard_in (hr.mono (by decide)) rfl pass0 (a_cons (e_var (pv 1) (show 1 < N__law_right.length by decide)) (a_cons (e_var (pv 10) (show 10 < N__law_right.length by decide)) a_nil))) a_nil)) (e_cbF (K := K) rfl (call_showK (K := K) rfl hgd hu64) f_repr (by rfl) T.repr (by decide +kernel) (a_cons (mk_get (e_var (pv 4) (show 4 < N__law_right.length by decide)) (e_var (pv 10) (show 10 < N__law_right.length by decide)) (fun h h2 => pe_dget1 hu h h2 ⟨rfl, rfl, rfl, rfl⟩)) a_nil)) (nomark _))))) (ss_one (s_ret e_bl)) ss_nil)))
      (ss_one (s_ret (e_cmp (K := K) rfl op_eq f_eq (e_cbF (K := K) rfl (call_showK (K := K) rfl hgd hu64) f_repr (by rfl) T.repr (by decide +kernel) (a_cons (e_var (pv 1) (show 1 < N__law_right.length by decide)) a_nil)) (e_var (pv 2) (show 2 < N__law_right.length by decide)) (nomark _)))))))))), fun ds kk _ h => ?_⟩
  obtain ⟨a, b, c, n, p, rfl, pn, g, sm, k⟩ := h
  obtain ⟨sh1, sh2, sh3⟩ := show_past sm.1 sm.2 g.2
  have gp := g.1
  have nd := gp.nd
  refine ⟨⟨plain_past p, sh1, sh2, by omega⟩, ?_⟩
  refine ⟨rfl, p, rfl, g, fun l1 l2 pm1 pm2 => ⟨rfl, rfl, ?_⟩⟩
  refine ⟨rfl, ?_⟩
  refine ⟨by show (!isT (pastKv p)) = true; rw [isT_past]; rfl, rfl, isT_past p, rfl, ?_, ?_⟩
  · show (pastKv p).length ≤ 50000
    rw [show (pastKv p).length = p.length from List.length_map ..]
    have := sm.2
    omega
  have lkv : (pastKv p).length = p.length := List.length_map ..
  refine compF_by (fun r i acc S => i + r = p.length ∧ acc = (p.take i).map (fun q => PyData.tuple [.str q.1, .int (1 + (keepsR q.2 : Int))]) ∧ ∃ x, S = [some (potD a b c, .own), some (pastD p, .shr), some (.str (pastD p).shown, .shr), some (.dict (prD l1), .shr), some (.dict (prD l2), .shr), none, none, none, none, none, none, x]) ?_ ?_ _ 0 [] _ ⟨by rw [lkv]; omega, rfl, none, rfl⟩
  · rintro i acc S ⟨hi, rfl, x, rfl⟩
    have hi : i = p.length := by omega
    subst hi
    rw [List.take_length, ← pairs_due]
    refine ⟨dueD p, p.map fun q => .inr q.1, rfl, ?_, ?_, flat_due p, ?_⟩
    · unfold dueD
      rw [List.map_map, List.map_map]
      rfl
    · have : (p.map fun q => (Sum.inr q.1 : Key)) = (p.map (·.1)).map Sum.inr := by rw [List.map_map]; rfl
      rw [this]
      exact List.Pairwise.map _ (fun a b h e => h (by injection e)) nd
    -- the letters that lie, reckoned here
    have n1 : (l1.map (·.1)).Perm (toldP p) := (pm1.map (·.1)).trans (parts_tell nd (.refl _))
    have n2 : (l2.map (·.1)).Perm ((hearsP p).map (·.1)) := (pm2.map (·.1)).trans (parts_hear nd (.refl _))
    refine ⟨by show (!isT (prD l1)) = true; rw [isT_pr]; rfl, rfl, isT_pr l1, rfl, ?_, ?_⟩
    · show (prD l1).length ≤ 50000
      rw [show (prD l1).length = l1.length from List.length_map .., pm1.length_eq]
      have h1 := partsP_len "tell" (rowsOf p) (p.map (·.1))
      rw [total_past nd] at h1
      have := g.2
      omega
    have ll1 : l1.length ≤ 4000 := by
      rw [pm1.length_eq]
      have h1 := partsP_len "tell" (rowsOf p) (p.map (·.1))
      rw [total_past nd] at h1
      exact Nat.le_trans h1 g.2
    have lk1 : (prD l1).length = l1.length := List.length_map ..
    have nd1 : (l1.map (·.1)).Nodup := n1.nodup_iff.mpr gp.told
    have nd2 : (l2.map (·.1)).Nodup := n2.nodup_iff.mpr gp.heard.2
    have smL : ∀ l ∈ toldP p, 0 ≤ l ∧ l < 1000000000 := fun l ml => by
      obtain ⟨q, mq, hq⟩ := List.mem_flatMap.mp ml
      obtain ⟨d, md, ed⟩ := List.mem_filterMap.mp hq
      have := (sm.1 q mq).2 d md
      cases d with
      | keep => cases ed
      | hear _ => cases ed
      | tell l' h' =>
        cases ed
        exact ⟨this.1, this.2.1⟩
    refine compF_by (fun r i acc S => i + r = l1.length ∧ acc = (((l1.take i).map (·.1)).filter fun l => decide (l ∉ (hearsP p).map (·.1))).map .int ∧ ∃ x y, S = [some (potD a b c, .own), some (pastD p, .shr), some (.str (pastD p).shown, .shr), some (.dict (prD l1), .shr), some (.dict (prD l2), .shr), some (.dict (dueD p), .own), none, none, none, none, x, y]) ?_ ?_ _ 0 [] _ ⟨by rw [lk1]; omega, rfl, none, none, rfl⟩
    · rintro i acc S ⟨hi, rfl, x, y, rfl⟩
      have hi : i = l1.length := by omega
      subst hi
      rw [List.take_length]
      refine ⟨_, rfl, fun ly pmL pwL => ?_⟩
      have pmL : ly.Perm (lyingL p) := pmL.trans (n1.filter _)
      have lyS : ∀ l ∈ ly, 0 ≤ l ∧ l < 1000000000 := fun l ml => smL l (List.mem_filter.mp (pmL.mem_iff.mp ml)).1
      have lyN : ly.length ≤ 4000 := by
        rw [pmL.length_eq]
        refine Nat.le_trans (List.length_filter_le ..) ?_
        rw [← n1.length_eq, List.length_map]
        exact ll1
      obtain ⟨ly1, ly2, ly3⟩ := show_ints lyS lyN
      refine ⟨⟨by decide, by decide⟩, ?_⟩
      refine loopF_by (fun r i S => ∃ x7 x8 x9 x10 x11, S = [some (potD a b c, .own), some (pastD p, .shr), some (.str (pastD p).shown, .shr), some (.dict (prD l1), .shr), some (.dict (prD l2), .shr), some (.dict (dueD p), .own), some (.list (ly.map .int), .own), x7, x8, x9, x10, x11]) ?_ ?_ _ 0 _ ⟨_, _, _, _, _, rfl⟩
      · rintro i S ⟨x7, x8, x9, x10, x11, rfl⟩
        refine ⟨⟨_, rfl⟩, prD l1, l1.map (·.1), rfl, isT_pr l1, ?_, fun ls pmS pwS => ?_⟩
        · unfold prD
          rw [List.map_map, List.map_map]
          rfl
        refine ⟨rfl, a, b, c, n, ls, rfl, pn, ?_, fun a' b' c' so pn' sub len => ⟨rfl, ?_⟩⟩
        · rw [pmS.length_eq, List.length_map]
          exact ll1
        refine loopF_by (fun r i S => i + r = so.length ∧ ∃ x7 x8 x9 x10 x11, S = [some (potD a' b' c', .own), some (pastD p, .shr), some (.str (pastD p).shown, .shr), some (.dict (prD l1), .shr), some (.dict (prD l2), .shr), some (.dict (dueD p), .own), some (.list (ly.map .int), .own), x7, x8, x9, x10, x11]) ?_ ?_ _ 0 _ ⟨by rw [List.length_map]; omega, _, _, _, _, _, rfl⟩
        · rintro i S ⟨_, x7, x8, x9, x10, x11, rfl⟩
          refine ⟨⟨plain_past p, sh1, sh2, by omega⟩, rfl, ?_⟩
          show kk (.bool (decide ((pastD p).shown = (pastD p).shown))) .shr _
          rw [decide_eq_true rfl]
          exact k a' b' c' pn'
        · rintro C r i S hC ⟨hi, x7, x8, x9, x10, x11, rfl⟩
          have lt : i < so.length := by omega
          have e : (so.map PyData.int).getD i .none = .int so[i] := by
            rw [List.getD_eq_getElem?_getD, List.getElem?_map, List.getElem?_eq_getElem lt]
            rfl
          have ml : so[i] ∈ toldP p := n1.mem_iff.mp (pmS.mem_iff.mp (sub _ (List.getElem_mem lt)))
          generalize so[i] = l at e ml
          show gName3 10 _ ((so.map PyData.int).getD i .none, im .own ((so.map PyData.int).getD i .none)) _ _
          rw [e]
          refine ⟨rfl, p, l, rfl, g, ml, fun ys h n pmY _ mx => ?_⟩
          obtain ⟨q1, q2, q3⟩ := part_show g sm pmY mx
          have m1 : (l, h, n) ∈ l1 := pm1.mem_iff.mpr ((parts_perm pmY).mem_iff.mp mx)
          refine ⟨⟨rfl, q1, q2, q3⟩, partD h n, ?_, ⟨rfl, q1, q2, q3⟩, ite_neF rfl ?_⟩
          · show (if keyOk (prD l1) (.int l) = true then dlook (prD l1) (.int l) else none) = _
            rw [if_pos (by show (!isT (prD l1)) = true; rw [isT_pr]; rfl), sel_pr nd1 m1]
          refine ⟨rfl, p, l, rfl, g, ml, fun ys2 h2 n2' pmY2 _ mx2 => ?_, fun no => ?_⟩
          · obtain ⟨q1, q2, q3⟩ := part_show g sm pmY2 mx2
            have m2 : (l, h2, n2') ∈ l2 := pm2.mem_iff.mpr ((parts_perm pmY2).mem_iff.mp mx2)
            exact ⟨⟨rfl, q1, q2, q3⟩, by show (!isT (prD l2)) = true; rw [isT_pr]; rfl, some (partD h2 n2'), sel_pr nd2 m2, ⟨rfl, q1, q2, q3⟩, ite_neF rfl (hC _ _ ⟨by omega, _, _, _, _, _, rfl⟩)⟩
          · have nn : dlook (prD l2) (.int l) = none := by
              rw [dlook_pr, find_no fun m => no (n2.mem_iff.mp m)]
              rfl
            have sz : PyData.none.showable = true ∧ PyData.none.shown.length ≤ sizeLine ∧ PyData.none.depth ≤ 60 := ⟨by unfold PyData.showable; rfl, by unfold PyData.shown; decide +kernel, by unfold PyData.depth; decide⟩
            refine ⟨⟨rfl, sz⟩, by show (!isT (prD l2)) = true; rw [isT_pr]; rfl, none, nn, ⟨rfl, sz⟩, ?_⟩
            exact fEq_ne (x := .none) (y := (none : Option PyData).getD .none) rfl (hC _ _ ⟨by omega, _, _, _, _, _, rfl⟩)
      · rintro C r i S hC ⟨x7, x8, x9, x10, x11, rfl⟩
        refine ⟨rfl, p, rfl, g, fun ys pmY soY => ⟨rfl, ?_⟩⟩
        refine ⟨rfl, p, rfl, g, fun ns pmN pwN => ⟨rfl, ?_⟩⟩
        have en : ns = ly := sorted_one pwN pwL (pmN.trans pmL.symm)
        subst en
        refine ⟨tk_pres p ys, ?_⟩
        refine ⟨⟨isT_pres _ ys, isT_due p, ?_, ?_⟩, ?_⟩
        · rw [List.length_map, pmY.length_eq, List.length_map]
          unfold dueD
          rw [List.length_map]
        · intro x mx
          obtain ⟨h, mh, rfl⟩ := List.mem_map.mp mx
          obtain ⟨z, mz, ez⟩ := List.mem_map.mp (pmY.mem_iff.mp mh)
          subst ez
          refine ⟨?_, rfl⟩
          rw [dlook_due, look_of nd mz, rowsOf_mem nd mz]
          show some (PyData.int _) = some (PyData.int _)
          congr 2
          push_cast
          omega
        refine ⟨⟨plain_ints ns, ly1, ly2, ly3⟩, ⟨plain_ints ns, ly1, ly2, ly3⟩, ite_neF rfl ?_⟩
        refine ⟨isT_pres _ ys, trivial, ?_, .inl rfl, hC _ _ ⟨_, _, _, _, _, rfl⟩⟩
        rw [List.length_map]
        omega
    · rintro C r i acc S hC ⟨hi, rfl, x, y, rfl⟩
      have lt : i < l1.length := by omega
      have e : (prD l1).getD i (.none, .none) = (.int l1[i].1, partD l1[i].2.1 l1[i].2.2) := by
        rw [List.getD_eq_getElem?_getD, show (prD l1)[i]? = some (.int l1[i].1, partD l1[i].2.1 l1[i].2.2) by unfold prD; rw [List.getElem?_map, List.getElem?_eq_getElem lt]; rfl]
        rfl
      have tk := take_snoc (List.getElem?_eq_getElem lt)
      generalize l1[i] = q at e tk
      show gName3 10 _ (((prD l1).getD i (.none, .none)).1, Md.shr) _ _
      rw [e]
      refine ⟨by show (!isT (prD l2)) = true; rw [isT_pr]; rfl, _, dlook_pr q.1 l2, ?_⟩
      by_cases z : q.1 ∈ (hearsP p).map (·.1)
      · obtain ⟨w, mw, ew⟩ := List.mem_map.mp (n2.mem_iff.mpr z)
        obtain ⟨wl, wh, wn⟩ := w
        have ew : wl = q.1 := ew
        subst ew
        rw [find_pr nd2 mw]
        refine hC _ _ _ ⟨by omega, ?_, _, _, rfl⟩
        rw [tk, List.map_append, List.filter_append, List.map_append, List.map_cons, List.map_nil, List.filter_cons, if_neg (by simpa using z)]
        simp
      · rw [find_no fun m => z (n2.mem_iff.mp m)]
        refine ⟨.inl rfl, hC _ _ _ ⟨by omega, ?_, _, _, rfl⟩⟩
        rw [tk, List.map_append, List.filter_append, List.map_append, List.map_cons, List.map_nil, List.filter_cons, if_pos (by simpa using z)]
        rfl
  · rintro C r i acc S hC ⟨hi, rfl, x, rfl⟩
    have lt : i < p.length := by omega
    have e : (pastKv p).getD i (.none, .none) = (.str p[i].1, rowD p[i].2) := by
      rw [List.getD_eq_getElem?_getD, show (pastKv p)[i]? = some (.str p[i].1, rowD p[i].2) by unfold pastKv; rw [List.getElem?_map, List.getElem?_eq_getElem lt]; rfl]
      rfl
    have mq : p[i] ∈ p := List.getElem_mem lt
    have tk := take_snoc (List.getElem?_eq_getElem lt)
    generalize p[i] = q at e mq tk
    show gName3 11 _ (((pastKv p).getD i (.none, .none)).1, Md.shr) _ _
    rw [e]
    have hsel : selD (pastD p) (.str q.1) = some (rowD q.2) := by
      show (if keyOk (pastKv p) (.str q.1) = true then dlook (pastKv p) (.str q.1) else none) = _
      rw [if_pos (by show (!isT (pastKv p)) = true; rw [isT_past]; rfl), dlook_past, look_of nd mq]
      rfl
    obtain ⟨c1, c2⟩ := lay_row (r := q.2) fun d md l k e => by
      subst e
      exact strOk_name (gp.deeds q mq _ md).2.1
    refine ⟨rowD q.2, hsel, rfl, ⟨noDict_row q.2, rfl, c1, by decide +kernel, c2⟩, keepsR q.2, count_keeps q.2, .inl rfl, hC _ _ _ ⟨by omega, ?_, some (.str q.1, .shr), rfl⟩⟩
    rw [tk, List.map_append]
    rfl
end
end L2.Fb.Law

namespace L2.Fb.Law
open PySem PySem.Spec
open PyProof.Rows
open L2.Fb.T
section
variable {P : Program} {w : World} {K : PySem.W.Frag} {mg : Str → Option Value} {base : Heap}
/-! ### promises over trees: the pot, the past -/
theorem dt_ints {H : Hp} : ∀ {xs : List V} {ns : List Int}, DtL K H xs (ns.map PyData.int) → xs = ns.map V.int
  | [], [], _ => rfl
  | x :: xs, n :: ns, h => by
    have h : DtL K H (x :: xs) (.int n :: ns.map PyData.int) := h
    cases h with
    | cons a b => cases a; rw [dt_ints b]; rfl
  | [], n :: ns, h => by
    have h : DtL K H [] (.int n :: ns.map PyData.int) := h
    cases h
  | x :: xs, [], h => by cases h
def c_pot : C3 := fun ds k => ∃ (ns : List Int) (j : Nat), ds = [intsD ns, .int (j : Nat)] ∧ j ≤ 1000 ∧ ∀ a b c, PotN a b c 1000000 → k (potD a b c) .own ds
theorem pot3 (C : Cal P w K mg base CX0 1 "_law_pot" s__law_pot P__law_pot (sp_pot K)) : Cal P w K mg base CX0 1 "_law_pot" s__law_pot P__law_pot (sp3 K [false, false] c_pot) := Cal.imp C fun vs H Q E h => by
  obtain ⟨G0, ds, lv, ld, r, rd, kk, ⟨ns, j, rfl, j1, hk⟩, fin⟩ := h
  obtain ⟨v0, v1, rfl⟩ := two lv
  have d0 := rd 0 (intsD ns) v0 rfl rfl rfl
  have e1 : v1 = .int (j : Nat) := by
    have := rd 1 (.int (j : Nat)) v1 rfl rfl rfl
    cases this
    rfl
  subst e1
  have d0 : Dt K G0 v0 (.list (ns.map .int)) := d0
  cases d0 with
  | lst x y =>
  rename_i a xs
  have := dt_ints y
  subst this
  refine ⟨a, ns, j, rfl, .inl (.inl (base_le r _ _ x)), j1, fun H' p s np ⟨a', b', c', hp, q1, q2, q3, q4, q5⟩ => ?_⟩
  refine fin (potD a' b' c') .own _ rfl (.inr rfl) (hk a' b' c' ⟨q1, q2, q3, q4, q5⟩) (.ref p) H' ?_
  exact R.rdO (L := [p]) r rfl rfl (by simp) s (by simp) (fun b mb => by rw [List.mem_singleton.mp mb]; exact np) fun G hG => .lst hp (.cons (F := []) (F' := []) (.int _) (.cons (F := []) (F' := []) (.int _) (.cons (F := []) (F' := []) (.int _) .nil)))
/-- rows of one's own, as a tree of one's own -/
theorem own_deeds {G H : Hp} (hG : ∀ a xs, H a = some (.tup xs) → G a = some (.tup xs)) : ∀ {xs : List V} {r : List Deed}, AllT H xs r → OwnL K G H xs (r.map deedD) []
  | _, _, .nil => .nil
  | _, _, .cons (d := d) a b => by
    refine .cons (F := []) (F' := []) ?_ (own_deeds hG b)
    cases d with
    | keep => exact .tup (F := []) (hG _ _ a) (.cons (F := []) (F' := []) (.str _) .nil)
    | tell l h => exact .tup (F := []) (hG _ _ a) (.cons (F := []) (F' := []) (.str _) (.cons (F := []) (F' := []) (.int _) (.cons (F := []) (F' := []) (.str _) .nil)))
    | hear l => exact .tup (F := []) (hG _ _ a) (.cons (F := []) (F' := []) (.str _) (.cons (F := []) (F' := []) (.int _) .nil))
theorem own_rows {G H : Hp} (hG : ∀ a xs, H a = some (.tup xs) → G a = some (.tup xs)) : ∀ {bs : List Addr} {pa : Past}, RowsA K H bs pa → OwnK K G H (kvN (pa.map (·.1)) bs) (pastKv pa) bs
  | _, _, .nil => .nil
  | b :: bs, (h, r) :: pa, .cons e x z => .cons (k := .inr h) (F := [b]) (F' := bs) (.lst (F := []) e (own_deeds hG x.ex)) (own_rows hG z)
def c_past : C3 := fun ds k => ∃ (a b c : Int) (most long n : Nat), ds = [potD a b c, .int (most : Nat), .int (long : Nat)] ∧ PotN a b c (n + 2000) ∧ 1 ≤ most ∧ most ≤ 40 ∧ long ≤ 390 ∧
  ∀ a' b' c' pa L m ly, PotN a' b' c' n → m ≤ long → Grow (pa.map (·.1)) L m pa ly → (∀ j, j < m → L j < 1000000000) → (pa.map (·.1)).Nodup → 1 ≤ pa.length → pa.length ≤ most → (∀ q ∈ pa, nameOk q.1 = true) → k (pastD pa) .own [potD a' b' c', .int (most : Nat), .int (long : Nat)]
theorem past3 (C : Cal P w K mg base CX0 3 "_law_past" s__law_past P__law_past (sp_past K)) : Cal P w K mg base CX0 3 "_law_past" s__law_past P__law_past (sp3 K [true, false, false] c_past) := Cal.imp C fun vs H Q E h => by
  obtain ⟨G0, ds, lv, ld, r, rd, kk, ⟨a, b, c, most, long, n, rfl, pn, m1, m40, l390, hk⟩, fin⟩ := h
  obtain ⟨v0, v1, v2, rfl⟩ := three lv
  obtain ⟨p, xs, rfl, hp, dl⟩ := R.inL (ios := [false, false]) (d := [.int a, .int b, .int c]) (ds := [.int (most : Nat), .int (long : Nat)]) (v0 := v0) (vs := [some v1, some v2]) r rfl
  have e1 : v1 = .int (most : Nat) := by
    have := rd 1 (.int (most : Nat)) v1 rfl rfl rfl
    cases this
    rfl
  have e2 : v2 = .int (long : Nat) := by
    have := rd 2 (.int (long : Nat)) v2 rfl rfl rfl
    cases this
    rfl
  subst e1 e2
  have ex : xs = [.int a, .int b, .int c] := dt_ints (ns := [a, b, c]) dl
  subst ex
  refine ⟨p, most, long, n, rfl, m1, m40, l390, ⟨a, b, c, hp, pn.1, pn.2.1, pn.2.2.1, pn.2.2.2.1, pn.2.2.2.2⟩, fun H' r' bs pa L m ly off ⟨a', b', c', hp', q1, q2, q3, q4, q5⟩ nr nbs ra lm G Ls nd one fewP names => ?_⟩
  refine fin (pastD pa) .own [potD a' b' c', .int (most : Nat), .int (long : Nat)] rfl (.inr rfl) (hk a' b' c' pa L m ly ⟨q1, q2, q3, q4, q5⟩ lm G Ls nd one fewP names) (.ref r') H' ?_
  have nrb : r' ∉ bs := fun mb => by
    have hd := ra.dict
    have key : ∀ {bs : List Addr} {pa : Past}, RowsA K H' bs pa → r' ∈ bs → False := fun {bs pa} z => by
      induction z with
      | nil => exact fun m => nomatch m
      | cons e _ _ ih =>
        intro m
        rcases List.mem_cons.mp m with rfl | m
        · rw [hd] at e; cases e
        · exact ih m
    exact key ra.rows mb
  exact R.offO (ios := [false, false]) (d := [.int a, .int b, .int c]) (d' := [.int a', .int b', .int c']) (ds := [.int (most : Nat), .int (long : Nat)]) (vs1 := [some (.int (most : Nat)), some (.int (long : Nat))]) (xs' := [.int a', .int b', .int c']) (L := r' :: bs) r hp rfl rfl (by simp) off hp' (.cons (.int _) (.cons (.int _) (.cons (.int _) .nil))) rfl
    (List.nodup_cons.mpr ⟨nrb, ra.nd⟩) (fun x mx => (List.mem_cons.mp mx).elim (fun e => by rw [e]; exact nr) (nbs x)) fun G hG => .dct ra.dict (own_rows hG ra.rows)
end
end L2.Fb.Law

namespace L2.Fb.Law
open PySem PySem.Spec
open PyProof.Rows
open L2.Fb.T
abbrev s_law : Stmt := topS 39
abbrev N_law : List Str := ["script", "k", "pot", "most", "long", "rows", "hand"]
abbrev P_law : List Str := ["script"]
theorem sc_law : FnScope N_law P_law (defScope s_law) := ⟨rfl, rfl, rfl, by decide +kernel, rfl, by decide +kernel, by decide +kernel⟩
section
variable {P : Program} {w : World} {K : PySem.W.Frag} {mg : Str → Option Value} {base : Heap}
theorem look_none_no {h : Str} : ∀ {p : Past}, look p h = none → h ∉ p.map (·.1)
  | [], _, m => by cases m
  | q :: p, e, m => by
    rw [look_cons] at e
    by_cases z : q.1 = h
    · rw [if_pos z] at e; cases e
    · rw [if_neg z] at e
      rcases List.mem_cons.mp m with y | m
      · exact z y.symm
      · exact look_none_no e m
theorem look_some_mem {h : Str} {r : List Deed} : ∀ {p : Past}, look p h = some r → (h, r) ∈ p
  | [], e => by cases e
  | q :: p, e => by
    rw [look_cons] at e
    by_cases z : q.1 = h
    · rw [if_pos z] at e
      cases e
      rw [← z]
      exact List.mem_cons_self ..
    · rw [if_neg z] at e
      exact List.mem_cons_of_mem _ (look_some_mem e)
theorem dput_past {h : Str} {r : List Deed} : ∀ p : Past, look p h = some r → dput (pastKv p) (.str h) (rowD (.keep :: r)) = pastKv (frontD p h)
  | [], e => by cases e
  | q :: p, e => by
    have u : dput (pastKv (q :: p)) (.str h) (rowD (.keep :: r)) = if keq (.str q.1) (.str h) = true then (.str q.1, rowD (.keep :: r)) :: pastKv p else (.str q.1, rowD q.2) :: dput (pastKv p) (.str h) (rowD (.keep :: r)) := rfl
    have ke : keq (.str q.1) (.str h) = decide (q.1 = h) := by simp [keq]
    rw [look_cons] at e
    rw [u, ke]
    by_cases z : q.1 = h
    · rw [if_pos z] at e
      cases e
      rw [decide_eq_true z, if_pos rfl, front_pos z]
      rfl
    · rw [if_neg z] at e
      rw [decide_eq_false z, if_neg Bool.false_ne_true, front_neg z, dput_past p e]
      rfl
def sp_law3 (K : PySem.W.Frag) : Sp := fun vs H Q _ => ∃ (a : Addr) (ns : List Int), vs = [.ref a] ∧ SqL K H a (ns.map V.int) ∧ ns.length ≤ 63 ∧ ∀ H', Q (.bl true) H'
theorem ok_law {f : Addr} {fd : FuncData} (F : Fun K "law" "law" s_law f fd) (T : TxtL mg) (C__law_pot : Cal P w K mg base CX0 1 "_law_pot" s__law_pot P__law_pot (sp_pot K)) (C__law_dip : Cal P w K mg base CX0 1 "_law_dip" s__law_dip P__law_dip (sp3 K [true, false] c_dip))
    (C__law_past : Cal P w K mg base CX0 3 "_law_past" s__law_past P__law_past (sp3 K [true, false, false] c_past)) (C__law_right : CalG P w K mg base CX0 9 "_law_right" s__law_right P__law_right (sp3 K [true, false] c_right)) :
    FnG P w K mg base CX0 10 f fd P_law (sp_law3 K) := by
  refine okG F sc_law (fun vs H Q E h => ?_) (fun cdv A outer s H vs Q E hgd hr h => ?_)
  · obtain ⟨a, ns, rfl, _⟩ := h
    rfl
  obtain ⟨sa, ns, rfl, so, few, q⟩ := h
  have hu := hu_of hr
  have hu64 := hu64_of hr
  refine ⟨_, PSs.nox ((pss_cons (ps_for PassesOwn.never rfl (pi_range1 (by rfl) T.range (pa_cons (pe_callB (call_max2 rfl) (by rfl) T.max (by decide +kernel) (pa_cons pe_int (pa_cons (pe_callB (call_min2 rfl) (by rfl) T.min (by decide +kernel) (pa_cons pe_int (pa_cons (pe_op op_add (pe_callB (call_len_seqK (K := K) rfl) (by rfl) T.len PySem.boot_len (pa_cons (pv 0) pa_nil)) pe_int) pa_nil))) pa_nil))) pa_nil)) (pg_name (i := 1) sc_law.nd rfl (.inl rfl)) (pss_cons (ps_set (i := 2) sc_law.nd rfl (.inl rfl) (pe_callC C__law_pot (hr.mono (by decide)) rfl pass0 (pa_cons (pv 0) (pa_cons (pv 1) pa_nil))))
      (pss_of3 (K := K) rfl (ss_cons (s_asg (h1 := rfl) (e_ix (K := K) rfl (ix_listK (K := K) rfl) p_list (e_lst (a_cons (e_tup (a_cons e_int (a_cons e_int a_nil))) (a_cons (e_tup (a_cons e_int (a_cons e_int a_nil))) (a_cons (e_tup (a_cons e_int (a_cons e_int a_nil))) (a_cons (e_tup (a_cons e_int (a_cons (e_ix (K := K) rfl (ix_listK (K := K) rfl) p_list (e_lst (a_cons e_int (a_cons e_int a_nil))) (e_tyF (K := K) rfl call_int1 f_int1 (by rfl) T.int (by decide +kernel) (a_cons (e_cmp (K := K) rfl op_eq f_eq (e_var (pv 1) (show 1 < N_law.length by decide)) e_int (nomark _)) a_nil)) (fun _ _ => rfl)) a_nil))) a_nil))))) (e_call2 (K := K) rfl C__law_dip (hr.mono (by decide)) rfl pass0 (a_at (pv 2) (show 2 < N_law.length by decide) (a_cons e_int a_nil))) (fun _ _ => rfl)) (g_tup (n := 2) (K := K) rfl (by rfl) (gs_cons (g_name (i := 3) sc_law.nd rfl (.inl rfl)) (gs_cons (g_name (i := 4) sc_law.nd rfl (.inl rfl)) gs_nil))))
      (ss_cons (s_set (i := 5) sc_law.nd rfl (.inl rfl) (e_call2 (K := K) rfl C__law_past (hr.mono (by decide)) rfl pass0 (a_at (pv 2) (show 2 < N_law.length by decide) (a_cons (e_var (pv 3) (show 3 < N_law.length by decide)) (a_cons (e_var (pv 4) (show 4 < N_law.length by decide)) a_nil)))))
      (ss_cons (s_if (t_not (t_val (e_callG2 (K := K) rfl C__law_right hgd (hr.mono (by decide)) rfl pass0 (a_at (pv 2) (show 2 < N_law.length by decide) (a_cons (e_var (pv 5) (show 5 < N_law.length by decide)) a_nil))))) (ss_one (s_ret e_bl)) ss_nil)
      (ss_cons (s_set (i := 6) sc_law.nd rfl (.inl rfl) (e_ix (K := K) rfl (ix_listK (K := K) rfl) p_list (e_cbN (K := K) rfl (call_sortedD rfl) n_sortD (by rfl) T.sorted (by decide +kernel) (a_cons (e_var (pv 5) (show 5 < N_law.length by decide)) a_nil)) (e_call2 (K := K) rfl C__law_dip (hr.mono (by decide)) rfl pass0 (a_at (pv 2) (show 2 < N_law.length by decide) (a_cons (e_cbF (K := K) rfl call_lenDN f_lenD (by rfl) T.len (by decide +kernel) (a_cons (e_var (pv 5) (show 5 < N_law.length by decide)) a_nil)) a_nil))) (fun _ _ => rfl)))
      (ss_cons (s_expr (mk_insK (i := 5) (K := K) rfl (show 5 < N_law.length by decide) (e_var (pv 6) (show 6 < N_law.length by decide)) (a_cons e_int (a_cons (e_tup (a_cons e_str a_nil)) a_nil)) (fun h h2 => (pe_bmK (K := K) rfl PySem.F.plainAttrs_list PySem.F.slot_list_insert PySem.F.type_list_insert mt_insert (pe_dget hu (pv 5) h (fun _ _ => rfl)) h2))))
      (ss_one (s_if (t_not (t_val (e_callG2 (K := K) rfl C__law_right hgd (hr.mono (by decide)) rfl pass0 (a_at (pv 2) (show 2 < N_law.length by decide) (a_cons (e_var (pv 5) (show 5 < N_law.length by decide)) a_nil))))) (ss_one (s_ret e_bl)) ss_nil))))))))))
      (pss_one (ps_ret pe_bl)))), ?_⟩
  refine ⟨.ref sa, rfl, sa, _, rfl, .inl so, _, 1, rfl, rfl, 8, _, rfl, 1, _, rfl, _, rfl, ?_, ?_, ?_⟩
  · split <;> omega
  · split <;> split <;> omega
  generalize hcount : (if (if ((List.map V.int ns).length : Int) + 1 < 8 then ((List.map V.int ns).length : Int) + 1 else 8) > 1 then (if ((List.map V.int ns).length : Int) + 1 < 8 then ((List.map V.int ns).length : Int) + 1 else 8) else 1).toNat = count
  have c8 : count ≤ 8 := by
    rw [← hcount]
    split <;> split <;> omega
  refine for_it walk_range (fun i σ' H' => (∃ y1 y2 y3 y4 y5 y6, σ' = [some (.ref sa), y1, y2, y3, y4, y5, y6]) ∧ Same H H') ⟨⟨none, none, none, none, none, none, rfl⟩, .refl _⟩ (fun _ _ _ _ _ => trivial) ?_ ?_
  · rintro i x σ' H1 H1' hi ⟨⟨y1, y2, y3, y4, y5, y6, rfl⟩, s1⟩ ⟨rfl, rfl⟩
    refine ⟨.ref sa, rfl, .int (0 + (i : Nat)), rfl, sa, ns, i, congrArg (fun z => [V.ref sa, V.int z]) (by omega), s1.seq so, by omega, fun H2 p s2 np ⟨a, b, c, hp, p1, p2, p3, p4, p5⟩ => ?_⟩
    have pn : PotN a b c 1000000 := ⟨p1, p2, p3, p4, p5⟩
    have np0 : H p = none := s1.free np
    refine ⟨_, _, _, [none, some (.int (0 + (i : Nat)), .shr), some (potD a b c, .own), none, none, none, none], { nx := fun _ => True, rt := fun _ _ _ => False }, at_list (ip := 2) (p := p) (ls := [a, b, c]) (v0 := .ref sa) rfl rfl hp rfl rfl (fun k e hk he => ?_) rfl, ?_, ⟨fun S σ' H' l l' r fx _ => ?_, fun _ _ _ _ _ _ _ z => z.elim, fun _ _ _ _ _ _ _ z => z.elim, fun _ _ _ _ _ _ _ _ _ _ z => z.elim⟩⟩
    · match k, hk, he with
      | 0, _, he => cases he
      | 1, _, he => cases he; exact ⟨_, rfl, rfl⟩
      | 2, hk, _ => exact absurd rfl hk
      | 3, _, he => cases he
      | 4, _, he => cases he
      | 5, _, he => cases he
      | 6, _, he => cases he
      | k + 7, _, he => simp at he
    rotate_left
    · have q0 : σ'[0]? = some (some (.ref sa)) := fx 0 _ rfl
      refine ⟨?_, same_of_r (s1.trans s2) np0 r⟩
      match σ', l', q0 with
      | [z0, z1, z2, z3, z4, z5, z6], _, q0 =>
        cases q0
        exact ⟨_, _, _, _, _, _, rfl⟩
    obtain ⟨lg, hlg, l390⟩ : ∃ lg : Nat, selL (.list [.int 60, .int 390]) (.int (if decide ((0 : Int) + (i : Nat) = 0) = true then 1 else 0)) = some (.int (lg : Nat)) ∧ lg ≤ 390 := by
      by_cases z : decide ((0 : Int) + (i : Nat) = 0) = true
      · rw [if_pos z]
        exact ⟨390, rfl, Nat.le_refl _⟩
      · rw [if_neg z]
        exact ⟨60, rfl, by decide⟩
    refine ⟨.int (lg : Nat), hlg, ⟨⟨_, rfl⟩, rfl, a, b, c, 4, 999999, rfl, pn, by decide, by decide, fun a1 b1 c1 j pn1 j0 j1 => ?_⟩⟩
    obtain ⟨mo, lo, hsel, mo1, mo40, lo390⟩ : ∃ mo lo : Nat, selL (.list [.tuple [.int 3, .int 12], .tuple [.int 8, .int 60], .tuple [.int 8, .int 60], .tuple [.int 40, .int (lg : Nat)]]) (.int j) = some (.tuple [.int (mo : Nat), .int (lo : Nat)]) ∧ 1 ≤ mo ∧ mo ≤ 40 ∧ lo ≤ 390 := by
      have c : j = 0 ∨ j = 1 ∨ j = 2 ∨ j = 3 := by omega
      rcases c with rfl | rfl | rfl | rfl
      · exact ⟨3, 12, rfl, by decide, by decide, by decide⟩
      · exact ⟨8, 60, rfl, by decide, by decide, by decide⟩
      · exact ⟨8, 60, rfl, by decide, by decide, by decide⟩
      · exact ⟨40, lg, rfl, by decide, by decide, l390⟩
    refine ⟨_, hsel, ?_⟩
    refine ⟨rfl, ?_⟩
    refine ⟨rfl, ⟨_, rfl⟩, rfl, a1, b1, c1, mo, lo, 900000, rfl, pn1.less (by omega), mo1, mo40, lo390, fun a2 b2 c2 pa L m ly pn2 lm G Ls nd one fewP names => ⟨rfl, ?_⟩⟩
    have lens : (pa.map (·.1)).length = pa.length := List.length_map ..
    have gs : ∀ {pa : Past} {m : Nat}, m ≤ 391 → Grow (pa.map (·.1)) L m pa ly → (∀ j, j < m → L j < 1000000000 ∨ True) → (∀ l ∈ toldP pa, l < 1000000000) → (pa.map (·.1)).Nodup → 1 ≤ pa.length → pa.length ≤ 40 → (∀ q ∈ pa, nameOk q.1 = true) → Good pa ∧ Small pa := fun {pa m} hm G _ Ls nd one few names => by
      have lens : (pa.map (·.1)).length = pa.length := List.length_map ..
      have g : GoodP pa := G.good nd (by omega) (by omega) fun x mx => by
        obtain ⟨q, mq, rfl⟩ := List.mem_map.mp mx
        exact names q mq
      exact ⟨⟨g, by have := G.few; omega⟩, small_letters g Ls, few⟩
    have told : ∀ l ∈ toldP pa, l < 1000000000 := fun l ml => by
      obtain ⟨j, hj, e⟩ := G.from_ l ml
      rw [e]
      exact Ls j hj
    obtain ⟨g1, s1⟩ := gs (by omega) G (fun _ _ => .inr trivial) told nd one (by omega) names
    refine ⟨⟨_, rfl⟩, rfl, a2, b2, c2, 800000, pa, rfl, pn2.less (by omega), g1, s1, fun a3 b3 c3 pn3 => ?_⟩
    have names_kv : (pastKv pa).map (·.1) = (pa.map (·.1)).map .str := by
      unfold pastKv
      rw [List.map_map, List.map_map]
      rfl
    refine ⟨pastKv pa, pa.map (·.1), rfl, isT_past pa, names_kv, by omega, fun ys pmY soY => ?_⟩
    have lkv : (pastKv pa).length = pa.length := List.length_map ..
    refine ⟨⟨_, rfl⟩, pastKv pa, rfl, isT_past pa, rfl, a3, b3, c3, _, 700000, rfl, pn3.less (by omega), by rw [lkv]; omega, by rw [lkv]; omega, fun a4 b4 c4 j2 pn4 j20 j21 => ?_⟩
    rw [lkv] at j21
    obtain ⟨j2, rfl⟩ := Int.eq_ofNat_of_zero_le j20
    have ly : ys.length = pa.length := by rw [pmY.length_eq, lens]
    have lt : j2 < ys.length := by omega
    have ey : ys[j2]? = some (ys[j2]'lt) := List.getElem?_eq_getElem lt
    generalize ys[j2]'lt = hand at ey
    have mh : hand ∈ pa.map (·.1) := pmY.mem_iff.mp (List.mem_of_getElem? ey)
    refine ⟨.str hand, atI_nat (by rw [List.getElem?_map, ey]; rfl), ?_⟩
    obtain ⟨row, hrow, mrow⟩ : ∃ row, look pa hand = some row ∧ (hand, row) ∈ pa := by
      cases q : look pa hand with
      | none => exact absurd mh (look_none_no q)
      | some row => exact ⟨row, rfl, look_some_mem q⟩
    have rl : row.length ≤ 4000 := Nat.le_trans (mem_le_sum (fun q : Str × List Deed => q.2.length) pa _ mrow) g1.2
    refine ⟨⟨_, rfl⟩, pastKv pa, .inr hand, row.map deedD, rfl, isT_past pa, rfl, by rw [dlook_past, hrow]; rfl, 0, .shr, .tuple [.str "keep"], .shr, rfl, rfl, rfl, by rw [List.length_map]; omega, by decide, by decide, .inl rfl, ?_⟩
    have G2 := G.front mh
    have ln2 := front_len hand pa
    obtain ⟨g2, s2⟩ := gs (pa := frontD pa hand) (m := m + 1) (by omega) (by rw [front_names]; exact G2) (fun _ _ => .inr trivial) (by rw [front_told]; exact told) (by rw [front_names]; exact nd) (by omega) (by omega) fun q mq => by
      obtain ⟨q', m', e, _⟩ := front_mem hand pa q mq
      rw [← e]
      exact names q' m'
    refine ⟨⟨_, rfl⟩, rfl, a4, b4, c4, 600000, frontD pa hand, ?_, pn4.less (by omega), g2, s2, fun a5 b5 c5 pn5 => ?_⟩
    · show [potD a4 b4 c4, PyData.dict (dput (pastKv pa) (.str hand) (rowD (.keep :: row)))] = _
      rw [dput_past pa hrow]
      rfl
    · exact trivial
  · rintro σ' H1 ⟨⟨y1, y2, y3, y4, y5, y6, rfl⟩, s1⟩
    exact q _
end
end L2.Fb.Law

namespace L2.Fb.Law
open PySem PySem.Spec
open PyProof.Rows
/-! ### what the top has written -/
theorem mk_is_whole {K : PySem.W.Frag} {h : Heap} {mg : Str → Option Value} {f : Addr} {od an : Option Addr} {sl : Array (Option Value)} {oc kV dc pm cd ct : Value} (X : K.In h) (G : h.Ns mainGlobals mg)
    (a : PySem.W.nsIn K mainGlobals "is_whole" = some (some (.ref f))) (l : K.lookup f = some ⟨oc, od, .func (PySem.W.fnOf "is_whole" "is_whole" (defArgs s_is_whole) (defBody s_is_whole) (defScope s_is_whole) .none kV dc pm an cd ct), sl⟩) (c : PySem.W.codeIn K cd "is_whole" = true) (k : PySem.W.keepIn K (.ref f) = true) :
    Dfn K mg "is_whole" s_is_whole P_is_whole := ⟨f, _, fun_mk l c k, (fun_mk (st := s_is_whole) l c k).binds (ps := ["thing"]) fun _ _ _ _ _ _ us hl => (match us, hl with | [_], _ => rfl), PySem.W.mg_of X G a⟩
theorem mk_is_name {K : PySem.W.Frag} {h : Heap} {mg : Str → Option Value} {f : Addr} {od an : Option Addr} {sl : Array (Option Value)} {oc kV dc pm cd ct : Value} (X : K.In h) (G : h.Ns mainGlobals mg)
    (a : PySem.W.nsIn K mainGlobals "is_name" = some (some (.ref f))) (l : K.lookup f = some ⟨oc, od, .func (PySem.W.fnOf "is_name" "is_name" (defArgs s_is_name) (defBody s_is_name) (defScope s_is_name) .none kV dc pm an cd ct), sl⟩) (c : PySem.W.codeIn K cd "is_name" = true) (k : PySem.W.keepIn K (.ref f) = true) :
    Dfn K mg "is_name" s_is_name P_is_name := ⟨f, _, fun_mk l c k, (fun_mk (st := s_is_name) l c k).binds (ps := ["thing"]) fun _ _ _ _ _ _ us hl => (match us, hl with | [_], _ => rfl), PySem.W.mg_of X G a⟩
theorem mk_is_hand {K : PySem.W.Frag} {h : Heap} {mg : Str → Option Value} {f : Addr} {od an : Option Addr} {sl : Array (Option Value)} {oc kV dc pm cd ct : Value} (X : K.In h) (G : h.Ns mainGlobals mg)
    (a : PySem.W.nsIn K mainGlobals "is_hand" = some (some (.ref f))) (l : K.lookup f = some ⟨oc, od, .func (PySem.W.fnOf "is_hand" "is_hand" (defArgs s_is_hand) (defBody s_is_hand) (defScope s_is_hand) .none kV dc pm an cd ct), sl⟩) (c : PySem.W.codeIn K cd "is_hand" = true) (k : PySem.W.keepIn K (.ref f) = true) :
    Dfn K mg "is_hand" s_is_hand P_is_hand := ⟨f, _, fun_mk l c k, (fun_mk (st := s_is_hand) l c k).binds (ps := ["past", "thing"]) fun _ _ _ _ _ _ us hl => (match us, hl with | [_, _], _ => rfl), PySem.W.mg_of X G a⟩
theorem mk_hearers_of {K : PySem.W.Frag} {h : Heap} {mg : Str → Option Value} {f : Addr} {od an : Option Addr} {sl : Array (Option Value)} {oc kV dc pm cd ct : Value} (X : K.In h) (G : h.Ns mainGlobals mg)
    (a : PySem.W.nsIn K mainGlobals "hearers_of" = some (some (.ref f))) (l : K.lookup f = some ⟨oc, od, .func (PySem.W.fnOf "hearers_of" "hearers_of" (defArgs s_hearers_of) (defBody s_hearers_of) (defScope s_hearers_of) .none kV dc pm an cd ct), sl⟩) (c : PySem.W.codeIn K cd "hearers_of" = true) (k : PySem.W.keepIn K (.ref f) = true) :
    Dfn K mg "hearers_of" s_hearers_of P_hearers_of := ⟨f, _, fun_mk l c k, (fun_mk (st := s_hearers_of) l c k).binds (ps := ["past"]) fun _ _ _ _ _ _ us hl => (match us, hl with | [_], _ => rfl), PySem.W.mg_of X G a⟩
theorem mk_is_past {K : PySem.W.Frag} {h : Heap} {mg : Str → Option Value} {f : Addr} {od an : Option Addr} {sl : Array (Option Value)} {oc kV dc pm cd ct : Value} (X : K.In h) (G : h.Ns mainGlobals mg)
    (a : PySem.W.nsIn K mainGlobals "is_past" = some (some (.ref f))) (l : K.lookup f = some ⟨oc, od, .func (PySem.W.fnOf "is_past" "is_past" (defArgs s_is_past) (defBody s_is_past) (defScope s_is_past) .none kV dc pm an cd ct), sl⟩) (c : PySem.W.codeIn K cd "is_past" = true) (k : PySem.W.keepIn K (.ref f) = true) :
    Dfn K mg "is_past" s_is_past P_is_past := ⟨f, _, fun_mk l c k, (fun_mk (st := s_is_past) l c k).binds (ps := ["thing"]) fun _ _ _ _ _ _ us hl => (match us, hl with | [_], _ => rfl), PySem.W.mg_of X G a⟩
theorem mk_check_past {K : PySem.W.Frag} {h : Heap} {mg : Str → Option Value} {f : Addr} {od an : Option Addr} {sl : Array (Option Value)} {oc kV dc pm cd ct : Value} (X : K.In h) (G : h.Ns mainGlobals mg)
    (a : PySem.W.nsIn K mainGlobals "check_past" = some (some (.ref f))) (l : K.lookup f = some ⟨oc, od, .func (PySem.W.fnOf "check_past" "check_past" (defArgs s_check_past) (defBody s_check_past) (defScope s_check_past) .none kV dc pm an cd ct), sl⟩) (c : PySem.W.codeIn K cd "check_past" = true) (k : PySem.W.keepIn K (.ref f) = true) :
    Dfn K mg "check_past" s_check_past P_check_past := ⟨f, _, fun_mk l c k, (fun_mk (st := s_check_past) l c k).binds (ps := ["thing"]) fun _ _ _ _ _ _ us hl => (match us, hl with | [_], _ => rfl), PySem.W.mg_of X G a⟩
theorem mk__is_row {K : PySem.W.Frag} {h : Heap} {mg : Str → Option Value} {f : Addr} {od an : Option Addr} {sl : Array (Option Value)} {oc kV dc pm cd ct : Value} (X : K.In h) (G : h.Ns mainGlobals mg)
    (a : PySem.W.nsIn K mainGlobals "_is_row" = some (some (.ref f))) (l : K.lookup f = some ⟨oc, od, .func (PySem.W.fnOf "_is_row" "_is_row" (defArgs s__is_row) (defBody s__is_row) (defScope s__is_row) .none kV dc pm an cd ct), sl⟩) (c : PySem.W.codeIn K cd "_is_row" = true) (k : PySem.W.keepIn K (.ref f) = true) :
    Dfn K mg "_is_row" s__is_row P__is_row := ⟨f, _, fun_mk l c k, (fun_mk (st := s__is_row) l c k).binds (ps := ["past", "hand"]) fun _ _ _ _ _ _ us hl => (match us, hl with | [_, _], _ => rfl), PySem.W.mg_of X G a⟩
theorem mk__is_deed {K : PySem.W.Frag} {h : Heap} {mg : Str → Option Value} {f : Addr} {od an : Option Addr} {sl : Array (Option Value)} {oc kV dc pm cd ct : Value} (X : K.In h) (G : h.Ns mainGlobals mg)
    (a : PySem.W.nsIn K mainGlobals "_is_deed" = some (some (.ref f))) (l : K.lookup f = some ⟨oc, od, .func (PySem.W.fnOf "_is_deed" "_is_deed" (defArgs s__is_deed) (defBody s__is_deed) (defScope s__is_deed) .none kV dc pm an cd ct), sl⟩) (c : PySem.W.codeIn K cd "_is_deed" = true) (k : PySem.W.keepIn K (.ref f) = true) :
    Dfn K mg "_is_deed" s__is_deed P__is_deed := ⟨f, _, fun_mk l c k, (fun_mk (st := s__is_deed) l c k).binds (ps := ["past", "hand", "thing"]) fun _ _ _ _ _ _ us hl => (match us, hl with | [_, _, _], _ => rfl), PySem.W.mg_of X G a⟩
theorem mk__is_letter {K : PySem.W.Frag} {h : Heap} {mg : Str → Option Value} {f : Addr} {od an : Option Addr} {sl : Array (Option Value)} {oc kV dc pm cd ct : Value} (X : K.In h) (G : h.Ns mainGlobals mg)
    (a : PySem.W.nsIn K mainGlobals "_is_letter" = some (some (.ref f))) (l : K.lookup f = some ⟨oc, od, .func (PySem.W.fnOf "_is_letter" "_is_letter" (defArgs s__is_letter) (defBody s__is_letter) (defScope s__is_letter) .none kV dc pm an cd ct), sl⟩) (c : PySem.W.codeIn K cd "_is_letter" = true) (k : PySem.W.keepIn K (.ref f) = true) :
    Dfn K mg "_is_letter" s__is_letter P__is_letter := ⟨f, _, fun_mk l c k, (fun_mk (st := s__is_letter) l c k).binds (ps := ["thing"]) fun _ _ _ _ _ _ us hl => (match us, hl with | [_], _ => rfl), PySem.W.mg_of X G a⟩
theorem mk__is_other {K : PySem.W.Frag} {h : Heap} {mg : Str → Option Value} {f : Addr} {od an : Option Addr} {sl : Array (Option Value)} {oc kV dc pm cd ct : Value} (X : K.In h) (G : h.Ns mainGlobals mg)
    (a : PySem.W.nsIn K mainGlobals "_is_other" = some (some (.ref f))) (l : K.lookup f = some ⟨oc, od, .func (PySem.W.fnOf "_is_other" "_is_other" (defArgs s__is_other) (defBody s__is_other) (defScope s__is_other) .none kV dc pm an cd ct), sl⟩) (c : PySem.W.codeIn K cd "_is_other" = true) (k : PySem.W.keepIn K (.ref f) = true) :
    Dfn K mg "_is_other" s__is_other P__is_other := ⟨f, _, fun_mk l c k, (fun_mk (st := s__is_other) l c k).binds (ps := ["past", "hand", "thing"]) fun _ _ _ _ _ _ us hl => (match us, hl with | [_, _, _], _ => rfl), PySem.W.mg_of X G a⟩
theorem mk__told_once {K : PySem.W.Frag} {h : Heap} {mg : Str → Option Value} {f : Addr} {od an : Option Addr} {sl : Array (Option Value)} {oc kV dc pm cd ct : Value} (X : K.In h) (G : h.Ns mainGlobals mg)
    (a : PySem.W.nsIn K mainGlobals "_told_once" = some (some (.ref f))) (l : K.lookup f = some ⟨oc, od, .func (PySem.W.fnOf "_told_once" "_told_once" (defArgs s__told_once) (defBody s__told_once) (defScope s__told_once) .none kV dc pm an cd ct), sl⟩) (c : PySem.W.codeIn K cd "_told_once" = true) (k : PySem.W.keepIn K (.ref f) = true) :
    Dfn K mg "_told_once" s__told_once P__told_once := ⟨f, _, fun_mk l c k, (fun_mk (st := s__told_once) l c k).binds (ps := ["past"]) fun _ _ _ _ _ _ us hl => (match us, hl with | [_], _ => rfl), PySem.W.mg_of X G a⟩
theorem mk__heard_once {K : PySem.W.Frag} {h : Heap} {mg : Str → Option Value} {f : Addr} {od an : Option Addr} {sl : Array (Option Value)} {oc kV dc pm cd ct : Value} (X : K.In h) (G : h.Ns mainGlobals mg)
    (a : PySem.W.nsIn K mainGlobals "_heard_once" = some (some (.ref f))) (l : K.lookup f = some ⟨oc, od, .func (PySem.W.fnOf "_heard_once" "_heard_once" (defArgs s__heard_once) (defBody s__heard_once) (defScope s__heard_once) .none kV dc pm an cd ct), sl⟩) (c : PySem.W.codeIn K cd "_heard_once" = true) (k : PySem.W.keepIn K (.ref f) = true) :
    Dfn K mg "_heard_once" s__heard_once P__heard_once := ⟨f, _, fun_mk l c k, (fun_mk (st := s__heard_once) l c k).binds (ps := ["past"]) fun _ _ _ _ _ _ us hl => (match us, hl with | [_], _ => rfl), PySem.W.mg_of X G a⟩
theorem mk__can_have_come {K : PySem.W.Frag} {h : Heap} {mg : Str → Option Value} {f : Addr} {od an : Option Addr} {sl : Array (Option Value)} {oc kV dc pm cd ct : Value} (X : K.In h) (G : h.Ns mainGlobals mg)
    (a : PySem.W.nsIn K mainGlobals "_can_have_come" = some (some (.ref f))) (l : K.lookup f = some ⟨oc, od, .func (PySem.W.fnOf "_can_have_come" "_can_have_come" (defArgs s__can_have_come) (defBody s__can_have_come) (defScope s__can_have_come) .none kV dc pm an cd ct), sl⟩) (c : PySem.W.codeIn K cd "_can_have_come" = true) (k : PySem.W.keepIn K (.ref f) = true) :
    Dfn K mg "_can_have_come" s__can_have_come P__can_have_come := ⟨f, _, fun_mk l c k, (fun_mk (st := s__can_have_come) l c k).binds (ps := ["past"]) fun _ _ _ _ _ _ us hl => (match us, hl with | [_], _ => rfl), PySem.W.mg_of X G a⟩
theorem mk__order_found {K : PySem.W.Frag} {h : Heap} {mg : Str → Option Value} {f : Addr} {od an : Option Addr} {sl : Array (Option Value)} {oc kV dc pm cd ct : Value} (X : K.In h) (G : h.Ns mainGlobals mg)
    (a : PySem.W.nsIn K mainGlobals "_order_found" = some (some (.ref f))) (l : K.lookup f = some ⟨oc, od, .func (PySem.W.fnOf "_order_found" "_order_found" (defArgs s__order_found) (defBody s__order_found) (defScope s__order_found) .none kV dc pm an cd ct), sl⟩) (c : PySem.W.codeIn K cd "_order_found" = true) (k : PySem.W.keepIn K (.ref f) = true) :
    Dfn K mg "_order_found" s__order_found P__order_found := ⟨f, _, fun_mk l c k, (fun_mk (st := s__order_found) l c k).binds (ps := ["past"]) fun _ _ _ _ _ _ us hl => (match us, hl with | [_], _ => rfl), PySem.W.mg_of X G a⟩
theorem mk__run_on {K : PySem.W.Frag} {h : Heap} {mg : Str → Option Value} {f : Addr} {od an : Option Addr} {sl : Array (Option Value)} {oc kV dc pm cd ct : Value} (X : K.In h) (G : h.Ns mainGlobals mg)
    (a : PySem.W.nsIn K mainGlobals "_run_on" = some (some (.ref f))) (l : K.lookup f = some ⟨oc, od, .func (PySem.W.fnOf "_run_on" "_run_on" (defArgs s__run_on) (defBody s__run_on) (defScope s__run_on) .none kV dc pm an cd ct), sl⟩) (c : PySem.W.codeIn K cd "_run_on" = true) (k : PySem.W.keepIn K (.ref f) = true) :
    Dfn K mg "_run_on" s__run_on P__run_on := ⟨f, _, fun_mk l c k, (fun_mk (st := s__run_on) l c k).binds (ps := ["row", "start", "told"]) fun _ _ _ _ _ _ us hl => (match us, hl with | [_, _, _], _ => rfl), PySem.W.mg_of X G a⟩
theorem mk_present_of {K : PySem.W.Frag} {h : Heap} {mg : Str → Option Value} {f : Addr} {od an : Option Addr} {sl : Array (Option Value)} {oc kV dc pm cd ct : Value} (X : K.In h) (G : h.Ns mainGlobals mg)
    (a : PySem.W.nsIn K mainGlobals "present_of" = some (some (.ref f))) (l : K.lookup f = some ⟨oc, od, .func (PySem.W.fnOf "present_of" "present_of" (defArgs s_present_of) (defBody s_present_of) (defScope s_present_of) .none kV dc pm an cd ct), sl⟩) (c : PySem.W.codeIn K cd "present_of" = true) (k : PySem.W.keepIn K (.ref f) = true) :
    Dfn K mg "present_of" s_present_of P_present_of := ⟨f, _, fun_mk l c k, (fun_mk (st := s_present_of) l c k).binds (ps := ["past", "hand"]) fun _ _ _ _ _ _ us hl => (match us, hl with | [_, _], _ => rfl), PySem.W.mg_of X G a⟩
theorem mk__parts_of {K : PySem.W.Frag} {h : Heap} {mg : Str → Option Value} {f : Addr} {od an : Option Addr} {sl : Array (Option Value)} {oc kV dc pm cd ct : Value} (X : K.In h) (G : h.Ns mainGlobals mg)
    (a : PySem.W.nsIn K mainGlobals "_parts_of" = some (some (.ref f))) (l : K.lookup f = some ⟨oc, od, .func (PySem.W.fnOf "_parts_of" "_parts_of" (defArgs s__parts_of) (defBody s__parts_of) (defScope s__parts_of) .none kV dc pm an cd ct), sl⟩) (c : PySem.W.codeIn K cd "_parts_of" = true) (k : PySem.W.keepIn K (.ref f) = true) :
    Dfn K mg "_parts_of" s__parts_of P__parts_of := ⟨f, _, fun_mk l c k, (fun_mk (st := s__parts_of) l c k).binds (ps := ["past", "word"]) fun _ _ _ _ _ _ us hl => (match us, hl with | [_, _], _ => rfl), PySem.W.mg_of X G a⟩
theorem mk_tellings {K : PySem.W.Frag} {h : Heap} {mg : Str → Option Value} {f : Addr} {od an : Option Addr} {sl : Array (Option Value)} {oc kV dc pm cd ct : Value} (X : K.In h) (G : h.Ns mainGlobals mg)
    (a : PySem.W.nsIn K mainGlobals "tellings" = some (some (.ref f))) (l : K.lookup f = some ⟨oc, od, .func (PySem.W.fnOf "tellings" "tellings" (defArgs s_tellings) (defBody s_tellings) (defScope s_tellings) .none kV dc pm an cd ct), sl⟩) (c : PySem.W.codeIn K cd "tellings" = true) (k : PySem.W.keepIn K (.ref f) = true) :
    Dfn K mg "tellings" s_tellings P_tellings := ⟨f, _, fun_mk l c k, (fun_mk (st := s_tellings) l c k).binds (ps := ["past"]) fun _ _ _ _ _ _ us hl => (match us, hl with | [_], _ => rfl), PySem.W.mg_of X G a⟩
theorem mk_hearings {K : PySem.W.Frag} {h : Heap} {mg : Str → Option Value} {f : Addr} {od an : Option Addr} {sl : Array (Option Value)} {oc kV dc pm cd ct : Value} (X : K.In h) (G : h.Ns mainGlobals mg)
    (a : PySem.W.nsIn K mainGlobals "hearings" = some (some (.ref f))) (l : K.lookup f = some ⟨oc, od, .func (PySem.W.fnOf "hearings" "hearings" (defArgs s_hearings) (defBody s_hearings) (defScope s_hearings) .none kV dc pm an cd ct), sl⟩) (c : PySem.W.codeIn K cd "hearings" = true) (k : PySem.W.keepIn K (.ref f) = true) :
    Dfn K mg "hearings" s_hearings P_hearings := ⟨f, _, fun_mk l c k, (fun_mk (st := s_hearings) l c k).binds (ps := ["past"]) fun _ _ _ _ _ _ us hl => (match us, hl with | [_], _ => rfl), PySem.W.mg_of X G a⟩
theorem mk_presents {K : PySem.W.Frag} {h : Heap} {mg : Str → Option Value} {f : Addr} {od an : Option Addr} {sl : Array (Option Value)} {oc kV dc pm cd ct : Value} (X : K.In h) (G : h.Ns mainGlobals mg)
    (a : PySem.W.nsIn K mainGlobals "presents" = some (some (.ref f))) (l : K.lookup f = some ⟨oc, od, .func (PySem.W.fnOf "presents" "presents" (defArgs s_presents) (defBody s_presents) (defScope s_presents) .none kV dc pm an cd ct), sl⟩) (c : PySem.W.codeIn K cd "presents" = true) (k : PySem.W.keepIn K (.ref f) = true) :
    Dfn K mg "presents" s_presents P_presents := ⟨f, _, fun_mk l c k, (fun_mk (st := s_presents) l c k).binds (ps := ["past"]) fun _ _ _ _ _ _ us hl => (match us, hl with | [_], _ => rfl), PySem.W.mg_of X G a⟩
theorem mk__tale {K : PySem.W.Frag} {h : Heap} {mg : Str → Option Value} {f : Addr} {od an : Option Addr} {sl : Array (Option Value)} {oc kV dc pm cd ct : Value} (X : K.In h) (G : h.Ns mainGlobals mg)
    (a : PySem.W.nsIn K mainGlobals "_tale" = some (some (.ref f))) (l : K.lookup f = some ⟨oc, od, .func (PySem.W.fnOf "_tale" "_tale" (defArgs s__tale) (defBody s__tale) (defScope s__tale) .none kV dc pm an cd ct), sl⟩) (c : PySem.W.codeIn K cd "_tale" = true) (k : PySem.W.keepIn K (.ref f) = true) :
    Dfn K mg "_tale" s__tale P__tale := ⟨f, _, fun_mk l c k, (fun_mk (st := s__tale) l c k).binds (ps := ["past", "letter"]) fun _ _ _ _ _ _ us hl => (match us, hl with | [_, _], _ => rfl), PySem.W.mg_of X G a⟩
theorem mk_told_in {K : PySem.W.Frag} {h : Heap} {mg : Str → Option Value} {f : Addr} {od an : Option Addr} {sl : Array (Option Value)} {oc kV dc pm cd ct : Value} (X : K.In h) (G : h.Ns mainGlobals mg)
    (a : PySem.W.nsIn K mainGlobals "told_in" = some (some (.ref f))) (l : K.lookup f = some ⟨oc, od, .func (PySem.W.fnOf "told_in" "told_in" (defArgs s_told_in) (defBody s_told_in) (defScope s_told_in) .none kV dc pm an cd ct), sl⟩) (c : PySem.W.codeIn K cd "told_in" = true) (k : PySem.W.keepIn K (.ref f) = true) :
    Dfn K mg "told_in" s_told_in P_told_in := ⟨f, _, fun_mk l c k, (fun_mk (st := s_told_in) l c k).binds (ps := ["past", "letter"]) fun _ _ _ _ _ _ us hl => (match us, hl with | [_, _], _ => rfl), PySem.W.mg_of X G a⟩
theorem mk_heard_in {K : PySem.W.Frag} {h : Heap} {mg : Str → Option Value} {f : Addr} {od an : Option Addr} {sl : Array (Option Value)} {oc kV dc pm cd ct : Value} (X : K.In h) (G : h.Ns mainGlobals mg)
    (a : PySem.W.nsIn K mainGlobals "heard_in" = some (some (.ref f))) (l : K.lookup f = some ⟨oc, od, .func (PySem.W.fnOf "heard_in" "heard_in" (defArgs s_heard_in) (defBody s_heard_in) (defScope s_heard_in) .none kV dc pm an cd ct), sl⟩) (c : PySem.W.codeIn K cd "heard_in" = true) (k : PySem.W.keepIn K (.ref f) = true) :
    Dfn K mg "heard_in" s_heard_in P_heard_in := ⟨f, _, fun_mk l c k, (fun_mk (st := s_heard_in) l c k).binds (ps := ["past", "letter"]) fun _ _ _ _ _ _ us hl => (match us, hl with | [_, _], _ => rfl), PySem.W.mg_of X G a⟩
theorem mk_letters_lying {K : PySem.W.Frag} {h : Heap} {mg : Str → Option Value} {f : Addr} {od an : Option Addr} {sl : Array (Option Value)} {oc kV dc pm cd ct : Value} (X : K.In h) (G : h.Ns mainGlobals mg)
    (a : PySem.W.nsIn K mainGlobals "letters_lying" = some (some (.ref f))) (l : K.lookup f = some ⟨oc, od, .func (PySem.W.fnOf "letters_lying" "letters_lying" (defArgs s_letters_lying) (defBody s_letters_lying) (defScope s_letters_lying) .none kV dc pm an cd ct), sl⟩) (c : PySem.W.codeIn K cd "letters_lying" = true) (k : PySem.W.keepIn K (.ref f) = true) :
    Dfn K mg "letters_lying" s_letters_lying P_letters_lying := ⟨f, _, fun_mk l c k, (fun_mk (st := s_letters_lying) l c k).binds (ps := ["past"]) fun _ _ _ _ _ _ us hl => (match us, hl with | [_], _ => rfl), PySem.W.mg_of X G a⟩
theorem mk__law_pot {K : PySem.W.Frag} {h : Heap} {mg : Str → Option Value} {f : Addr} {od an : Option Addr} {sl : Array (Option Value)} {oc kV dc pm cd ct : Value} (X : K.In h) (G : h.Ns mainGlobals mg)
    (a : PySem.W.nsIn K mainGlobals "_law_pot" = some (some (.ref f))) (l : K.lookup f = some ⟨oc, od, .func (PySem.W.fnOf "_law_pot" "_law_pot" (defArgs s__law_pot) (defBody s__law_pot) (defScope s__law_pot) .none kV dc pm an cd ct), sl⟩) (c : PySem.W.codeIn K cd "_law_pot" = true) (k : PySem.W.keepIn K (.ref f) = true) :
    Dfn K mg "_law_pot" s__law_pot P__law_pot := ⟨f, _, fun_mk l c k, (fun_mk (st := s__law_pot) l c k).binds (ps := ["script", "k"]) fun _ _ _ _ _ _ us hl => (match us, hl with | [_, _], _ => rfl), PySem.W.mg_of X G a⟩
theorem mk__law_dip {K : PySem.W.Frag} {h : Heap} {mg : Str → Option Value} {f : Addr} {od an : Option Addr} {sl : Array (Option Value)} {oc kV dc pm cd ct : Value} (X : K.In h) (G : h.Ns mainGlobals mg)
    (a : PySem.W.nsIn K mainGlobals "_law_dip" = some (some (.ref f))) (l : K.lookup f = some ⟨oc, od, .func (PySem.W.fnOf "_law_dip" "_law_dip" (defArgs s__law_dip) (defBody s__law_dip) (defScope s__law_dip) .none kV dc pm an cd ct), sl⟩) (c : PySem.W.codeIn K cd "_law_dip" = true) (k : PySem.W.keepIn K (.ref f) = true) :
    Dfn K mg "_law_dip" s__law_dip P__law_dip := ⟨f, _, fun_mk l c k, (fun_mk (st := s__law_dip) l c k).binds (ps := ["pot", "many"]) fun _ _ _ _ _ _ us hl => (match us, hl with | [_, _], _ => rfl), PySem.W.mg_of X G a⟩
theorem mk__law_names {K : PySem.W.Frag} {h : Heap} {mg : Str → Option Value} {f : Addr} {od an : Option Addr} {sl : Array (Option Value)} {oc kV dc pm cd ct : Value} (X : K.In h) (G : h.Ns mainGlobals mg)
    (a : PySem.W.nsIn K mainGlobals "_law_names" = some (some (.ref f))) (l : K.lookup f = some ⟨oc, od, .func (PySem.W.fnOf "_law_names" "_law_names" (defArgs s__law_names) (defBody s__law_names) (defScope s__law_names) .none kV dc pm an cd ct), sl⟩) (c : PySem.W.codeIn K cd "_law_names" = true) (k : PySem.W.keepIn K (.ref f) = true) :
    Dfn K mg "_law_names" s__law_names P__law_names := ⟨f, _, fun_mk l c k, (fun_mk (st := s__law_names) l c k).binds (ps := ["pot", "many"]) fun _ _ _ _ _ _ us hl => (match us, hl with | [_, _], _ => rfl), PySem.W.mg_of X G a⟩
theorem mk__law_past {K : PySem.W.Frag} {h : Heap} {mg : Str → Option Value} {f : Addr} {od an : Option Addr} {sl : Array (Option Value)} {oc kV dc pm cd ct : Value} (X : K.In h) (G : h.Ns mainGlobals mg)
    (a : PySem.W.nsIn K mainGlobals "_law_past" = some (some (.ref f))) (l : K.lookup f = some ⟨oc, od, .func (PySem.W.fnOf "_law_past" "_law_past" (defArgs s__law_past) (defBody s__law_past) (defScope s__law_past) .none kV dc pm an cd ct), sl⟩) (c : PySem.W.codeIn K cd "_law_past" = true) (k : PySem.W.keepIn K (.ref f) = true) :
    Dfn K mg "_law_past" s__law_past P__law_past := ⟨f, _, fun_mk l c k, (fun_mk (st := s__law_past) l c k).binds (ps := ["pot", "most", "long"]) fun _ _ _ _ _ _ us hl => (match us, hl with | [_, _, _], _ => rfl), PySem.W.mg_of X G a⟩
theorem mk__law_where {K : PySem.W.Frag} {h : Heap} {mg : Str → Option Value} {f : Addr} {od an : Option Addr} {sl : Array (Option Value)} {oc kV dc pm cd ct : Value} (X : K.In h) (G : h.Ns mainGlobals mg)
    (a : PySem.W.nsIn K mainGlobals "_law_where" = some (some (.ref f))) (l : K.lookup f = some ⟨oc, od, .func (PySem.W.fnOf "_law_where" "_law_where" (defArgs s__law_where) (defBody s__law_where) (defScope s__law_where) .none kV dc pm an cd ct), sl⟩) (c : PySem.W.codeIn K cd "_law_where" = true) (k : PySem.W.keepIn K (.ref f) = true) :
    Dfn K mg "_law_where" s__law_where P__law_where := ⟨f, _, fun_mk l c k, (fun_mk (st := s__law_where) l c k).binds (ps := ["rows"]) fun _ _ _ _ _ _ us hl => (match us, hl with | [_], _ => rfl), PySem.W.mg_of X G a⟩
theorem mk__law_some {K : PySem.W.Frag} {h : Heap} {mg : Str → Option Value} {f : Addr} {od an : Option Addr} {sl : Array (Option Value)} {oc kV dc pm cd ct : Value} (X : K.In h) (G : h.Ns mainGlobals mg)
    (a : PySem.W.nsIn K mainGlobals "_law_some" = some (some (.ref f))) (l : K.lookup f = some ⟨oc, od, .func (PySem.W.fnOf "_law_some" "_law_some" (defArgs s__law_some) (defBody s__law_some) (defScope s__law_some) .none kV dc pm an cd ct), sl⟩) (c : PySem.W.codeIn K cd "_law_some" = true) (k : PySem.W.keepIn K (.ref f) = true) :
    Dfn K mg "_law_some" s__law_some P__law_some := ⟨f, _, fun_mk l c k, (fun_mk (st := s__law_some) l c k).binds (ps := ["pot", "letters"]) fun _ _ _ _ _ _ us hl => (match us, hl with | [_, _], _ => rfl), PySem.W.mg_of X G a⟩
theorem mk__law_right {K : PySem.W.Frag} {h : Heap} {mg : Str → Option Value} {f : Addr} {od an : Option Addr} {sl : Array (Option Value)} {oc kV dc pm cd ct : Value} (X : K.In h) (G : h.Ns mainGlobals mg)
    (a : PySem.W.nsIn K mainGlobals "_law_right" = some (some (.ref f))) (l : K.lookup f = some ⟨oc, od, .func (PySem.W.fnOf "_law_right" "_law_right" (defArgs s__law_right) (defBody s__law_right) (defScope s__law_right) .none kV dc pm an cd ct), sl⟩) (c : PySem.W.codeIn K cd "_law_right" = true) (k : PySem.W.keepIn K (.ref f) = true) :
    Dfn K mg "_law_right" s__law_right P__law_right := ⟨f, _, fun_mk l c k, (fun_mk (st := s__law_right) l c k).binds (ps := ["pot", "rows"]) fun _ _ _ _ _ _ us hl => (match us, hl with | [_, _], _ => rfl), PySem.W.mg_of X G a⟩
theorem all_mk {l : PySem.W.OpenLaw} {w : World} {K : PySem.W.Frag} {h : Heap} {mg : Str → Option Value} {fa f : Addr} {od an : Option Addr} {sl : Array (Option Value)} {oc kV dc pm cd ct : Value} (X : K.In h) (G : h.Ns mainGlobals mg) (hfa : mg "law" = some (.ref fa)) (T : TxtL mg)
    (D_is_whole : Dfn K mg "is_whole" s_is_whole P_is_whole) (D_is_name : Dfn K mg "is_name" s_is_name P_is_name) (D_is_hand : Dfn K mg "is_hand" s_is_hand P_is_hand) (D_hearers_of : Dfn K mg "hearers_of" s_hearers_of P_hearers_of) (D_is_past : Dfn K mg "is_past" s_is_past P_is_past) (D_check_past : Dfn K mg "check_past" s_check_past P_check_past) (D__is_row : Dfn K mg "_is_row" s__is_row P__is_row) (D__is_deed : Dfn K mg "_is_deed" s__is_deed P__is_deed) (D__is_letter : Dfn K mg "_is_letter" s__is_letter P__is_letter) (D__is_other : Dfn K mg "_is_other" s__is_other P__is_other) (D__told_once : Dfn K mg "_told_once" s__told_once P__told_once) (D__heard_once : Dfn K mg "_heard_once" s__heard_once P__heard_once) (D__can_have_come : Dfn K mg "_can_have_come" s__can_have_come P__can_have_come) (D__order_found : Dfn K mg "_order_found" s__order_found P__order_found) (D__run_on : Dfn K mg "_run_on" s__run_on P__run_on) (D_present_of : Dfn K mg "present_of" s_present_of P_present_of) (D__parts_of : Dfn K mg "_parts_of" s__parts_of P__parts_of) (D_tellings : Dfn K mg "tellings" s_tellings P_tellings) (D_hearings : Dfn K mg "hearings" s_hearings P_hearings) (D_presents : Dfn K mg "presents" s_presents P_presents) (D__tale : Dfn K mg "_tale" s__tale P__tale) (D_told_in : Dfn K mg "told_in" s_told_in P_told_in) (D_heard_in : Dfn K mg "heard_in" s_heard_in P_heard_in) (D_letters_lying : Dfn K mg "letters_lying" s_letters_lying P_letters_lying) (D__law_pot : Dfn K mg "_law_pot" s__law_pot P__law_pot) (D__law_dip : Dfn K mg "_law_dip" s__law_dip P__law_dip) (D__law_names : Dfn K mg "_law_names" s__law_names P__law_names) (D__law_past : Dfn K mg "_law_past" s__law_past P__law_past) (D__law_where : Dfn K mg "_law_where" s__law_where P__law_where) (D__law_some : Dfn K mg "_law_some" s__law_some P__law_some) (D__law_right : Dfn K mg "_law_right" s__law_right P__law_right) 
    (a : PySem.W.nsIn K mainGlobals "law" = some (some (.ref f))) (lk : K.lookup f = some ⟨oc, od, .func (PySem.W.fnOf "law" "law" (defArgs s_law) (defBody s_law) (defScope s_law) .none kV dc pm an cd ct), sl⟩) (c : PySem.W.codeIn K cd "law" = true) (k : PySem.W.keepIn K (.ref f) = true) :
    ∃ fd : FuncData, (∀ (s : Shared) (v : Value), BindsTo s fd ⟨[v], []⟩ [("script", v)]) ∧ ∀ base : Heap, K.In base → base.Ns mainGlobals mg → FnG l.prog w K mg base CX0 10 fa fd ["script"] (sp_law3 K) := by
  have e := hfa.symm.trans (PySem.W.mg_of X G a)
  cases e
  refine ⟨PySem.W.fnOf "law" "law" (defArgs s_law) (defBody s_law) (defScope s_law) .none kV dc pm an cd ct, fun s v => .of_eq rfl, fun base _ _ => ?_⟩
  have t := T.toTxt
  have whole := ok_is_whole (P := l.prog) (w := w) (base := base) D_is_whole t
  have name := ok_is_name (P := l.prog) (w := w) (base := base) D_is_name t
  have letter := ok_is_letter D__is_letter whole
  have hand := ok_is_hand D_is_hand name
  have other := ok_is_other D__is_other hand
  have deed := ok_is_deed D__is_deed t letter other
  have row := ok_is_row D__is_row t deed
  have told := ok_told_once (P := l.prog) (w := w) (base := base) D__told_once t
  have hearers := ok_hearers_of (P := l.prog) (w := w) (base := base) D_hearers_of t
  have heard := ok_heard_once D__heard_once hearers
  have run := ok_run_on (P := l.prog) (w := w) (base := base) D__run_on t
  have ofd := ok_order_found D__order_found t run
  have come := ok_can_have_come D__can_have_come t ofd
  have past := ok_is_past D_is_past t name row told heard come
  have check := ok_check_past D_check_past past
  have present := ok_present_of (P := l.prog) (w := w) (base := base) D_present_of t
  have parts := ok_parts_of (P := l.prog) (w := w) (base := base) D__parts_of t
  have tellings := ok_tellings D_tellings parts
  have hearings := ok_hearings D_hearings parts
  have presents := presents3 (ok_presents D_presents t check present)
  have tale := ok_tale D__tale t whole tellings
  have toldin := told3 (ok_told_in D_told_in check tale)
  have heardin := heard3 (ok_heard_in D_heard_in check tale hearings)
  have lying := lying3 (ok_letters_lying D_letters_lying t check tellings hearings)
  have place := where3 (ok_where (P := l.prog) (w := w) (base := base) D__law_where T)
  have pot := ok_pot (P := l.prog) (w := w) (base := base) D__law_pot T
  have dip := ok_dip (P := l.prog) (w := w) (base := base) D__law_dip T
  have names := ok_names D__law_names T dip
  have pasts := past3 (ok_past D__law_past T dip names)
  have some_ := ok_some D__law_some T (dip3 dip)
  have right := ok_right D__law_right T presents lying toldin heardin place some_
  exact ok_law (fun_mk (st := s_law) lk c k) T pot (dip3 dip) pasts right
theorem txt_mk {K : PySem.W.Frag} {h : Heap} {mg : Str → Option Value} (X : K.In h) (G : h.Ns mainGlobals mg)
    (z_isinstance : PySem.W.nsIn K mainGlobals "isinstance" = some none) (z_len : PySem.W.nsIn K mainGlobals "len" = some none) (z_all : PySem.W.nsIn K mainGlobals "all" = some none) (z_sum : PySem.W.nsIn K mainGlobals "sum" = some none) (z_set : PySem.W.nsIn K mainGlobals "set" = some none) (z_sorted : PySem.W.nsIn K mainGlobals "sorted" = some none) (z_range : PySem.W.nsIn K mainGlobals "range" = some none) (z_int : PySem.W.nsIn K mainGlobals "int" = some none) (z_bool : PySem.W.nsIn K mainGlobals "bool" = some none) (z_str : PySem.W.nsIn K mainGlobals "str" = some none) (z_list : PySem.W.nsIn K mainGlobals "list" = some none) (z_tuple : PySem.W.nsIn K mainGlobals "tuple" = some none) (z_dict : PySem.W.nsIn K mainGlobals "dict" = some none) (z_max : PySem.W.nsIn K mainGlobals "max" = some none) (z_min : PySem.W.nsIn K mainGlobals "min" = some none) (z_repr : PySem.W.nsIn K mainGlobals "repr" = some none)
    {t_LONGEST_NAME : Tok} (z_LONGEST_NAME : PySem.W.nsIn K mainGlobals "LONGEST_NAME" = some (some (.int 8 t_LONGEST_NAME))) {t_MOST_HANDS : Tok} (z_MOST_HANDS : PySem.W.nsIn K mainGlobals "MOST_HANDS" = some (some (.int 40 t_MOST_HANDS))) : TxtL mg := ⟨⟨PySem.W.mg_none_of X G z_isinstance, PySem.W.mg_none_of X G z_len, PySem.W.mg_none_of X G z_all, PySem.W.mg_none_of X G z_sum, PySem.W.mg_none_of X G z_set, PySem.W.mg_none_of X G z_sorted, PySem.W.mg_none_of X G z_range, PySem.W.mg_none_of X G z_int, PySem.W.mg_none_of X G z_bool, PySem.W.mg_none_of X G z_str, PySem.W.mg_none_of X G z_list, PySem.W.mg_none_of X G z_tuple, PySem.W.mg_none_of X G z_dict, ⟨_, PySem.W.mg_of X G z_LONGEST_NAME⟩, ⟨_, PySem.W.mg_of X G z_MOST_HANDS⟩⟩, PySem.W.mg_none_of X G z_max, PySem.W.mg_none_of X G z_min, PySem.W.mg_none_of X G z_repr⟩
end L2.Fb.Law

open PySem PySem.W PyProof.Rows in
set_option maxRecDepth 100000 in
set_option maxHeartbeats 0 in
theorem PySem.Challenge.cw_fallingback_k03_parts_and_letters_holds : PySem.Challenge.rw_fallingback_k03_parts_and_letters.Holds := by
  w_on; o_law; k_head; (case hw => w_witness2)
  k_fill
  refine L2.Fb.walkG (l := PySem.Challenge.rw_fallingback_k03_parts_and_letters) (n := 63) (k := 10) (x := "script") (CX := fun _ => L2.CX0) (sp := fun K => L2.Fb.Law.sp_law3 K) rfl (by decide) rfl ⟨rfl, by decide, by decide⟩ (fun w h Y => PySem.W.kIn_of Y) ?F (fun _ _ a ns hl _ hS => ⟨a, ns, rfl, hS, hl, fun _ => rfl⟩) (fun _ _ _ _ _ h => h)
  case F =>
    intro w mg fa h KX G hmg
    refine' L2.Fb.Law.all_mk KX G hmg (L2.Fb.Law.txt_mk KX G ?z_isinstance ?z_len ?z_all ?z_sum ?z_set ?z_sorted ?z_range ?z_int ?z_bool ?z_str ?z_list ?z_tuple ?z_dict ?z_max ?z_min ?z_repr ?z_LONGEST_NAME ?z_MOST_HANDS) (L2.Fb.Law.mk_is_whole KX G ?a_is_whole ?l_is_whole ?c_is_whole ?k_is_whole) (L2.Fb.Law.mk_is_name KX G ?a_is_name ?l_is_name ?c_is_name ?k_is_name) (L2.Fb.Law.mk_is_hand KX G ?a_is_hand ?l_is_hand ?c_is_hand ?k_is_hand) (L2.Fb.Law.mk_hearers_of KX G ?a_hearers_of ?l_hearers_of ?c_hearers_of ?k_hearers_of) (L2.Fb.Law.mk_is_past KX G ?a_is_past ?l_is_past ?c_is_past ?k_is_past) (L2.Fb.Law.mk_check_past KX G ?a_check_past ?l_check_past ?c_check_past ?k_check_past) (L2.Fb.Law.mk__is_row KX G ?a_is_row ?l_is_row ?c_is_row ?k_is_row) (L2.Fb.Law.mk__is_deed KX G ?a_is_deed ?l_is_deed ?c_is_deed ?k_is_deed) (L2.Fb.Law.mk__is_letter KX G ?a_is_letter ?l_is_letter ?c_is_letter ?k_is_letter) (L2.Fb.Law.mk__is_other KX G ?a_is_other ?l_is_other ?c_is_other ?k_is_other) (L2.Fb.Law.mk__told_once KX G ?a_told_once ?l_told_once ?c_told_once ?k_told_once) (L2.Fb.Law.mk__heard_once KX G ?a_heard_once ?l_heard_once ?c_heard_once ?k_heard_once) (L2.Fb.Law.mk__can_have_come KX G ?a_can_have_come ?l_can_have_come ?c_can_have_come ?k_can_have_come) (L2.Fb.Law.mk__order_found KX G ?a_order_found ?l_order_found ?c_order_found ?k_order_found) (L2.Fb.Law.mk__run_on KX G ?a_run_on ?l_run_on ?c_run_on ?k_run_on) (L2.Fb.Law.mk_present_of KX G ?a_present_of ?l_present_of ?c_present_of ?k_present_of) (L2.Fb.Law.mk__parts_of KX G ?a_parts_of ?l_parts_of ?c_parts_of ?k_parts_of) (L2.Fb.Law.mk_tellings KX G ?a_tellings ?l_tellings ?c_tellings ?k_tellings) (L2.Fb.Law.mk_hearings KX G ?a_hearings ?l_hearings ?c_hearings ?k_hearings) (L2.Fb.Law.mk_presents KX G ?a_presents ?l_presents ?c_presents ?k_presents) (L2.Fb.Law.mk__tale KX G ?a_tale ?l_tale ?c_tale ?k_tale) (L2.Fb.Law.mk_told_in KX G ?a_told_in ?l_told_in ?c_told_in ?k_told_in) (L2.Fb.Law.mk_heard_in KX G ?a_heard_in ?l_heard_in ?c_heard_in ?k_heard_in) (L2.Fb.Law.mk_letters_lying KX G ?a_letters_lying ?l_letters_lying ?c_letters_lying ?k_letters_lying) (L2.Fb.Law.mk__law_pot KX G ?a_law_pot ?l_law_pot ?c_law_pot ?k_law_pot) (L2.Fb.Law.mk__law_dip KX G ?a_law_dip ?l_law_dip ?c_law_dip ?k_law_dip) (L2.Fb.Law.mk__law_names KX G ?a_law_names ?l_law_names ?c_law_names ?k_law_names) (L2.Fb.Law.mk__law_past KX G ?a_law_past ?l_law_past ?c_law_past ?k_law_past) (L2.Fb.Law.mk__law_where KX G ?a_law_where ?l_law_where ?c_law_where ?k_law_where) (L2.Fb.Law.mk__law_some KX G ?a_law_some ?l_law_some ?c_law_some ?k_law_some) (L2.Fb.Law.mk__law_right KX G ?a_law_right ?l_law_right ?c_law_right ?k_law_right) ?a_law ?l_law ?c_law ?k_law
    (case a_is_whole => k_is)
    (case l_is_whole => k_is)
    (case c_is_whole => k_is)
    (case k_is_whole => k_is)
    (case a_is_name => k_is)
    (case l_is_name => k_is)
    (case c_is_name => k_is)
    (case k_is_name => k_is)
    (case a_is_hand => k_is)
    (case l_is_hand => k_is)
    (case c_is_hand => k_is)
    (case k_is_hand => k_is)
    (case a_hearers_of => k_is)
    (case l_hearers_of => k_is)
    (case c_hearers_of => k_is)
    (case k_hearers_of => k_is)
    (case a_is_past => k_is)
    (case l_is_past => k_is)
    (case c_is_past => k_is)
    (case k_is_past => k_is)
    (case a_check_past => k_is)
    (case l_check_past => k_is)
    (case c_check_past => k_is)
    (case k_check_past => k_is)
    (case a_is_row => k_is)
    (case l_is_row => k_is)
    (case c_is_row => k_is)
    (case k_is_row => k_is)
    (case a_is_deed => k_is)
    (case l_is_deed => k_is)
    (case c_is_deed => k_is)
    (case k_is_deed => k_is)
    (case a_is_letter => k_is)
    (case l_is_letter => k_is)
    (case c_is_letter => k_is)
    (case k_is_letter => k_is)
    (case a_is_other => k_is)
    (case l_is_other => k_is)
    (case c_is_other => k_is)
    (case k_is_other => k_is)
    (case a_told_once => k_is)
    (case l_told_once => k_is)
    (case c_told_once => k_is)
    (case k_told_once => k_is)
    (case a_heard_once => k_is)
    (case l_heard_once => k_is)
    (case c_heard_once => k_is)
    (case k_heard_once => k_is)
    (case a_can_have_come => k_is)
    (case l_can_have_come => k_is)
    (case c_can_have_come => k_is)
    (case k_can_have_come => k_is)
    (case a_order_found => k_is)
    (case l_order_found => k_is)
    (case c_order_found => k_is)
    (case k_order_found => k_is)
    (case a_run_on => k_is)
    (case l_run_on => k_is)
    (case c_run_on => k_is)
    (case k_run_on => k_is)
    (case a_present_of => k_is)
    (case l_present_of => k_is)
    (case c_present_of => k_is)
    (case k_present_of => k_is)
    (case a_parts_of => k_is)
    (case l_parts_of => k_is)
    (case c_parts_of => k_is)
    (case k_parts_of => k_is)
    (case a_tellings => k_is)
    (case l_tellings => k_is)
    (case c_tellings => k_is)
    (case k_tellings => k_is)
    (case a_hearings => k_is)
    (case l_hearings => k_is)
    (case c_hearings => k_is)
    (case k_hearings => k_is)
    (case a_presents => k_is)
    (case l_presents => k_is)
    (case c_presents => k_is)
    (case k_presents => k_is)
    (case a_tale => k_is)
    (case l_tale => k_is)
    (case c_tale => k_is)
    (case k_tale => k_is)
    (case a_told_in => k_is)
    (case l_told_in => k_is)
    (case c_told_in => k_is)
    (case k_told_in => k_is)
    (case a_heard_in => k_is)
    (case l_heard_in => k_is)
    (case c_heard_in => k_is)
    (case k_heard_in => k_is)
    (case a_letters_lying => k_is)
    (case l_letters_lying => k_is)
    (case c_letters_lying => k_is)
    (case k_letters_lying => k_is)
    (case a_law_pot => k_is)
    (case l_law_pot => k_is)
    (case c_law_pot => k_is)
    (case k_law_pot => k_is)
    (case a_law_dip => k_is)
    (case l_law_dip => k_is)
    (case c_law_dip => k_is)
    (case k_law_dip => k_is)
    (case a_law_names => k_is)
    (case l_law_names => k_is)
    (case c_law_names => k_is)
    (case k_law_names => k_is)
    (case a_law_past => k_is)
    (case l_law_past => k_is)
    (case c_law_past => k_is)
    (case k_law_past => k_is)
    (case a_law_where => k_is)
    (case l_law_where => k_is)
    (case c_law_where => k_is)
    (case k_law_where => k_is)
    (case a_law_some => k_is)
    (case l_law_some => k_is)
    (case c_law_some => k_is)
    (case k_law_some => k_is)
    (case a_law_right => k_is)
    (case l_law_right => k_is)
    (case c_law_right => k_is)
    (case k_law_right => k_is)
    (case a_law => k_is)
    (case l_law => k_is)
    (case c_law => k_is)
    (case k_law => k_is)
    (case z_isinstance => k_is)
    (case z_len => k_is)
    (case z_all => k_is)
    (case z_sum => k_is)
    (case z_set => k_is)
    (case z_sorted => k_is)
    (case z_range => k_is)
    (case z_int => k_is)
    (case z_bool => k_is)
    (case z_str => k_is)
    (case z_list => k_is)
    (case z_tuple => k_is)
    (case z_dict => k_is)
    (case z_max => k_is)
    (case z_min => k_is)
    (case z_repr => k_is)
    (case z_LONGEST_NAME => k_is)
    (case z_MOST_HANDS => k_is)

