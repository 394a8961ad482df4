import PyProof.Rows.All
import Wide.All
import OpenK.AllK
import Wide.FinOn
import HandS.ForMost
import HandS.ExcInit
import HandS.ExcIs
import HandS.Defaults
import HandS.ExcField
import KE.KExcIs
import HandS.IsInst
import HandS.MakeKw
import HandS.Wide
import PyProof.StrBlock2
import HandS.Evl
import PyProof.InstNe
import HandS.ExcOwn
import HandS.Property
import HandS.TupLe
import HandS.Text
import HandS.Style
import KE.RegKIsAll
import HandS.WordsExc
import PySem.Challenge.RW_wireranks_k02_messages_made
set_option Elab.async false
set_option linter.all false
set_option maxRecDepth 100000
set_option maxHeartbeats 2000000
namespace Wr
open PySem PySem.Spec PyProof.Rows L2

/-! ### repr of data, with dicts -/
/-- no dict that is read is the table of modules -/
def NoMod (h : Heap) (as : List Addr) : Prop :=
  ∀ a, a ∈ as → ∀ o es n, h.get? a = some o → o.data = .dict es n → (a == sysModules) = false
theorem NoMod.sub {h : Heap} {as bs : List Addr} (x : NoMod h as) (s : ∀ b, b ∈ bs → b ∈ as) : NoMod h bs :=
  fun a m => x a (s a m)
section
variable {prog : Program} {w : World} {g : Heap}
mutual
theorem rk_one : ∀ {v : Value} {d : PyData} {as : List Addr}, Reads g v d as →
    d.showable = true → NoMod g as → d.shown.length ≤ sizeLine →
    ∃ bs, ReadAtMost g d.depth bs ∧ ReprK prog w bs g d.depth v d.shown
  | _, _, _, .none, _, _, _ => by
    refine ⟨[], (fun _ m => nomatch m), ?_⟩
    rw [PyData.shown]
    exact ReprK.of_is ReprIs.none _ _ _
  | _, _, _, .bool b, _, _, _ => by
    refine ⟨[], (fun _ m => nomatch m), ?_⟩
    rw [PyData.shown]
    exact ReprK.of_is (ReprIs.bool b) _ _ _
  | _, _, _, .int i t, hs, _, _ => by
    refine ⟨[], (fun _ m => nomatch m), ?_⟩
    rw [PyData.shown]
    have hi : i.natAbs.log2 < 1920 := by simpa [PyData.showable] using hs
    exact ReprK.of_is (ReprIs.int t hi) _ _ _
  | _, _, _, .str x t, _, _, hz => by
    refine ⟨[], (fun _ m => nomatch m), ?_⟩
    rw [PyData.shown] at hz ⊢
    exact ReprK.of_is (ReprIs.str x t hz) _ _ _
  | _, _, _, .list (a := a) (vs := vs) (xs := xs) e1 e2 e3 e4, hs, hm, hz => by
    rw [PyData.shown] at hz
    have hs' : PyData.showableAll xs = true := by simpa [PyData.showable] using hs
    obtain ⟨bs, hb, hk⟩ := rk_all e4 hs'
      (hm.sub fun b m => List.mem_cons_of_mem _ m) fun t ht => Nat.le_trans (listText_mem_le ht) hz
    have r := Reads.list e1 e2 e3 e4
    have hn : a ∉ bs := not_mem_of_deeper r (by rw [PyData.depth]; omega) hb
    refine ⟨a :: bs, ReadAtMost.cons r (by rw [PyData.depth]; omega) hb, ?_⟩
    rw [PyData.depth, PyData.shown]
    obtain ⟨l⟩ := vs
    match l, xs, e3, e4, hk with
    | [], [], e3, _, _ =>
      rw [PyData.shownAll, listText_nil]
      exact ReprK.listEmpty e1 e2 e3
    | x :: l, xs, e3, _, hk =>
      refine ReprK.list e1 e2 e3 hn ?_ ?_
      · simpa using hk.length_eq
      · intro i y e
        exact hk.item i y (by simpa using e)
  | _, _, _, .tuple (a := a) (xs := xs) e1 e2 e3 e4, hs, hm, hz => by
    rw [PyData.shown] at hz
    have hs' : PyData.showableAll xs = true := by simpa [PyData.showable] using hs
    obtain ⟨bs, hb, hk⟩ := rk_all e4 hs' hm
      fun t ht => Nat.le_trans (tupleText_mem_le ht) hz
    have r := Reads.tuple e1 e2 e3 e4
    have hn : a ∉ bs := not_mem_of_deeper r (by rw [PyData.depth]; omega) hb
    refine ⟨a :: bs, ReadAtMost.cons r (by rw [PyData.depth]; omega) hb, ?_⟩
    rw [PyData.depth, PyData.shown]
    exact ReprK.tuple e1 e2 e3 hn hk
  | _, _, _, .dict (a := a) (es := es) (kvs := kvs) (as := aa) (bs := ab) e1 e2 e3 e4 e5, hs, hm, hz => by
    rw [PyData.shown] at hz
    obtain ⟨s1, s2⟩ := PyData.showableKv_split kvs (by simpa [PyData.showable] using hs)
    obtain ⟨b1, hb1, k1⟩ := rk_all e4 s1
      (hm.sub fun b m => List.mem_cons_of_mem _ (List.mem_append_left _ m)) fun t ht => by
        obtain ⟨p, hp, hl⟩ := PyData.shownKv_key_le kvs t ht
        exact Nat.le_trans hl (Nat.le_trans (dictText_mem_le hp) hz)
    obtain ⟨b2, hb2, k2⟩ := rk_all e5 s2
      (hm.sub fun b m => List.mem_cons_of_mem _ (List.mem_append_right _ m)) fun t ht => by
        obtain ⟨p, hp, hl⟩ := PyData.shownKv_val_le kvs t ht
        exact Nat.le_trans hl (Nat.le_trans (dictText_mem_le hp) hz)
    have r := Reads.dict e1 e2 e3 e4 e5
    have hb : ReadAtMost g (PyData.depthKv kvs) (b1 ++ b2) :=
      (hb1.mono (PyData.depthAll_keys_le kvs)).append (hb2.mono (PyData.depthAll_vals_le kvs))
    have hn : a ∉ b1 ++ b2 := not_mem_of_deeper r (by rw [PyData.depth]; omega) hb
    have hq : (a == sysModules) = false := hm a (List.mem_cons_self ..) _ _ _ e1 e3
    refine ⟨a :: (b1 ++ b2), ReadAtMost.cons r (by rw [PyData.depth]; omega) hb, ?_⟩
    rw [PyData.depth, PyData.shown, PyData.shownKv_eq]
    refine ReprK.dict e1 e2 e3 hq hn (ReprEntriesK.of_two es.toList _ _ ?_ ?_)
    · exact k1.more_le (fun b m => List.mem_append_left _ m) (PyData.depthAll_keys_le kvs)
    · exact k2.more_le (fun b m => List.mem_append_right _ m) (PyData.depthAll_vals_le kvs)
theorem rk_all : ∀ {vs : List Value} {ds : List PyData} {as : List Addr}, ReadsAll g vs ds as →
    PyData.showableAll ds = true → NoMod g as → (∀ t ∈ PyData.shownAll ds, t.length ≤ sizeLine) →
    ∃ bs, ReadAtMost g (PyData.depthAll ds) bs ∧
      ReprAllK prog w bs g (PyData.depthAll ds) vs (PyData.shownAll ds)
  | _, _, _, .nil, _, _, _ => by
    refine ⟨[], (fun _ m => nomatch m), ?_⟩
    rw [PyData.shownAll]
    exact ReprAllK.nil
  | _, _, _, .cons (d := d) (ds := ds) r rs, hs, hm, hz => by
    rw [PyData.shownAll] at hz
    have hs' : d.showable = true ∧ PyData.showableAll ds = true := by simpa [PyData.showableAll] using hs
    obtain ⟨b1, hb1, k1⟩ := rk_one r hs'.1 (hm.sub fun b m => List.mem_append_left _ m)
      (hz _ (List.mem_cons_self ..))
    obtain ⟨b2, hb2, k2⟩ := rk_all rs hs'.2 (hm.sub fun b m => List.mem_append_right _ m)
      fun t ht => hz t (List.mem_cons_of_mem _ ht)
    rw [PyData.depthAll, PyData.shownAll]
    refine ⟨b1 ++ b2, ?_, ?_⟩
    · intro b hm
      rcases List.mem_append.mp hm with q | q
      · exact hb1.mono (Nat.le_max_left _ _) b q
      · exact hb2.mono (Nat.le_max_right _ _) b q
    · refine ReprAllK.cons ?_ ?_
      · exact (k1.more fun b m => List.mem_append_left _ m).level_le (Nat.le_max_left _ _)
      · exact k2.more_le (fun b m => List.mem_append_right _ m) (Nat.le_max_right _ _)
end
end
end Wr
set_option Elab.async false
set_option linter.all false
set_option maxRecDepth 100000
set_option maxHeartbeats 2000000
namespace Wr
open PySem PySem.Spec PyProof.Rows L2

/-! ### data of the abstract heap, dicts too -/
def kD : Key → PyData
  | .inl i => .int i
  | .inr x => .str x
mutual
inductive Dr (K : PySem.W.Frag) (H : Hp) : V → PyData → Prop
  | non : Dr K H .non .none
  | bl (b : Bool) : Dr K H (.bl b) (.bool b)
  | int (i : Int) : Dr K H (.int i) (.int i)
  | str (x : Str) : Dr K H (.str x) (.str x)
  | lst {a : Addr} {xs : List V} {ds : List PyData} : SqL K H a xs → DrAll K H xs ds → Dr K H (.ref a) (.list ds)
  | tup {a : Addr} {xs : List V} {ds : List PyData} : SqT K H a xs → DrAll K H xs ds → Dr K H (.ref a) (.tuple ds)
  | dct {a : Addr} {kvs : List (Key × V)} {ds : List PyData} : H a = some (.dK kvs) → DrAll K H (kvs.map (·.2)) ds →
      Dr K H (.ref a) (.dict ((kvs.map fun p => kD p.1).zip ds))
inductive DrAll (K : PySem.W.Frag) (H : Hp) : List V → List PyData → Prop
  | nil : DrAll K H [] []
  | cons {v : V} {vs : List V} {d : PyData} {ds : List PyData} : Dr K H v d → DrAll K H vs ds → DrAll K H (v :: vs) (d :: ds)
end
theorem DrAll.len {K : PySem.W.Frag} {H : Hp} : ∀ {vs : List V} {ds : List PyData}, DrAll K H vs ds → vs.length = ds.length
  | _, _, .nil => rfl
  | _, _, .cons _ r => congrArg Nat.succ r.len
theorem nomod_list {h : Heap} {a : Addr} {o : Obj} {vs : Array Value} {n : Nat} {as : List Addr} (e : h.get? a = some o)
    (d : o.data = .seq vs n) (x : NoMod h as) : NoMod h (a :: as) := by
  intro b m ob es k eb db
  rcases List.mem_cons.mp m with q | q
  · subst q
    rw [e] at eb
    cases eb
    rw [d] at db
    cases db
  · exact x b q ob es k eb db
theorem nomod_app {h : Heap} {as bs : List Addr} (x : NoMod h as) (y : NoMod h bs) : NoMod h (as ++ bs) := fun a m =>
  (List.mem_append.mp m).elim (x a) (y a)
theorem reads_keys {h : Heap} {P : Program} {w : World} : ∀ {es : List DictEntry} {vs : List (Key × Value)}, Pairs (mixKind P w) es vs →
    ReadsAll h (es.map (·.key)) (vs.map fun p => kD p.1) []
  | _, _, .nil => .nil
  | _, _, .cons hk _ hr => by
    have ih := reads_keys (h := h) hr
    rw [List.map_cons, List.map_cons]
    rcases keyIs_shape hk with ⟨i, t, e1, e2⟩ | ⟨x, t, e1, e2⟩
    · rw [e2, e1]
      exact ReadsAll.cons (as := []) (Reads.int i t) ih
    · rw [e2, e1]
      exact ReadsAll.cons (as := []) (Reads.str x t) ih
theorem pairs_vals {P : Program} {w : World} : ∀ {es : List DictEntry} {vs : List (Key × Value)}, Pairs (mixKind P w) es vs →
    es.map (·.val) = vs.map (·.2)
  | _, _, .nil => rfl
  | _, _, .cons _ hv hr => by
    rw [List.map_cons, List.map_cons, pairs_vals hr, hv]
theorem kv_keys : ∀ {kvs : List (Key × V)} {vs : List (Key × Value)}, KV kvs vs → (kvs.map fun p => kD p.1) = vs.map fun p => kD p.1
  | _, _, .nil => rfl
  | _, _, .cons r t => by
    rw [List.map_cons, List.map_cons, kv_keys t, r.1]
theorem kv_vals : ∀ {kvs : List (Key × V)} {vs : List (Key × Value)}, KV kvs vs → Vals (kvs.map (·.2)) (vs.map (·.2))
  | _, _, .nil => .nil
  | _, _, .cons r t => .cons r.2 (kv_vals t)
theorem map_fst_zip {α β : Type} : ∀ {l : List α} {m : List β}, l.length = m.length → (l.zip m).map (·.1) = l
  | [], _, _ => by simp
  | a :: l, [], h => by simp at h
  | a :: l, b :: m, h => by
    rw [List.zip_cons_cons, List.map_cons, map_fst_zip (Nat.succ.inj h)]
theorem map_snd_zip {α β : Type} : ∀ {l : List α} {m : List β}, l.length = m.length → (l.zip m).map (·.2) = m
  | [], [], _ => rfl
  | [], b :: m, h => by simp at h
  | a :: l, [], h => by simp at h
  | a :: l, b :: m, h => by
    rw [List.zip_cons_cons, List.map_cons, map_snd_zip (Nat.succ.inj h)]
section
variable {X : Cx} {pins : List (Addr × Obj)} {σ : L2.St} {H : Hp} {s : Shared}
mutual
theorem Dr.reads (I : Inv X pins σ H s) : ∀ {v : V} {d : PyData} (u : Value), Dr X.K H v d → RelV v u →
    ∃ as, Reads s.heap u d as ∧ NoMod s.heap as
  | _, _, _, .non, r => by
    cases r
    exact ⟨_, .none, fun _ m => nomatch m⟩
  | _, _, _, .bl b, r => by
    cases r
    exact ⟨_, .bool b, fun _ m => nomatch m⟩
  | _, _, _, .int i, r => by
    obtain ⟨t, rfl⟩ := r
    exact ⟨_, .int i t, fun _ m => nomatch m⟩
  | _, _, _, .str x, r => by
    obtain ⟨t, rfl⟩ := r
    exact ⟨_, .str x t, fun _ m => nomatch m⟩
  | _, _, _, .lst hs ha, r => by
    cases r
    obtain ⟨its, rv, ⟨o, n, ho, hc, _, hd⟩, _⟩ := I.list hs
    obtain ⟨as, q, nm⟩ := DrAll.reads I its ha rv
    exact ⟨_, .list ho hc hd q, nomod_list ho hd nm⟩
  | _, _, _, .tup hs ha, r => by
    cases r
    obtain ⟨its, rv, ⟨o, ho, hc, n, hd⟩, _⟩ := I.tuple hs
    obtain ⟨as, q, nm⟩ := DrAll.reads I its ha rv
    exact ⟨_, .tuple ho hc hd q, nm⟩
  | _, _, _, .dct (a := a) (kvs := kvs) (ds := ds) e ha, r => by
    cases r
    obtain ⟨_, hsys, vs, rel, o, es, ep, ho, hx, hd, _, hp, _⟩ := dk_of I.hok e
    obtain ⟨bs, q, nm⟩ := DrAll.reads I (vs.map (·.2)) ha (kv_vals rel)
    have hl : (kvs.map fun p => kD p.1).length = ds.length := by
      rw [List.length_map, ← ha.len, List.length_map]
    have rk : ReadsAll s.heap (es.toList.map (·.key)) (((kvs.map fun p => kD p.1).zip ds).map (·.1)) [] := by
      rw [map_fst_zip hl, kv_keys rel]
      exact reads_keys hp
    have rd : ReadsAll s.heap (es.toList.map (·.val)) (((kvs.map fun p => kD p.1).zip ds).map (·.2)) bs := by
      rw [map_snd_zip hl, pairs_vals hp]
      exact q
    refine ⟨_, .dict ho hx.1 hd rk rd, ?_⟩
    intro b m ob es' k eb db
    rcases List.mem_cons.mp m with z | z
    · rw [z]
      exact hsys
    · exact nm b z ob es' k eb db
theorem DrAll.reads (I : Inv X pins σ H s) : ∀ {vs : List V} {ds : List PyData} (us : List Value), DrAll X.K H vs ds → Vals vs us →
    ∃ as, ReadsAll s.heap us ds as ∧ NoMod s.heap as
  | _, _, _, .nil, r => by
    cases r
    exact ⟨_, .nil, fun _ m => nomatch m⟩
  | _, _, _, .cons h1 h2, r => by
    cases r with
    | cons r1 r2 =>
      obtain ⟨as, q1, n1⟩ := Dr.reads I _ h1 r1
      obtain ⟨bs, q2, n2⟩ := DrAll.reads I _ h2 r2
      exact ⟨_, .cons q1 q2, nomod_app n1 n2⟩
end
/-- repr of a list or a tuple -/
theorem repr_run {A : Around} {E : Value → Shared → Prop} {Q : Value → Shared → Prop} {a : Addr} {d : PyData} {as : List Addr} {prog : Program} {w : World}
    (r : Reads s.heap (.ref a) d as) (nm : NoMod s.heap as) (nd : ∀ kvs, d ≠ .dict kvs) (hs : d.showable = true) (hg : A.guards = some []) (hu : A.units + (d.depth + 1) < cLine)
    (hz : d.shown.length ≤ sizeLine)
    (hQ : ∀ h' u tk, (∀ b o, s.heap.get? b = some o → h'.get? b = some o) → Q (.str d.shown u) { s with heap := h', toks := tk }) :
    wpAny (model prog w) A (call (.builtin "repr") [.ref a]) Q E s := by
  have hg1 : A.in1.guards = some [] := hg
  cases r with
  | @list _ o vs n xs as' e1 e2 e3 e4 =>
    rw [PyData.shown] at hz hQ
    rw [PyData.depth] at hu
    have hs' : PyData.showableAll xs = true := by simpa [PyData.showable] using hs
    obtain ⟨bs, hb, hk⟩ := rk_all (prog := prog) (w := w) e4 hs' (nm.sub fun b m => List.mem_cons_of_mem _ m)
      fun t ht => Nat.le_trans (listText_mem_le ht) hz
    have hn : a ∉ bs := not_mem_of_deeper (Reads.list e1 e2 e3 e4) (by rw [PyData.depth]; omega) hb
    refine call_repr_slot (by omega) ⟨o, e1, e2⟩ F.slot_list_repr.toG ?_
    obtain ⟨l⟩ := vs
    match l, xs, e3, e4, hk with
    | [], [], e3, _, _ =>
      rw [PyData.shownAll, listText_nil] at hQ
      exact call_list_repr_empty ⟨o, e1, e2⟩ e1 e3 ⟨_, _, rfl, hQ s.heap _ _ fun _ _ z => z⟩
    | x :: l, xs, e3, _, hk =>
      refine call_list_reprK e1 e2 e3 hn (by simpa using hk.length_eq) (fun i y e => hk.item i y (by simpa using e)) hg1
        (fun b _ => Clear.nil b) (by show A.units + 1 + _ < cLine; omega) (fun _ _ z => z) (fun h' u tk k => ⟨_, _, rfl, hQ h' u tk k⟩) hz
  | @tuple _ o vs n xs _ e1 e2 e3 e4 =>
    rw [PyData.shown] at hz hQ
    rw [PyData.depth] at hu
    have hs' : PyData.showableAll xs = true := by simpa [PyData.showable] using hs
    obtain ⟨bs, hb, hk⟩ := rk_all (prog := prog) (w := w) e4 hs' nm fun t ht => Nat.le_trans (tupleText_mem_le ht) hz
    have hn : a ∉ bs := not_mem_of_deeper (Reads.tuple e1 e2 e3 e4) (by rw [PyData.depth]; omega) hb
    refine call_repr_slot (by omega) ⟨o, e1, e2⟩ F.slot_tuple_repr ?_
    exact call_tuple_reprK e1 e2 e3 hn hk hg1 (fun b _ => Clear.nil b) (by show A.units + 1 + _ < cLine; omega)
      (fun _ _ z => z) (fun h' u tk k => ⟨_, _, rfl, hQ h' u tk k⟩) hz
  | dict e1 e2 e3 e4 e5 => exact absurd rfl (nd _)
end
/-- repr(x), x a list or a tuple of data -/
def rRepr (K : PySem.W.Frag) : List V → Hp → VK → Prop := fun xs H Q => ∃ (a : Addr) (d : PyData), xs = [.ref a] ∧ Dr K H (.ref a) d ∧
  (∀ kvs, d ≠ .dict kvs) ∧ d.showable = true ∧ d.depth ≤ 60 ∧ d.shown.length ≤ sizeLine ∧ Q (.str d.shown) H
theorem call_repr {X : Cx} (hg : X.A.guards = some []) (hu : X.A.units + 64 < cLine) : CallR X (.builtin "repr") (rRepr X.K) := by
  intro pins s σ H xs us Q I r h
  obtain ⟨a, d, rfl, hd, nd, hs, hp, hz, q⟩ := h
  obtain ⟨u, rfl, r1⟩ := vals1 r
  obtain ⟨as, rd, nm⟩ := hd.reads I u r1
  obtain rfl : u = Value.ref a := r1
  exact repr_run rd nm nd hs hg (by omega) hz fun h' t tk k => ⟨.str d.shown, H, I.kept k, ⟨t, rfl⟩, q⟩

/-! ### defs whose callers leave no guard -/
structure FnG (P : Program) (w : World) (K : PySem.W.Frag) (mg : Str → Option Value) (base : Heap) (CX : CXT) (k : Nat) (f : Addr)
    (fd : FuncData) (ps : List Str) (sp : Sp) : Prop where
  len : ∀ vs H Q E, sp vs H Q E → vs.length = ps.length
  run : ∀ (A : Around) (outer : List Env) (s : Shared) (H : Hp) (args : Args) (us : List Value) (vs : List V) (Q : VK) (E : XK),
    A.guards = some [] → Room k A → Env0 P w K mg base A outer s H → BindsTo s fd args (ps.zip us) → Vals vs us → sp vs H Q E →
    codeAny (model P w) A (.call (.ref f) args) (CR CX outer P w H s Q E) s
section
variable {CX : CXT} {P : Program} {w : World} {K : PySem.W.Frag} {mg : Str → Option Value} {base : Heap} {k : Nat} {f : Addr} {sp : Sp}
theorem FnG.mono {j : Nat} {fd : FuncData} {ps : List Str} (F : FnG P w K mg base CX j f fd ps sp) (h : j ≤ k) : FnG P w K mg base CX k f fd ps sp :=
  ⟨F.len, fun A o s H a us vs Q E g r => F.run A o s H a us vs Q E g (r.mono h)⟩
theorem _root_.L2.FnOk.toG {fd : FuncData} {ps : List Str} (F : FnOk P w K mg base CX k f fd ps sp) : FnG P w K mg base CX k f fd ps sp :=
  ⟨F.len, fun A o s H a us vs Q E _ r => F.run A o s H a us vs Q E r⟩
/-- a def by its body -/
theorem fnG_of {name qual : Str} {params : Arguments} {body : List Stmt} {scope : Scope} {dV kV doc pm cdv ct oc : Value} {an od : Option Addr} {osl : Array (Option Value)} {N ps : List Str}
    (lk : K.lookup f = some ⟨oc, od, .func (PySem.W.fnOf name qual params body scope dV kV doc pm an cdv ct), osl⟩)
    (hcd : PySem.W.codeIn K cdv qual = true) (S : FnScope N ps scope) (len : ∀ vs H Q E, sp vs H Q E → vs.length = ps.length)
    (hbody : ∀ (A : Around) (outer : List Env) (s : Shared) (H : Hp) (vs : List V) (Q : VK) (E : XK), A.guards = some [] →
      Room k (A.deeper (envOfC qual scope s.heap.objs.size f cdv)) → sp vs H Q E →
      ∃ t, PSs (cxOf CX P w K mg base N qual scope f cdv A outer s H E) body t ∧ t { nx := fun _ H' => Q .non H', rt := Q } (start N vs) H) :
    FnG P w K mg base CX (k + 1) f (PySem.W.fnOf name qual params body scope dV kV doc pm an cdv ct) ps sp := by
  refine ⟨len, ?_⟩
  intro A outer s H args us vs Q E hg hr e0 hb r hsp
  have hl : vs.length = ps.length := len vs H Q E hsp
  have kin : K.In s.heap := e0.mod.kin.keeps fun b o e => (e0.bs b o e).1
  have hlim : s.heap.NoLimit := e0.mod.nolimit.keeps fun b o e => (e0.bs b o e).1
  refine codeAny_call_function hr.depth (kin f _ lk) rfl S.co S.gen rfl (PySem.W.codeRec_of kin hcd) ?_
  refine hb _ _ _ _ ?_
  refine wpAny_newFunctionEnv_cells S.kind ?_ ?_
  · rintro ⟨n, v⟩ hy
    rcases S.par n (List.of_mem_zip hy).1 with q | q
    · exact Or.inl q
    · exact Or.inr ⟨q, PySem.W.cellsFrom_some _ _ _ (Or.inl q)⟩
  · rintro env rfl s1 x
    refine ⟨hlim.keeps x.toInCall.keep, codeAny_func ?_⟩
    obtain ⟨t, ht, hq⟩ := hbody A outer s H vs Q E hg (hr.deeper _) hsp
    have I0 : Inv (cxOf CX P w K mg base N qual scope f cdv A outer s H E) [] (start N vs) H s1 := inv_start S hr.hd e0 hl r x
    refine wpAny_mono (ht.run [] s1 (start N vs) H _ I0 hq) ?_ (fun _ _ z => z)
    intro fl s2 hs
    match fl, hs with
    | .ret u, ⟨v, σ2, H2, J, rv, q⟩ => exact ⟨v, H2, J.os, J.bare, J.base, J.hok, rv, q⟩
    | .next, ⟨σ2, H2, J, q⟩ => exact ⟨.non, H2, J.os, J.bare, J.base, J.hok, rfl, q⟩
    | .brk, ⟨_, _, _, q⟩ => exact False.elim q
    | .cont, ⟨_, _, _, q⟩ => exact False.elim q
theorem fun_okG {x qual : Str} {st : Stmt} {fd : FuncData} {N ps : List Str} (F : Fun K x qual st f fd) (S : FnScope N ps (defScope st)) (len : ∀ vs H Q E, sp vs H Q E → vs.length = ps.length)
    (hbody : ∀ (cdv : Value) (A : Around) (outer : List Env) (s : Shared) (H : Hp) (vs : List V) (Q : VK) (E : XK), A.guards = some [] →
      Room k (A.deeper (envOfC qual (defScope st) s.heap.objs.size f cdv)) → sp vs H Q E →
      ∃ t, PSs (cxOf CX0 P w K mg base N qual (defScope st) f cdv A outer s H E).nox (defBody st) t ∧ t { nx := fun _ H' => Q .non H', rt := Q } (start N vs) H) :
    FnG P w K mg base CX0 (k + 1) f fd ps sp := by
  obtain ⟨oc, od, kV, doc, pm, an, cdv, ct, osl, rfl, lk, hcd⟩ := F.ex
  refine fnG_of lk hcd S len fun A outer s H vs Q E hg hr hsp => ?_
  obtain ⟨t, h, q⟩ := hbody cdv A outer s H vs Q E hg hr hsp
  exact ⟨t, h.nox, q⟩
end
section
variable {X : Cx} {CX : CXT} {k : Nat} {f : Addr} {fd : FuncData} {ps : List Str} {sp : Sp} {dvs : List V} {ds : List Value} {E : XK} {x : Str} {p pos : Pos} {e : Expr} {es : List Expr} {t : TA}
theorem runG {pins : List (Addr × Obj)} {σ : L2.St} {H : Hp} {s : Shared} {Q : VK} {us : List Value} {vs : List V} (F : FnG X.prog X.w X.K X.mg X.base CX k f fd ps sp) (hg : X.A.guards = some []) (hr : Room k X.A)
    (hb : Binds X.K fd ps ds) (hd : Vals dvs ds) (hx : Passes CX X E) (I : Inv X pins σ H s) (r : Vals vs us) (h : sp (vs ++ dvs) H Q E) :
    wpAny (model X.prog X.w) X.A (call (.ref f) us) (EP X pins σ Q) X.xe s := by
  have r2 := Vals.append r hd
  have hl : (us ++ ds).length = ps.length := r2.length.symm.trans (F.len _ _ _ _ h)
  refine wpAny_call (codeAny_mono (F.run X.A X.stack s H ⟨us, []⟩ (us ++ ds) (vs ++ dvs) Q E hg hr I.env0 (hb s us I.kIn hl) r2 h) ?_)
  intro r' s' hq
  match r', hq with
  | .error er, hq => exact hx pins σ H s er s' I hq
  | .ok (.ret u), hq => exact I.after hq
  | .ok .next, hq => exact False.elim hq
  | .ok .brk, hq => exact False.elim hq
  | .ok .cont, hq => exact False.elim hq
/-- f(e, ..) -/
theorem pe_callG (F : FnG X.prog X.w X.K X.mg X.base CX k f fd ps sp) (hgd : X.A.guards = some []) (hr : Room k X.A) (hg : Gl X x) (hm : X.mg x = some (.ref f)) (hk : PySem.W.keepIn X.K (.ref f) = true) (hb : Binds X.K fd ps ds) (hd : Vals dvs ds) (hx : Passes CX X E)
    (ha : PA X (e :: es) t) (hdb : (x == ("__debug__" : Str)) = false := by decide) (he : starEach (e :: es) X.env = (false, eval e X.env) :: starEach es X.env := by rfl) (hpl : (backTo pos (starEach es X.env)).any (·.1) = false := by rfl) :
    PE X (.Call (.Name x p) (e :: es) [] pos) (tCall sp dvs E t) := by
  refine ⟨fun pins s σ H Q I h => wpAny_Call_Name_kw (ld_glob I hg hm ?_ hdb)⟩
  refine PySem.W.callWith_K (h₀ := X.base) I.ok.mod.kin hk (thn (ha.run pos pins s σ H _ I h) ?_) he hpl
  rintro us s1 ⟨vs, H1, I1, r1, q1⟩
  exact ⟨I1.kIn, runG F hgd hr hb hd hx I1 r1 q1⟩
end
end Wr
set_option Elab.async false
set_option linter.all false
set_option maxRecDepth 100000
set_option maxHeartbeats 4000000
namespace Wr
open PySem PySem.HandSPX
open PySem.Builtin PySem.Builtin.ObjectAttr
section
variable {M : Model} {A : Around} {E : Value → Shared → Prop} {h : Heap} {g : Array GenState} {d : Drawn} {t : Nat} {os : OsState}
variable {nm q : Str} {C N : Addr} {bs bm bmB : List Value} {hdct : Bool} {sn : List Str} {sub : List Value} {ab : Bool} {col : Option Bool} {dd : Option Addr} {k0 k1 k2 k3 k5 : Option Value} {B newId initId : String}
theorem newK_check (F : ExcBaseFacts B newId initId bmB) (hT : ∀ X : String, bm.contains (.type X) = bmB.contains (.type X)) {rest : List Value} {kw : List (Str × Value)} {Q : Unit → Shared → Prop}
    (hC : h.get? C = some (excClassObj nm q C N bs bm hdct sn sub ab col dd k0 k1 k2 k3 k5 newId)) (hq : Q () ⟨h, g, d, t, os⟩) :
    wpAny M A (checkBuiltinCall newId ⟨.ref C :: rest, kw⟩) Q E ⟨h, g, d, t, os⟩ := by
  have c1 : (Value.ref C :: bm).contains (.type B) = true := by
    rw [List.contains_cons, hT, F.hasB, Bool.or_true]
  have c2 := F.noStar
  simp only [checkBuiltinCall, F.newKind, F.newSplit, F.newRow]
  repeat (first
    | refine wpAny_loadPart_at hC ?_
    | (refine wpAny_isSubtype_exc hC ?_; rw [c1])
    | refine wpAny_staticBase_exc hC ?_
    | refine wpAny_madeBy_exc hC ?_
    | simp only [bne_self_eq_false, Bool.false_eq_true, if_false]
    | wp_step)
  exact hq
theorem typeK_check {rest : List Value} {kw : List (Str × Value)} {Q : Unit → Shared → Prop} (hC : h.get? C = some (excClassObj nm q C N bs bm hdct sn sub ab col dd k0 k1 k2 k3 k5 newId))
    (hq : Q () ⟨h, g, d, t, os⟩) : wpAny M A (checkBuiltinCall "type.__call__" ⟨.ref C :: rest, kw⟩) Q E ⟨h, g, d, t, os⟩ := by
  have f3 := tc_sub
  have hT : (⟨h, g, d, t, os⟩ : Shared).TypeIs (.ref C) "type" := ⟨_, hC, rfl⟩
  simp only [checkBuiltinCall, tc_kind, tc_split]
  repeat (any_goals (first
    | assumption
    | with_reducible refine wpAny_loadPart_at hC ?_
    | with_reducible refine wpAny_onRaise ?_
    | with_reducible refine wpAny_map ?_
    | wp_step))
end
section
variable {prog : Program} {w : World} {A : Around} {E : Value → Shared → Prop} {R : Result → Shared → Prop} {h : Heap} {g : Array GenState} {d : Drawn} {t : Nat} {os : OsState}
variable {nm q : Str} {C N : Addr} {bs bm bmB : List Value} {hdct : Bool} {sn : List Str} {sub : List Value} {ab : Bool} {col : Option Bool} {dd : Option Addr} {k0 k1 k2 k3 k5 : Option Value} {B newId initId : String}
theorem newK_run (F : ExcBaseFacts B newId initId bmB) (hT : ∀ X : String, bm.contains (.type X) = bmB.contains (.type X)) {rest : List Value} {kw : List (Str × Value)}
    (hC : h.get? C = some (excClassObj nm q C N bs bm hdct sn sub ab col dd k0 k1 k2 k3 k5 newId))
    (hq : R (.ok (.ret (.ref (h.objs.size + 1)))) ⟨(h.push (W.kdv_tup rest)).push (excO C h.objs.size), g, d, t, os⟩) (hrest : rest.length ≤ sizeLine) :
    codeAny (model prog w) A (.builtin newId ⟨.ref C :: rest, kw⟩) R ⟨h, g, d, t, os⟩ := by
  have hends := F.ends
  have c1 : (Value.ref C :: bm).contains (.type B) = true := by
    rw [List.contains_cons, hT, F.hasB, Bool.or_true]
  have c2 : (Value.ref C :: bm).contains (.type "AttributeError") = false := by
    rw [List.contains_cons, hT, F.noAttr]
    rfl
  have c3 : (Value.ref C :: bm).contains (.type "NameError") = false := by
    rw [List.contains_cons, hT, F.noName]
    rfl
  refine codeAny_builtinAt F.entry ?_
  unfold Builtin.«BaseException.__new__»
  refine wpAt_bind ?_
  show wpAt _ _ _ (stack >>= _) _ _ _
  refine wpAt_bind (wpAt_stack fun p below => ?_)
  refine wpAt_of_wpAny ?_
  wp_walk
  refine wpAt_of_wpAny ?_
  rw [F.owner]
  repeat (first
    | with_reducible refine wpAny_madeHere_exc F.canon hC ?_
    | with_reducible refine wpAny_loadPart_at hC ?_
    | (with_reducible refine wpAny_isSubtype_exc hC ?_; first | rw [c1] | rw [c2] | rw [c3])
    | wp_step)
  show R _ _
  rw [Heap.size_push]
  exact hq
theorem typeK_run (F : ExcBaseFacts B newId initId bmB) (hT : ∀ X : String, bm.contains (.type X) = bmB.contains (.type X)) {rest : List Value} {kw : List (Str × Value)} {fI : Addr} {Q : Fin → Shared → Prop}
    (hC : h.get? C = some (excClassObj nm q C N bs bm hdct sn sub ab col dd k0 k1 k2 k3 k5 newId))
    (hi : W.Looks (model prog w) h (typeLookup (.ref C) "__init__") (some (.ref fI))) (hb : ∀ self, W.Looks (model prog w) h (bindSpecial (.ref fI) self) (.ref fI, [self])) (hrest : rest.length ≤ sizeLine)
    (hq : codeAny (model prog w) A (.call (.ref fI) ⟨.ref (h.objs.size + 1) :: rest, kw⟩)
      (fun r s' => match r with | .ok (.ret v) => v = .none ∧ Q (.done (.ret (.ref (h.objs.size + 1)))) s' | .ok _ => False | .error e => E e s')
      ⟨(h.push (W.kdv_tup rest)).push (excO C h.objs.size), g, d, t, os⟩) :
    wpAny (model prog w) A (Builtin.«type.__call__» ⟨.ref C :: rest, kw⟩) Q E ⟨h, g, d, t, os⟩ := by
  repeat (first
    | with_reducible refine wpAny_loadPart_at hC ?_
    | with_reducible refine wpAny_madeBy_exc hC ?_
    | wp_step)
  refine codeAny_call_builtin_code (Code.quiet_builtin _ F.quiet) (newK_check F hT hC ?_)
  refine newK_run F hT hC ?_ hrest
  show wpAny _ _ _ _ _ _
  have k : ∀ b o, h.get? b = some o → ((h.push (W.kdv_tup rest)).push (excO C h.objs.size)).get? b = some o :=
    fun b o e => Heap.get?_push_of_some _ (Heap.get?_push_of_some _ e)
  have hC1 := k _ _ hC
  have hgt : ((h.push (W.kdv_tup rest)).push (excO C h.objs.size)).get? (h.objs.size + 1) = some (excO C h.objs.size) := by heap_get
  have cc : (Value.ref C :: bm).contains (.ref C) = true := by simp
  have i1 := hi.keeps k
  have b1 := (hb (.ref (h.objs.size + 1))).keeps k
  unfold isInstance
  repeat (first
    | with_reducible refine wpAny_loadPart_at hgt ?_
    | (with_reducible refine wpAny_isSubtype_exc hC1 ?_; rw [cc])
    | wp_step)
  show wpAny _ _ (typeLookup (.ref C) _) _ _ _
  refine i1.at (wpAny_holding (wpAny_bind (b1.at ?_)))
  refine wpAny_bind (wpAny_call (codeAny_mono hq fun r s' z => ?_))
  match r, z with
  | .error e, z => exact z
  | .ok (.ret v), z =>
    obtain ⟨rfl, z⟩ := z
    first
      | exact wpAny_pure (wpAny_pure z)
      | (wp_walk; exact z)
  | .ok .next, z => exact z.elim
  | .ok .brk, z => exact z.elim
  | .ok .cont, z => exact z.elim
theorem callK_run (F : ExcBaseFacts B newId initId bmB) (hT : ∀ X : String, bm.contains (.type X) = bmB.contains (.type X)) {rest : List Value} {kw : List (Str × Value)} {fI : Addr}
    (hC : h.get? C = some (excClassObj nm q C N bs bm hdct sn sub ab col dd k0 k1 k2 k3 k5 newId))
    (hi : W.Looks (model prog w) h (typeLookup (.ref C) "__init__") (some (.ref fI))) (hb : ∀ self, W.Looks (model prog w) h (bindSpecial (.ref fI) self) (.ref fI, [self])) (hrest : rest.length ≤ sizeLine)
    (hq : codeAny (model prog w) (A.under (.builtin "type.__call__" ⟨.ref C :: rest, kw⟩)) (.call (.ref fI) ⟨.ref (h.objs.size + 1) :: rest, kw⟩) (W.InitBack (h.objs.size + 1) R)
      ⟨(h.push (W.kdv_tup rest)).push (excO C h.objs.size), g, d, t, os⟩) :
    codeAny (model prog w) A (.call (.ref C) ⟨rest, kw⟩) R ⟨h, g, d, t, os⟩ := by
  have f1 := tc_lookup
  have f2 := tc_bind (.ref C)
  have hTy : (⟨h, g, d, t, os⟩ : Shared).TypeIs (.ref C) "type" := ⟨_, hC, rfl⟩
  refine codeAny_of_tree ?_
  show wpAny _ _ (callAny (.ref C) _) _ _ _
  repeat (any_goals (first
    | assumption
    | with_reducible refine wpAny_loadPart_at hC ?_
    | wp_step))
  refine ⟨rfl, ?_⟩
  refine codeAny_call_builtin_at (Code.quiet_builtin _ (by decide +kernel)) entry_typeCall (typeK_check hC (typeK_run F hT hC hi hb hrest ?_))
  refine codeAny_mono hq fun r s' z => ?_
  match r, z with
  | .error e, z => exact z
  | .ok (.ret v), z => exact z
  | .ok .next, z => exact z
  | .ok .brk, z => exact z
  | .ok .cont, z => exact z
end
end Wr
set_option Elab.async false
set_option linter.all false
set_option maxRecDepth 100000
set_option maxHeartbeats 2000000
namespace Wr
open PySem PySem.Spec PyProof.Rows L2

/-! ### own error classes whose instances are held as values -/
/-- what is known of such a class at C, whose __init__ stands at fI and sets the one field value -/
structure XcT (K : PySem.W.Frag) (C fI : Addr) : Prop where
  oex : OexC K C
  iC : PySem.W.findIn K (.ref C) "__init__" = some (some (.ref fI))
  tI : PySem.W.typeIn K (.ref fI) = some (.type "function")
  no : PySem.W.findIn K (.ref C) "value" = some none
  ga : PySem.W.findIn K (.ref C) "__getattribute__" = some (some (.builtin "BaseException.__getattribute__"))
  gg : PySem.W.findIn K (.ref C) "__getattr__" = some none
  hd : PySem.W.hasDictIn K C = true
  cc : PySem.W.findIn K (.ref C) "__class__" = some (some (.builtin "object.__class__"))
  mo : PySem.W.mroIn K C (.type "object") = some true
/-- the words that isinstance reads off any object -/
structure ClW (K : PySem.W.Frag) : Prop where
  hn : PySem.W.specialIn K (.builtin "object.__class__") "__get__" = some (some (.builtin "getset_descriptor.__get__"))
  tk : PySem.W.takesIn K (.builtin "object.__class__") = some true
/-- an error of the class at C stands at a, its value is v -/
def ExV (H : Hp) (C a : Addr) (v : V) : Prop := ∃ d : Addr, H a = some (exo a C (some d)) ∧ H d = some (exd d [(("value" : Str), v)])
/-- the heap with a new error -/
def mkX (H : Hp) (C a d : Addr) (v : V) : Hp := upd (upd H d (exd d [(("value" : Str), v)])) a (exo a C (some d))
theorem mkX_at {H : Hp} {C a d : Addr} {v : V} (h : d ≠ a) : ExV (mkX H C a d v) C a v :=
  ⟨d, upd_same, (upd_ne h).trans upd_same⟩
theorem mkX_same {H : Hp} {C a d : Addr} {v : V} (ha : H a = none) (hd : H d = none) : Same H (mkX H C a d v) := fun b o e => by
  unfold mkX
  rw [upd_ne (ne_of_none e ha), upd_ne (ne_of_none e hd)]
  exact e
theorem ExV.same {H H' : Hp} {C a : Addr} {v : V} (s : Same H H') (x : ExV H C a v) : ExV H' C a v :=
  let ⟨d, h1, h2⟩ := x
  ⟨d, s _ _ h1, s _ _ h2⟩
/-- the promise of __init__(self, value) -/
def spXi (C : Addr) : Sp := fun vs H Q _ => ∃ (a : Addr) (v : V), vs = [.ref a, v] ∧ H a = some (exo a C none) ∧
  ∀ d, H d = none → d ≠ a → Q .non (mkX H C a d v)
def xiB (p1 p2 p3 p4 : Pos) : List Stmt := [.Assign [.Attribute (.Name "self" p1) "value" p2] (.Name "value" p3) p4]
def xiS : Scope := { kind := .function, names := [(PySem.Str.ofString "self", .local), (PySem.Str.ofString "value", .local)], isGenerator := false, isCoroutine := false, more := [] }
theorem xi_sc : FnScope ["self", "value"] ["self", "value"] xiS := ⟨rfl, rfl, rfl, by decide +kernel, rfl, by decide +kernel, by decide +kernel⟩
section
variable {P : Program} {w : World} {K : PySem.W.Frag} {mg : Str → Option Value} {base : Heap}
theorem xi_ok {qual : Str} {params : Arguments} {dvs : List V} {kws : List (Str × V)} {C fI : Addr} {fd : FuncData} {p1 p2 p3 p4 : Pos} (F : FunD K "__init__" qual params (xiB p1 p2 p3 p4) xiS dvs kws fI fd)
    (T : XcT K C fI) : FnOk P w K mg base CX0 1 fI fd ["self", "value"] (spXi C) := by
  refine F.ok xi_sc ?_ ?_
  · rintro vs H Q E ⟨a, v, rfl, _⟩
    rfl
  · rintro cdv A outer s H vs Q E hr ⟨a, v, rfl, ha, k⟩
    refine ⟨_, (pss_one (ps_ost (pv 0) (pv 1))).nox, ?_⟩
    exact ⟨v, rfl, .ref a, rfl, a, C, rfl, T.oex, T.no, Or.inl ⟨ha, fun d hd hn => k d hd hn⟩⟩
end
/-- C(..) as a value: n values, then keywords; gV puts all in the parameters' order -/
def tMkX (C : Addr) (n m : Nat) (gV : List V → List V → List V) (t tk : TA) : TE := fun σ H Q => t σ H fun vs H1 => tk σ H1 fun zs H2 => vs.length = n ∧ zs.length = m ∧
  ∃ v, (∀ a, gV (.ref a :: vs) zs = [.ref a, v]) ∧ ∀ a d, H2 a = none → H2 d = none → d ≠ a → Q (.ref a) (mkX H2 C a d v)
section
variable {X : Cx} {C fI : Addr} {fd : FuncData} {n k : Nat} {ks : List Str} {g : List Value → List Value → List Value} {gV : List V → List V → List V}
theorem runX {pins : List (Addr × Obj)} {σ : L2.St} {H : Hp} {s : Shared} {Q : VK} {us ws : List Value} {vs zs : List V} {v : V} (T : XcT X.K C fI) (F : FnOk X.prog X.w X.K X.mg X.base CX0 k fI fd ["self", "value"] (spXi C)) (hr : Room (k + 1) X.A)
    (hb : KBn X.K fd ["self", "value"] (n + 1) ks g gV) (I : Inv X pins σ H s) (r : Vals vs us) (rz : Vals zs ws) (l1 : vs.length = n) (l2 : zs.length = ks.length) (hn : n ≤ 10)
    (hv : ∀ a, gV (.ref a :: vs) zs = [.ref a, v]) (h : ∀ a d, H a = none → H d = none → d ≠ a → Q (.ref a) (mkX H C a d v)) :
    wpAny (model X.prog X.w) X.A (call (.ref C) us (ks.zip ws)) (EP X pins σ Q) X.xe s := by
  obtain ⟨nm, q, N, bs, bm, sn, sub, ab, col, dd, k0, k1, k2, k3, k5, hC, hbm⟩ := T.oex.cls
  obtain ⟨hp, ge, dr, tk, os⟩ := s
  have hsz : hp.objs.size ≤ hp.objs.size + 1 := Nat.le_succ _
  have ha : H (hp.objs.size + 1) = none := I.hok.fresh hsz
  have kk : ∀ b o, hp.get? b = some o → ((hp.push (PySem.W.kdv_tup us)).push (HandSPX.excO C hp.objs.size)).get? b = some o :=
    fun b o e => Heap.get?_push_of_some _ (Heap.get?_push_of_some _ e)
  have hgt : ((hp.push (PySem.W.kdv_tup us)).push (HandSPX.excO C hp.objs.size)).get? (hp.objs.size + 1) = some (HandSPX.excO C hp.objs.size) := by heap_get
  have I2 : Inv X pins σ (upd H (hp.objs.size + 1) (exo (hp.objs.size + 1) C none)) ⟨(hp.push (PySem.W.kdv_tup us)).push (HandSPX.excO C hp.objs.size), ge, dr, tk, os⟩ :=
    I.laid (t' := tk) (h' := (hp.push (PySem.W.kdv_tup us)).push (HandSPX.excO C hp.objs.size)) kk hsz (exo_ok hgt)
  have r1 : Vals (V.ref (hp.objs.size + 1) :: vs) (Value.ref (hp.objs.size + 1) :: us) := .cons rfl r
  have r2 := hb.rel r1 rz
  have e1 : (Value.ref (hp.objs.size + 1) :: us).length = n + 1 := r1.length.symm.trans (congrArg Nat.succ l1)
  have e2 : ws.length = ks.length := rz.length.symm.trans l2
  have hus : us.length ≤ sizeLine := by
    rw [← r.length, sizeLine_eq]
    omega
  have hq : spXi C (gV (V.ref (hp.objs.size + 1) :: vs) zs) (upd H (hp.objs.size + 1) (exo (hp.objs.size + 1) C none))
      (fun y H2 => y = .non ∧ Q (.ref (hp.objs.size + 1)) H2) (fun _ _ _ => False) := by
    refine ⟨hp.objs.size + 1, v, hv _, upd_same, fun d hd hne => ⟨rfl, ?_⟩⟩
    have hd' : H d = none := by
      rw [upd_ne hne] at hd
      exact hd
    have z := h _ d ha hd' hne
    have e : mkX (upd H (hp.objs.size + 1) (exo (hp.objs.size + 1) C none)) C (hp.objs.size + 1) d v = mkX H C (hp.objs.size + 1) d v := by
      funext b
      unfold mkX
      by_cases hb1 : b = hp.objs.size + 1
      · rw [hb1, upd_same, upd_same]
      · rw [upd_ne hb1, upd_ne hb1]
        by_cases hb2 : b = d
        · rw [hb2, upd_same, upd_same]
        · rw [upd_ne hb2, upd_ne hb2, upd_ne hb1]
    rw [e]
    exact z
  refine wpAny_call (callK_run PySem.F.excBase_ValueError (fun Y => HandSPX.refsVE_contains Y bm hbm) (I.kIn _ _ hC) (PySem.W.looks_findIn I.kIn T.iC) (fun self => PySem.W.bind_fn I.kIn self T.tI) hus ?_)
  refine codeAny_mono (F.run _ X.stack _ _ ⟨Value.ref (hp.objs.size + 1) :: us, ks.zip ws⟩ (g (Value.ref (hp.objs.size + 1) :: us) ws) _ _ (fun _ _ _ => False)
    (hr.make C us (ks.zip ws)) (I2.env0.make C us (ks.zip ws)) (hb.to _ (Value.ref (hp.objs.size + 1) :: us) ws I2.kIn e1 e2) r2 hq) fun r s' hq' => ?_
  match r, hq' with
  | .ok (.ret u), hq' =>
    obtain ⟨y, H', I3, rv, ev, q3⟩ := I2.after hq'
    subst ev
    exact ⟨rv, .ref (hp.objs.size + 1), H', I3, rfl, q3⟩
  | .error e, hq' => exact False.elim hq'
  | .ok .next, hq' => exact False.elim hq'
  | .ok .brk, hq' => exact False.elim hq'
  | .ok .cont, hq' => exact False.elim hq'
variable {x : Str} {p pos : Pos} {e : Expr} {es : List Expr} {kws : List Keyword} {t tk : TA}
/-- C(e) -/
theorem pe_X1 (T : XcT X.K C fI) (F : FnOk X.prog X.w X.K X.mg X.base CX0 k fI fd ["self", "value"] (spXi C)) (hr : Room (k + 1) X.A) (hg : Gl X x) (hm : X.mg x = some (.ref C))
    (hb : KBn X.K fd ["self", "value"] (n + 1) [] g gV) (hn : n ≤ 10) (ha : PA X (e :: es) t)
    (hdb : (x == ("__debug__" : Str)) = false := by decide) (he : starEach (e :: es) X.env = (false, eval e X.env) :: starEach es X.env := by rfl)
    (hpl : (backTo pos (starEach es X.env)).any (·.1) = false := by rfl) :
    PE X (.Call (.Name x p) (e :: es) [] pos) (tMkX C n 0 gV t tNil) := by
  refine ⟨fun pins s σ H Q I h => wpAny_Call_Name_kw (ld_glob I hg hm ?_ hdb)⟩
  refine PySem.W.callWith_K (h₀ := X.base) I.ok.mod.kin T.oex.kC (thn (ha.run pos pins s σ H _ I h) ?_) he hpl
  rintro us s1 ⟨vs, H1, I1, r1, l1, l2, v, hv, q⟩
  exact ⟨I1.kIn, runX (ws := []) T F hr hb I1 r1 .nil l1 l2 hn hv q⟩
/-- C(k = e) -/
theorem pe_X2 (T : XcT X.K C fI) (F : FnOk X.prog X.w X.K X.mg X.base CX0 k fI fd ["self", "value"] (spXi C)) (hr : Room (k + 1) X.A) (hg : Gl X x) (hm : X.mg x = some (.ref C))
    (hb : KBn X.K fd ["self", "value"] (0 + 1) ks g gV) (hkw : PK X kws tk)
    (hdb : (x == ("__debug__" : Str)) = false := by decide) (hks : (backToKw pos (keywordEach kws X.env)).filterMap (·.1) = ks := by rfl) (hall : (backToKw pos (keywordEach kws X.env)).all (·.1.isSome) = true := by rfl)
    (hpl : ((backTo pos (starEach [] X.env)).any (·.1) || (backToKw pos (keywordEach kws X.env)).any (·.1.isNone)) = false := by rfl) :
    PE X (.Call (.Name x p) [] kws pos) (tMkX C 0 ks.length gV tNil tk) := by
  refine ⟨fun pins s σ H Q I h => wpAny_Call_Name_kw (ld_glob I hg hm ?_ hdb)⟩
  refine PySem.W.callWith_KW0 (h₀ := X.base) I.ok.mod.kin T.oex.kC hall (thn (hkw.run pos pins s σ H _ I h) ?_) hpl
  rintro ws s1 ⟨zs, H1, I1, rz, l1, l2, v, hv, q⟩
  refine ⟨I1.kIn, ?_⟩
  rw [hks]
  exact runX (us := []) T F hr hb I1 .nil rz l1 l2 (Nat.zero_le _) hv q
/-- C() -/
theorem pe_X0 (T : XcT X.K C fI) (F : FnOk X.prog X.w X.K X.mg X.base CX0 k fI fd ["self", "value"] (spXi C)) (hr : Room (k + 1) X.A) (hg : Gl X x) (hm : X.mg x = some (.ref C))
    (hb : KBn X.K fd ["self", "value"] (0 + 1) [] g gV) (hdb : (x == ("__debug__" : Str)) = false := by decide) :
    PE X (.Call (.Name x p) [] [] pos) (tMkX C 0 0 gV tNil tNil) := by
  refine ⟨fun pins s σ H Q I h => wpAny_Call_Name_kw (ld_glob I hg hm ?_ hdb)⟩
  obtain ⟨l1, l2, v, hv, q⟩ := h
  exact PySem.W.callWith_K0 I.kIn T.oex.kC (runX (us := []) (ws := []) T F hr hb I .nil .nil l1 l2 (Nat.zero_le _) hv q)
end
/-- e.value -/
def tXv (K : PySem.W.Frag) (te : TE) : TE := fun σ H Q => te σ H fun x H1 => ∃ a C fI v, x = .ref a ∧ XcT K C fI ∧ ExV H1 C a v ∧ Q v H1
section
variable {X : Cx}
theorem inst_at {pins : List (Addr × Obj)} {σ : L2.St} {H : Hp} {s : Shared} {C a : Addr} {v : V} (I : Inv X pins σ H s) (x : ExV H C a v) :
    ∃ (ox od : Obj) (mA : Str → Option Value), PySem.W.InstAt s.heap a ox C (some od) ∧ PySem.W.lookIn ("value" : Str) od = some (mA ("value" : Str)) ∧ RelO (some v) (mA ("value" : Str)) := by
  obtain ⟨d, e1, e2⟩ := x
  obtain ⟨t1, ho⟩ := exo_at I.hok e1
  obtain ⟨mA, hns, hr⟩ := exd_at I.hok e2
  obtain ⟨od, hod, hl⟩ := lookIn_ns hns
  have z := hr ("value" : Str)
  have q : List.lookup ("value" : Str) [(("value" : Str), v)] = some v := by simp [List.lookup]
  rw [q] at z
  exact ⟨_, od, mA, ⟨ho, rfl, rfl, hod⟩, hl _, z⟩
theorem pe_xv {e : Expr} {te : TE} {pos : Pos} (he : PE X e te) (hb : attributeBase e "value" X.env (eval e X.env) = eval e X.env := by rfl) :
    PE X (.Attribute e "value" pos) (tXv X.K te) := by
  refine ⟨fun pins s σ H Q I h => attr_of hb (thn (he.run pins s σ H _ I h) ?_)⟩
  rintro u s1 ⟨x, H1, I1, rx, a, C, fI, v, rfl, T, xv, q⟩
  obtain rfl : u = Value.ref a := rx
  obtain ⟨ox, od, mA, J, hl, hv⟩ := inst_at I1 xv
  obtain ⟨u2, hu, ru⟩ := RelO.some_of hv
  refine HandSPX.exc_get I1.kIn J T.ga T.gg T.oex.exC (PySem.W.findObj_own T.hd T.no rfl (by rw [hl, hu])) (handed_of ru) ⟨v, H1, I1.tok _, ru, q⟩
/-- isinstance(e, c), e such an error -/
def rIsX (K : PySem.W.Frag) : List V → Hp → VK → Prop := fun xs H Q => ∃ (a C fI : Addr) (v c : V) (cv : Value) (b : Bool), xs = [.ref a, c] ∧ XcT K C fI ∧ ClW K ∧ ExV H C a v ∧
  ClsV c cv ∧ PySem.W.kitOne K (.ref C) cv = some b ∧ Q (.bl b) H
theorem call_isX : CallR X (.builtin "isinstance") (rIsX X.K) := by
  intro pins s σ H xs us Q I r h
  obtain ⟨a, C, fI, v, c, cv, b, rfl, T, W, xv, hc, e, q⟩ := h
  obtain ⟨u1, u2, rfl, r1, r2⟩ := vals2 r
  obtain rfl : u1 = Value.ref a := r1
  obtain rfl := hc.eq r2
  obtain ⟨ox, od, mA, J, _, _⟩ := inst_at I xv
  have hcl : (PySem.W.clsIn X.K C).isSome = true := by
    obtain ⟨cd, hcd, _⟩ := PySem.W.any_some T.hd
    rw [hcd]
    all_goals rfl
  exact PySem.W.kia_one (PySem.W.kitx_exc (od := some od) (ox := ox) hcl T.ga T.gg T.oex.exC T.cc W.hn W.tk T.mo) I.kIn J e (fun z => nomatch z)
    fun tk => ⟨.bl b, H, I.tok tk, rfl, q⟩
end
end Wr
set_option Elab.async false
set_option linter.all false
set_option maxRecDepth 100000
set_option maxHeartbeats 2000000
namespace Wr
open PySem PySem.Spec PyProof.Rows L2
def xiA (p1 p2 p3 : Pos) : Arguments := { posonlyargs := [], args := [{ arg := "self", annotation := none, pos := p1 }, { arg := "value", annotation := none, pos := p2 }], vararg := none, kwonlyargs := [], kw_defaults := [], kwarg := none, defaults := [.Constant .none 0 p3] }
section
variable {K : PySem.W.Frag} {qual : Str} {q1 q2 q3 p1 p2 p3 p4 : Pos} {f : Addr} {fd : FuncData}
theorem xi_b1 (F : FunD K "__init__" qual (xiA q1 q2 q3) (xiB p1 p2 p3 p4) xiS [.non] [] f fd) :
    ∃ its : List Value, KBn K fd ["self", "value"] (1 + 1) [] (fun us ws => (fun {α : Type} (a b c : List α) => a) us its ws) (fun vs zs => (fun {α : Type} (a b c : List α) => a) vs [V.non] zs) :=
  F.kbindsD 2 [] (fun {α : Type} (a b c : List α) => a) (by simp) (fun h _ _ => h) fun T kV doc pm an cdv ct us its ws l1 l2 l3 =>
    match us, its, ws, l1, l2, l3 with
    | [_, _], [_], [], _, _, _ => ⟨_, rfl, rfl⟩
theorem xi_b2 (F : FunD K "__init__" qual (xiA q1 q2 q3) (xiB p1 p2 p3 p4) xiS [.non] [] f fd) :
    ∃ its : List Value, KBn K fd ["self", "value"] (0 + 1) ["value"] (fun us ws => (fun {α : Type} (a b c : List α) => a ++ c) us its ws) (fun vs zs => (fun {α : Type} (a b c : List α) => a ++ c) vs [V.non] zs) :=
  F.kbindsD 1 ["value"] (fun {α : Type} (a b c : List α) => a ++ c) (by simp) (fun h _ k => h.append k) fun T kV doc pm an cdv ct us its ws l1 l2 l3 =>
    match us, its, ws, l1, l2, l3 with
    | [_], [_], [_], _, _, _ => ⟨_, rfl, rfl⟩
theorem xi_b0 (F : FunD K "__init__" qual (xiA q1 q2 q3) (xiB p1 p2 p3 p4) xiS [.non] [] f fd) :
    ∃ its : List Value, KBn K fd ["self", "value"] (0 + 1) [] (fun us ws => (fun {α : Type} (a b c : List α) => a ++ b) us its ws) (fun vs zs => (fun {α : Type} (a b c : List α) => a ++ b) vs [V.non] zs) :=
  F.kbindsD 1 [] (fun {α : Type} (a b c : List α) => a ++ b) (by simp) (fun h k _ => h.append k) fun T kV doc pm an cdv ct us its ws l1 l2 l3 =>
    match us, its, ws, l1, l2, l3 with
    | [_], [_], [], _, _, _ => ⟨_, rfl, rfl⟩
end
end Wr
set_option Elab.async false
set_option linter.all false
set_option maxRecDepth 100000
set_option maxHeartbeats 2000000
namespace Wr
open PySem PySem.Spec PyProof.Rows L2
/-! ### operations of great numbers, a text times a number -/
def CPowB (i j : Int) : Prop := 0 ≤ j ∧ (Builtin.Int.intBits i : Int) * j ≤ 2 ^ 27
/-- 'x' * n -/
def rMulS : R2 := fun x y H Q => ∃ (z : Str) (n : Int), x = .str z ∧ y = .int n ∧ MulOk z n ∧ Q (.str (Txt.mul z n)) H
section
variable {X : Cx}
theorem op_powB : OpR X (binaryOp .Pow) (rI CPowB fun i j => .int (i ^ j.toNat)) := opI fun _ _ _ _ _ _ _ hc q => pow_int hc.1 hc.2 q
theorem op_mulS : OpR X (binaryOp .Mult) rMulS := by
  intro pins s σ H x y v u Q I rx ry h
  obtain ⟨z, n, rfl, rfl, ok, q⟩ := h
  obtain ⟨t, rfl⟩ := rx
  obtain ⟨t2, rfl⟩ := ry
  exact PySem.SB.mul ok fun t' k => ⟨.str (Txt.mul z n), H, I.tok k, ⟨t', rfl⟩, q⟩
end
theorem ten40 : CPowB 10 40 := ⟨by decide, by decide +kernel⟩
theorem ten400 : CPowB (10 ^ (40 : Int).toNat) 10 := ⟨by decide, by decide +kernel⟩
theorem mul_small {z : Str} {n : Int} (h0 : 0 ≤ n) (h1 : n ≤ 1000) (hz : z.length = 1) : MulOk z n := by
  refine ⟨?_, ?_, ?_⟩
  · have e1 : ¬ n < -(2 ^ 63 : Int) := by omega
    have e2 : ¬ n ≥ 2 ^ 63 := by omega
    rw [decide_eq_false e1, decide_eq_false e2]
    rfl
  · intro h _
    rw [hz]
    have e : (1 : Int) ≤ (2 ^ 63 - 1) / n := Int.le_ediv_of_mul_le (by omega) (by omega)
    omega
  · intro h _
    rw [hz]
    show decide (_ > sizeLine) = false
    rw [decide_eq_false]
    rw [sizeLine_eq]
    omega

/-! ### the purse of draws -/
/-- all but what stands at p is as it was -/
def But (p : Addr) (H H' : Hp) : Prop := ∀ b, b ≠ p → H' b = H b
theorem But.refl {p : Addr} {H : Hp} : But p H H := fun _ _ => rfl
theorem But.trans {p : Addr} {H H1 H2 : Hp} (x : But p H H1) (y : But p H1 H2) : But p H H2 := fun b h => (y b h).trans (x b h)
theorem But.upd {p : Addr} {H : Hp} {o : HO} : But p H (upd H p o) := fun _ h => upd_ne h
/-- at p a purse, from which at most n draws were mixed -/
def Purse (H : Hp) (p : Addr) (n : Nat) : Prop := ∃ d m t : Int, H p = some (.lst [.int d, .int m, .int t]) ∧ 0 ≤ t ∧ t ≤ n
theorem Purse.le {H : Hp} {p : Addr} {n k : Nat} (x : Purse H p n) (h : n ≤ k) : Purse H p k :=
  let ⟨d, m, t, e, h0, h1⟩ := x
  ⟨d, m, t, e, h0, by omega⟩
def spPurse (K : PySem.W.Frag) : Sp := fun vs H Q _ => ∃ (a : Addr) (ns : List Int) (i : Nat), vs = [.ref a, .int i] ∧ SqL K H a (ns.map V.int) ∧ ns.length ≤ 63 ∧ i ≤ 1000 ∧
  ∀ p d m, H p = none → Q (.ref p) (upd H p (.lst [.int d, .int m, .int 0]))
def spDraw : Sp := fun vs H Q _ => ∃ (p : Addr) (n : Nat) (k : Int), vs = [.ref p, .int k] ∧ Purse H p n ∧ n ≤ 1000000 ∧ 0 < k ∧ k < 1073741824 ∧
  ∀ r H', 0 ≤ r → r < k → But p H H' → Purse H' p (n + 1) → Q (.int r) H'
def spPick (K : PySem.W.Frag) : Sp := fun vs H Q _ => ∃ (p l : Addr) (n : Nat) (xs : List V), vs = [.ref p, .ref l] ∧ Purse H p n ∧ n ≤ 1000000 ∧ l ≠ p ∧ SqL K H l xs ∧ (∀ H', But p H H' → SqL K H' l xs) ∧
  0 < xs.length ∧ xs.length < 1000000 ∧ ∀ x H', x ∈ xs → But p H H' → Purse H' p (n + 1) → Q x H'
theorem atI_mem {xs : List V} {r : Int} (h0 : 0 ≤ r) (h1 : r < xs.length) : ∃ x, atI xs r = some x ∧ x ∈ xs := by
  obtain ⟨k, rfl⟩ : ∃ k : Nat, r = k := ⟨r.toNat, by omega⟩
  have hk : k < xs.length := by omega
  refine ⟨xs[k], ?_, List.getElem_mem hk⟩
  unfold atI ixN
  rw [if_pos h0, if_pos h1]
  show xs[(k : Int).toNat]? = _
  rw [Int.toNat_natCast]
  exact List.getElem?_eq_getElem hk
theorem atI_nat' {α : Type} {xs : List α} {k : Nat} {v : α} (h : xs[k]? = some v) : atI xs (k : Int) = some v := by
  have hk := (List.getElem?_eq_some_iff.mp h).1
  unfold atI ixN
  rw [if_pos (by omega), if_pos (by omega)]
  show xs[(k : Int).toNat]? = _
  rw [Int.toNat_natCast]
  exact h
end Wr
set_option Elab.async false
set_option linter.all false
set_option maxRecDepth 100000
set_option maxHeartbeats 2000000
namespace Wr
open PySem PySem.Spec PyProof.Rows L2 Evl
/-! ### data stays -/
mutual
theorem Dr.ex {K : PySem.W.Frag} {H H' : Hp} (s : Ex H H') : ∀ {v : V} {d : PyData}, Dr K H v d → Dr K H' v d
  | _, _, .non => .non
  | _, _, .bl b => .bl b
  | _, _, .int i => .int i
  | _, _, .str x => .str x
  | _, _, .lst h r => .lst (ex_l s h) (DrAll.ex s r)
  | _, _, .tup h r => .tup (ex_t s h) (DrAll.ex s r)
  | _, _, .dct h r => .dct (s _ _ h) (DrAll.ex s r)
theorem DrAll.ex {K : PySem.W.Frag} {H H' : Hp} (s : Ex H H') : ∀ {v : List V} {d : List PyData}, DrAll K H v d → DrAll K H' v d
  | _, _, .nil => .nil
  | _, _, .cons h r => .cons (Dr.ex s h) (DrAll.ex s r)
end
mutual
theorem dp_ex {K : PySem.W.Frag} {H H' : Hp} (s : Ex H H') : ∀ {v : V} {d : PyData}, Dp K H v d → Dp K H' v d
  | _, _, .non => .non
  | _, _, .bl b => .bl b
  | _, _, .int i => .int i
  | _, _, .str x => .str x
  | _, _, .lst h r => .lst (ex_l s h) (dpAll_ex s r)
  | _, _, .tup h r => .tup (ex_t s h) (dpAll_ex s r)
theorem dpAll_ex {K : PySem.W.Frag} {H H' : Hp} (s : Ex H H') : ∀ {v : List V} {d : List PyData}, DpAll K H v d → DpAll K H' v d
  | _, _, .nil => .nil
  | _, _, .cons h r => .cons (dp_ex s h) (dpAll_ex s r)
end
theorem DrAll.rep {K : PySem.W.Frag} {H : Hp} {v : V} {d : PyData} (h : Dr K H v d) : ∀ n, DrAll K H (List.replicate n v) (List.replicate n d)
  | 0 => .nil
  | n + 1 => .cons h (DrAll.rep h n)
theorem DrAll.app {K : PySem.W.Frag} {H : Hp} : ∀ {vs ws : List V} {ds es : List PyData}, DrAll K H vs ds → DrAll K H ws es → DrAll K H (vs ++ ws) (ds ++ es)
  | _, _, _, _, .nil, h => h
  | _, _, _, _, .cons x r, h => .cons x (DrAll.app r h)
/-- told by what holds of each place -/
theorem dpAll_of {K : PySem.W.Frag} {H : Hp} : ∀ {ys : List V} {ds : List PyData}, ys.length = ds.length →
    (∀ (i : Nat) (y : V) (d : PyData), ys[i]? = some y → ds[i]? = some d → Dp K H y d) → DpAll K H ys ds
  | [], [], _, _ => .nil
  | [], _ :: _, h, _ => by cases h
  | _ :: _, [], h, _ => by cases h
  | y :: ys, d :: ds, h, k => .cons (k 0 y d rfl rfl) (dpAll_of (Nat.succ.inj h) fun i y' d' h1 h2 => k (i + 1) y' d' h1 h2)

/-! ### what evaluates to something of which P holds -/
def EvP (te : TE) (σ : L2.St) (H : Hp) (P : V → Hp → Prop) : Prop := ∀ H1, Ex H H1 → ∀ Q : VK, (∀ v H2, Ex H1 H2 → P v H2 → Q v H2) → te σ H1 Q
def Stays (P : V → Hp → Prop) : Prop := ∀ v H H', Ex H H' → P v H → P v H'
section
variable {K : PySem.W.Frag} {σ : L2.St} {H H' : Hp} {ta tb te tc : TE} {x y z v : V} {P P2 : V → Hp → Prop} {r : R2}
theorem EvP.mono (e : Ex H H') (h : EvP te σ H P) : EvP te σ H' P := fun H1 a Q q => h H1 (e.trans a) Q q
theorem Ev.p (h : Ev te σ H v) (hp : ∀ H1, Ex H H1 → P v H1) : EvP te σ H P := fun H1 e Q q => h H1 e Q fun H2 e2 => q v H2 e2 (hp H2 (e.trans e2))
theorem ev_opP (ha : EvP ta σ H P) (hb : EvP tb σ H P2) (st : Stays P) (hr : ∀ x y H1, Ex H H1 → P x H1 → P2 y H1 → RV r x y H1 z) : Ev (tOp r ta tb) σ H z := fun H1 e Q q =>
  ha H1 e _ fun x H2 e2 hx => hb H2 (e.trans e2) _ fun y H3 e3 hy =>
    hr x y H3 ((e.trans e2).trans e3) (st _ _ _ e3 hx) hy H3 (Ex.refl _) Q fun H4 e4 => q H4 ((e2.trans e3).trans e4)
end
/-- te makes a new object o -/
def EvN (te : TE) (σ : L2.St) (H : Hp) (o : HO) : Prop := ∀ H1, Ex H H1 → ∀ Q : VK, (∀ p H2, H1 p = none → Ex H1 H2 → H2 p = some o → Q (.ref p) H2) → te σ H1 Q
theorem EvN.mono {te : TE} {σ : L2.St} {H H' : Hp} {o : HO} (e : Ex H H') (h : EvN te σ H o) : EvN te σ H' o := fun H1 a Q q => h H1 (e.trans a) Q q
/-- v: a list whose places are objects, the i-th one o i -/
def LstN (n : Nat) (o : Nat → HO) (v : V) (H : Hp) : Prop := ∃ (p : Addr) (as : List Addr), v = .ref p ∧ as.length = n ∧ H p = some (.lst (as.map V.ref)) ∧ ∀ (i : Nat) a, as[i]? = some a → H a = some (o i)
theorem LstN.stays {n : Nat} {o : Nat → HO} : Stays (LstN n o) := fun _ _ _ s ⟨p, as, e, l, hp, h⟩ => ⟨p, as, e, l, s _ _ hp, fun i a ha => s _ _ (h i a ha)⟩
/-- .. while it is made at D -/
def CwN (H : Hp) (o : Nat → HO) (D : Addr) (i : Nat) (H' : Hp) : Prop := H D = none ∧ Ex H H' ∧ ∃ as : List Addr, as.length = i ∧ H' D = some (.lst (as.map V.ref)) ∧ ∀ (k : Nat) a, as[k]? = some a → a ≠ D ∧ H' a = some (o k)
theorem cwN_turn {te : TE} {H H' : Hp} {o : Nat → HO} {D : Addr} {i : Nat} {σ2 : L2.St} (p : CwN H o D i H') (hi : i < 50000) (he : EvN te σ2 H (o i)) :
    te σ2 H' fun y H4 => ∃ acc, H4 D = some (.lst acc) ∧ acc.length < sizeLine ∧ CwN H o D (i + 1) (upd H4 D (.lst (acc ++ [y]))) := by
  obtain ⟨p1, p2, as, l, hD, h⟩ := p
  refine he H' p2 _ fun a H4 ha e4 h4 => ⟨as.map V.ref, e4 _ _ hD, by rw [List.length_map, l]; exact sz_lt (by omega), p1, Ex.mut (p2.trans e4) p1, as ++ [a], ?_, ?_, ?_⟩
  · rw [List.length_append, l]
    rfl
  · rw [upd_same, List.map_append]
    rfl
  · have aD : a ≠ D := fun z => by
      rw [z, hD] at ha
      cases ha
    intro k b hb
    by_cases hk : k < as.length
    · rw [List.getElem?_append_left hk] at hb
      obtain ⟨h1, h2⟩ := h k b hb
      exact ⟨h1, (upd_ne h1).trans (e4 _ _ h2)⟩
    · rw [List.getElem?_append_right (by omega)] at hb
      have hk2 : k = i := by
        have := (List.getElem?_eq_some_iff.mp hb).1
        simp only [List.length_singleton] at this
        omega
      subst hk2
      rw [l, Nat.sub_self] at hb
      have : a = b := Option.some.inj hb
      subst this
      exact ⟨aD, (upd_ne aD).trans h4⟩
section
variable {K : PySem.W.Frag} {σ : L2.St} {H H' : Hp} {ta tb te tc tl : TE} {x y z v : V}
theorem en_lcL {a : Addr} {xs : List V} {j : Nat} {vs : List Nat} (o : Nat → HO) (h : Ev tl σ H (.ref a)) (hx : SqL K H a xs) (hz : xs.length ≤ 40000) (hw : ∀ x, wipe ((wipe σ vs).set j (some x)) vs = wipe σ vs)
    (he : ∀ (i : Nat) (x : V) H1, Ex H H1 → xs[i]? = some x → EvN te ((wipe σ vs).set j (some x)) H1 (o i)) :
    EvP (tLc (iList K tl) (gName j) tYes te vs) σ H (LstN xs.length o) := fun H0 e Q q => h H0 e _ fun H1 e1 => ⟨a, rfl, ⟨xs, ex_l (e.trans e1) hx⟩, fun D hD =>
  lc_list (xs := xs) (CwN H1 o D) ⟨hD, Ex.new hD, [], rfl, upd_same, fun k a z => by simp at z⟩ (fun i H' _ p => ex_l ((e.trans e1).trans p.2.1) hx)
    (fun i x H' hi p => ⟨hw x, cwN_turn p (by have := (List.getElem?_eq_some_iff.mp hi).1; omega) (he i x H1 (e.trans e1) hi)⟩)
    (fun H' ⟨p1, p2, as, l, h1, h2⟩ => q _ H' (e1.trans p2) ⟨D, as, rfl, l, h1, fun i a ha => (h2 i a ha).2⟩)⟩
theorem en_lcR1 {ta : TA} {j : Nat} {vs : List Nat} {n : Nat} (o : Nat → HO) (h : EvA ta σ H [.int (n : Int)]) (hn : n ≤ 40000) (hw : ∀ x, wipe ((wipe σ vs).set j (some x)) vs = wipe σ vs)
    (he : ∀ (i : Nat) H1, Ex H H1 → i < n → EvN te ((wipe σ vs).set j (some (.int (i : Int)))) H1 (o i)) :
    EvP (tLc (iRng1 ta) (gName j) tYes te vs) σ H (LstN n o) := fun H0 e Q q => h H0 e _ fun H1 e1 => ⟨(n : Int), rfl, by omega, by omega, fun D hD =>
  lc_range (lo := 0) (n := (n : Int).toNat) (CwN H1 o D) ⟨hD, Ex.new hD, [], rfl, upd_same, fun k a z => by simp at z⟩
    (fun i H' hi p => by
      have e0 : (0 : Int) + (i : Int) = (i : Int) := Int.zero_add _
      have hi' : i < n := by omega
      show wipe ((wipe σ vs).set j (some (.int ((0 : Int) + (i : Int))))) vs = wipe σ vs ∧ te ((wipe σ vs).set j (some (.int ((0 : Int) + (i : Int))))) H' fun y H4 => ∃ acc, H4 D = some (.lst acc) ∧ acc.length < sizeLine ∧ CwN H1 o D (i + 1) (upd H4 D (.lst (acc ++ [y])))
      rw [e0]
      exact ⟨hw _, cwN_turn p (by omega) (he i H1 (e.trans e1) hi')⟩)
    (fun H' ⟨p1, p2, as, l, h1, h2⟩ => q _ H' (e1.trans p2) ⟨D, as, rfl, by rw [l]; omega, h1, fun i a ha => (h2 i a ha).2⟩)⟩
/-- e.value -/
theorem ev_xv {C a fI : Addr} (he : Ev te σ H (.ref a)) (T : XcT K C fI) (x : ExV H C a v) : Ev (tXv K te) σ H v := fun H1 e Q q =>
  he H1 e _ fun H2 e2 => ⟨a, C, fI, v, rfl, T, x.same (e.trans e2), q H2 e2⟩
/-- repr(..) -/
theorem ev_repr {a : Addr} {d : PyData} (he : Ev te σ H (.ref a)) (hd : Dr K H (.ref a) d) (nd : ∀ kvs, d ≠ .dict kvs) (hs : d.showable = true) (hp : d.depth ≤ 60) (hz : d.shown.length ≤ sizeLine) :
    Ev (tCB (rRepr K) (tCons te tNil)) σ H (.str d.shown) := fun H1 e Q q => he H1 e _ fun H2 e2 => ⟨a, d, rfl, hd.ex (e.trans e2), nd, hs, hp, hz, q H2 e2⟩
theorem ev_reprL {xs : List V} {ds : List PyData} (he : EvL te σ H xs) (hd : DrAll K H xs ds) (hs : (PyData.list ds).showable = true) (hp : (PyData.list ds).depth ≤ 60) (hz : (PyData.list ds).shown.length ≤ sizeLine) :
    Ev (tCB (rRepr K) (tCons te tNil)) σ H (.str (PyData.list ds).shown) := fun H1 e Q q =>
  he H1 e _ fun p H2 _ e2 h2 => ⟨p, .list ds, rfl, .lst (SqL.of h2) (hd.ex (e.trans e2)), (fun _ z => nomatch z), hs, hp, hz, q H2 e2⟩
theorem el_rep {xs : List V} {n : Nat} (ha : EvL ta σ H xs) (hb : Ev tb σ H (.int (n : Int))) (hn : xs.length * n ≤ 100000) (h1 : n < 1000000) : EvL (tOp rRep ta tb) σ H (List.replicate n xs).flatten := fun H1 e Q q =>
  ha H1 e _ fun l H2 n2 e2 h2 => hb H2 (e.trans e2) _ fun H3 e3 => ⟨l, (n : Int), xs, rfl, rfl, e3 _ _ h2, by omega, by omega, sz_of hn, fun p hp =>
    q p _ (fresh_back (e2.trans e3) hp) ((e2.trans e3).trans (Ex.new hp)) upd_same⟩
theorem rv_eqD {d e : PyData} (h1 : Dp K H x d) (h2 : Dp K H y e) (s1 : SeqAt.shaped d = true) (s2 : SeqAt.shaped e = true) : RV (rEqD K) x y H (.bl (PyData.eqv d e)) := fun H1 ex Q q =>
  ⟨d, e, dp_ex ex h1, dp_ex ex h2, s1, s2, q H1 (Ex.refl _)⟩
end
/-- data: repeated, of few nodes -/
theorem flat_one (n : Nat) (v : V) : (List.replicate n [v]).flatten = List.replicate n v := by
  induction n with
  | zero => rfl
  | succ n ih =>
    rw [List.replicate_succ, List.flatten_cons, ih]
    rfl
theorem depth_rep {d : PyData} {k : Nat} (h : d.depth ≤ k) : ∀ n, PyData.depthAll (List.replicate n d) ≤ k
  | 0 => by rw [List.replicate_zero, PyData.depthAll]; exact Nat.zero_le _
  | n + 1 => by
    rw [List.replicate_succ, PyData.depthAll]
    exact Nat.max_le.mpr ⟨h, depth_rep h n⟩
theorem showable_rep {d : PyData} (h : d.showable = true) : ∀ n, PyData.showableAll (List.replicate n d) = true
  | 0 => by rw [List.replicate_zero, PyData.showableAll]
  | n + 1 => by rw [List.replicate_succ, PyData.showableAll, h, showable_rep h n]; rfl
theorem textFrom_rep {x : Str} : ∀ (n k : Nat) (acc : Str), (textFrom k acc (List.replicate n x)).length ≤ acc.length + n * (x.length + 2)
  | 0, k, acc => by
    rw [List.replicate_zero]
    show acc.length ≤ _
    omega
  | n + 1, k, acc => by
    rw [List.replicate_succ]
    have ih := textFrom_rep (x := x) n (k + 1) (acc ++ (if k > 0 then ", " else "" : String) ++ x)
    show (textFrom (k + 1) (acc ++ (if k > 0 then ", " else "" : String) ++ x) (List.replicate n x)).length ≤ _
    rw [strLen_append, strLen_append] at ih
    have h2 : ((if k > 0 then ", " else "" : String) : Str).length ≤ 2 := by
      split
      · decide +kernel
      · decide +kernel
    rw [Nat.succ_mul]
    omega
theorem shownAll_rep (d : PyData) : ∀ n, PyData.shownAll (List.replicate n d) = List.replicate n d.shown
  | 0 => by rw [List.replicate_zero, PyData.shownAll, List.replicate_zero]
  | n + 1 => by rw [List.replicate_succ, PyData.shownAll, shownAll_rep d n, List.replicate_succ]
theorem shown_rep {d : PyData} {k n : Nat} (h : d.shown.length ≤ k) : (PyData.list (List.replicate n d)).shown.length ≤ 2 + n * (k + 2) := by
  rw [PyData.shown, shownAll_rep]
  show (textFrom 0 "[" (List.replicate n d.shown) ++ "]").length ≤ _
  rw [strLen_append]
  have h1 := textFrom_rep (x := d.shown) n 0 "["
  have h2 : n * (d.shown.length + 2) ≤ n * (k + 2) := Nat.mul_le_mul_left _ (by omega)
  have h3 : ("[" : Str).length = 1 := by decide +kernel
  have h4 : ("]" : Str).length = 1 := by decide +kernel
  omega
end Wr
set_option Elab.async false
set_option linter.all false
set_option maxRecDepth 100000
set_option maxHeartbeats 2000000
namespace Wr
open PySem PySem.Spec PyProof.Rows L2 Evl
/-! ### new errors, lists of them -/
/-- te makes an error of the class at C with the value v -/
def EvE (te : TE) (σ : L2.St) (H : Hp) (C : Addr) (v : V) : Prop := ∀ H1, Ex H H1 → ∀ Q : VK, (∀ a H2, H1 a = none → Ex H1 H2 → ExV H2 C a v → Q (.ref a) H2) → te σ H1 Q
theorem mkX_ex {H : Hp} {C a d : Addr} {v : V} (ha : H a = none) (hd : H d = none) : Ex H (mkX H C a d v) := mkX_same ha hd
section
variable {K : PySem.W.Frag} {σ : L2.St} {H H' : Hp} {ta tb te tc tl : TE} {tr tk : TA} {x y z v : V} {C : Addr}
theorem EvE.mono (e : Ex H H') (h : EvE te σ H C v) : EvE te σ H' C v := fun H1 a Q q => h H1 (e.trans a) Q q
theorem ee_X {n m : Nat} {gV : List V → List V → List V} {vs zs : List V} (h : EvA tr σ H vs) (hk : EvA tk σ H zs) (l1 : vs.length = n) (l2 : zs.length = m) (hv : ∀ a, gV (.ref a :: vs) zs = [.ref a, v]) :
    EvE (tMkX C n m gV tr tk) σ H C v := fun H1 e Q q => h H1 e _ fun H2 e2 => hk H2 (e.trans e2) _ fun H3 e3 =>
  ⟨l1, l2, v, hv, fun a d ha hd hn => q a _ (fresh_back (e2.trans e3) ha) ((e2.trans e3).trans (mkX_ex ha hd)) (mkX_at hn)⟩
/-- errors of the classes c i, c (i + 1), .. -/
def ErrsAt (c : Nat → Addr) (H : Hp) (g : V) : Nat → List V → Prop
  | _, [] => True
  | i, x :: xs => (∃ a, x = .ref a ∧ ExV H (c i) a g) ∧ ErrsAt c H g (i + 1) xs
theorem ErrsAt.ex {c : Nat → Addr} {g : V} (s : Ex H H') : ∀ {xs : List V} {i : Nat}, ErrsAt c H g i xs → ErrsAt c H' g i xs
  | [], _, h => h
  | _ :: _, _, ⟨⟨a, e, xv⟩, r⟩ => ⟨⟨a, e, xv.same s⟩, r.ex s⟩
theorem ErrsAt.app {c : Nat → Addr} {g : V} : ∀ {xs ys : List V} {i : Nat}, ErrsAt c H g i xs → ErrsAt c H g (i + xs.length) ys → ErrsAt c H g i (xs ++ ys)
  | [], _, _, _, h => by simpa using h
  | x :: xs, ys, i, ⟨h1, h2⟩, h => ⟨h1, h2.app (by rw [List.length_cons] at h; rw [show i + 1 + xs.length = i + (xs.length + 1) by omega]; exact h)⟩
theorem ErrsAt.get {c : Nat → Addr} {g : V} : ∀ {xs : List V} {i k : Nat}, ErrsAt c H g i xs → k < xs.length → ∃ a, xs[k]? = some (.ref a) ∧ ExV H (c (i + k)) a g
  | [], _, _, _, h => absurd h (by simp)
  | _ :: _, i, 0, ⟨⟨a, e, xv⟩, _⟩, _ => ⟨a, by rw [e]; rfl, xv⟩
  | _ :: xs, i, k + 1, ⟨_, r⟩, h => by
    obtain ⟨a, e, xv⟩ := r.get (k := k) (by simpa using h)
    exact ⟨a, e, by rw [show i + (k + 1) = i + 1 + k by omega]; exact xv⟩
/-- arguments that make n such errors -/
def EvEs (tr : TA) (σ : L2.St) (H : Hp) (c : Nat → Addr) (g : V) (i n : Nat) : Prop := ∀ H1, Ex H H1 → ∀ Q : List V → Hp → Prop, (∀ xs H2, Ex H1 H2 → ErrsAt c H2 g i xs → xs.length = n → Q xs H2) → tr σ H1 Q
theorem ees_nil {c : Nat → Addr} {g : V} {i : Nat} : EvEs tNil σ H c g i 0 := fun H1 _ Q q => q [] H1 (Ex.refl _) True.intro rfl
theorem ees_cons {c : Nat → Addr} {g : V} {i n : Nat} (h : EvE te σ H (c i) g) (r : EvEs tr σ H c g (i + 1) n) : EvEs (tCons te tr) σ H c g i (n + 1) := fun H1 e Q q =>
  h H1 e _ fun a H2 _ e2 xv => r H2 (e.trans e2) _ fun xs H3 e3 hx hl => q _ H3 (e2.trans e3) ⟨⟨a, rfl, xv.same e3⟩, hx⟩ (congrArg Nat.succ hl)
/-- te makes a new list of n such errors -/
def EvEL (te : TE) (σ : L2.St) (H : Hp) (c : Nat → Addr) (g : V) (i n : Nat) : Prop := ∀ H1, Ex H H1 → ∀ Q : VK, (∀ p xs H2, H1 p = none → Ex H1 H2 → H2 p = some (.lst xs) → ErrsAt c H2 g i xs → xs.length = n → Q (.ref p) H2) → te σ H1 Q
theorem eel_lst {c : Nat → Addr} {g : V} {i n : Nat} (r : EvEs tr σ H c g i n) (hn : n ≤ 1000) : EvEL (tLst tr) σ H c g i n := fun H1 e Q q =>
  r H1 e _ fun xs H2 e2 hx hl => ⟨by rw [hl]; exact sz_of (by omega), fun p hp => q p xs _ (fresh_back e2 hp) (e2.trans (Ex.new hp)) upd_same (hx.ex (Ex.new hp)) hl⟩
theorem eel_cat {c : Nat → Addr} {g : V} {i n m : Nat} {l : Addr} {xs : List V} (ha : Ev ta σ H (.ref l)) (hl : H l = some (.lst xs)) (hx : ErrsAt c H g i xs) (hn : xs.length = n) (hb : EvEL tb σ H c g (i + n) m) (hz : n + m ≤ 1000) :
    EvEL (tOp rCat ta tb) σ H c g i (n + m) := fun H1 e Q q => ha H1 e _ fun H2 e2 => hb H2 (e.trans e2) _ fun b zs H3 _ e3 h3 hz3 lz =>
  ⟨l, b, xs, zs, rfl, rfl, e3 l _ (e2 l _ (e l _ hl)), h3, sz_of (by omega), fun p hp => q p _ _ (fresh_back (e2.trans e3) hp) ((e2.trans e3).trans (Ex.new hp)) upd_same
    (((hx.ex ((e.trans e2).trans e3)).app (by rw [hn]; exact hz3)).ex (Ex.new hp)) (by rw [List.length_append, hn, lz])⟩
/-- isinstance(C(..), c) -/
theorem ev_isE {fI : Addr} {c : V} {cv : Value} {b : Bool} (h : EvE te σ H C v) (hc : Ev tc σ H c) (T : XcT K C fI) (W : ClW K) (k : ClsV c cv) (e : PySem.W.kitOne K (.ref C) cv = some b) :
    Ev (tCB (rIsX K) (tCons te (tCons tc tNil))) σ H (.bl b) := fun H1 ex Q q =>
  h H1 ex _ fun a H2 _ e2 xv => hc H2 (ex.trans e2) _ fun H3 e3 => ⟨a, C, fI, v, c, cv, b, rfl, T, W, xv.same e3, k, e, q H3 (e2.trans e3)⟩
variable {D : Ends} {tz : TS}
theorem q_asgEL {c : Nat → Addr} {g : V} {i j n : Nat} (h : EvEL te σ H c g i n) (k : ∀ p xs H1, H p = none → Ex H H1 → H1 p = some (.lst xs) → ErrsAt c H1 g i xs → xs.length = n → tz D (σ.set j (some (.ref p))) H1) :
    tSeq (tAsg te (gName j)) tz D σ H := h H (Ex.refl H) _ fun p xs H1 hp e h1 h2 h3 => k p xs H1 hp e h1 h2 h3
/-- xs.append(C(..)) -/
theorem q_appE {l : Addr} {xs : List V} (hl : H l = some (.lst xs)) (ha : Ev ta σ H (.ref l)) (h : EvE te σ H C v) (hz : xs.length < 100000) (k : ∀ a H1, Ex H H1 → H1 a ≠ none → ExV H1 C a v → tz D σ (upd H1 l (.lst (xs ++ [.ref a])))) :
    tSeq (tDrop (tBM K "list" rAppend ta (tCons te tNil))) tz D σ H := ha H (Ex.refl H) _ fun H1 e1 =>
  ⟨Or.inl ⟨rfl, xs, sq_of (e1 l _ hl)⟩, h H1 e1 _ fun a H2 hp e2 h2 => ⟨l, xs, .ref a, rfl, rfl, e2 l _ (e1 l _ hl), sz_lt hz, k a H2 (e1.trans e2) (by obtain ⟨d, z, _⟩ := h2; rw [z]; exact fun y => nomatch y) h2⟩⟩
end
/-- an error is another thing than a list, a dict -/
theorem ExV.upd {H : Hp} {C a b : Addr} {v : V} {o u : HO} (x : ExV H C a v) (h : H b = some u) (hu : (∃ xs, u = .lst xs) ∨ ∃ kvs, u = .dK kvs) : ExV (upd H b o) C a v := by
  obtain ⟨d, h1, h2⟩ := x
  have n1 : a ≠ b := ne_of h1 h (by
    rcases hu with ⟨xs, rfl⟩ | ⟨kvs, rfl⟩
    · exact fun z => nomatch (show HO.ext _ = HO.lst xs from z)
    · exact fun z => nomatch (show HO.ext _ = HO.dK kvs from z))
  have n2 : d ≠ b := ne_of h2 h (by
    rcases hu with ⟨xs, rfl⟩ | ⟨kvs, rfl⟩
    · exact fun z => nomatch (show HO.ext _ = HO.lst xs from z)
    · exact fun z => nomatch (show HO.ext _ = HO.dK kvs from z))
  exact ⟨d, (upd_ne n1).trans h1, (upd_ne n2).trans h2⟩
theorem ErrsAt.upd {c : Nat → Addr} {H : Hp} {g : V} {b : Addr} {o u : HO} (h : H b = some u) (hu : (∃ xs, u = .lst xs) ∨ ∃ kvs, u = .dK kvs) : ∀ {xs : List V} {i : Nat}, ErrsAt c H g i xs → ErrsAt c (upd H b o) g i xs
  | [], _, x => x
  | _ :: _, _, ⟨⟨a, e, xv⟩, r⟩ => ⟨⟨a, e, xv.upd h hu⟩, r.upd h hu⟩
end Wr
set_option Elab.async false
set_option linter.all false
set_option maxRecDepth 100000
set_option maxHeartbeats 2000000
namespace Wr
open PySem PySem.Spec PyProof.Rows L2
section
variable {P : Program} {w : World} {K : PySem.W.Frag} {mg mb : Str → Option Value} {CX : CXT} {k : Nat} {fa a : Addr} {fd : FuncData} {x : Str} {sp : Sp} {s1 : Shared}
/-- what the row asks of the law's end -/
def RowEnd (s1 : Shared) (r : Result) (s' : Shared) : Prop := r = .ok (.ret (.bool true)) ∧ OldK s1.heap s'.heap ∧ s'.os = s1.os ∧ AllBare s'.gens
theorem end_core {H : Hp} (KX : K.In s1.heap) (hns : s1.heap.Ns mainGlobals mg) (hb : s1.heap.Ns builtinsNs mb) (hbb : ∀ y : Str, y ≠ "__name__" → mb y = bootBuiltins y)
    (hlim : s1.heap.NoLimit) (hg : s1.gens = #[]) (hr : Room k callerA)
    (F : ∀ base : Heap, K.In base → base.Ns mainGlobals mg → FnG P w K mg base CX k fa fd [x] sp) (hbind : ∀ (s : Shared) (u : Value), BindsTo s fd ⟨[u], []⟩ [(x, u)])
    (hsp : sp [.ref a] H (fun v _ => v = .bl true) fun _ _ _ => False) (hok : HOk P w H s1.heap)
    (track : ∀ b u, H b = some u → (∃ ob ys, u = .frz ob (.lst ys)) ∧ K.lookup b = none)
    (hCX : ∀ e s', CX [] H s1 (fun _ _ _ => False) e s' → False) :
    codeAny (model P w) callerA (.call (.ref fa) ⟨[.ref a], []⟩) (RowEnd s1) s1 := by
  have seq_of : ∀ {b : Addr} {u : HO}, H b = some u → ∃ o its n, s1.heap.get? b = some o ∧ o.data = .seq its n := by
    intro b u e
    obtain ⟨⟨ob, ys, rfl⟩, _⟩ := track b u e
    obtain ⟨e1, _, its, n, _, e2⟩ := hok b _ e
    exact ⟨_, _, _, e2, rfl⟩
  have free_of : ∀ {b : Addr} {o : Obj} {es : Array DictEntry} {ep : Nat}, s1.heap.get? b = some o → o.data = .dict es ep → H b = none := by
    intro b o es ep e d
    match q : H b with
    | none => rfl
    | some u =>
      obtain ⟨o2, its, n, e2, d2⟩ := seq_of q
      rw [e] at e2
      cases e2
      rw [d] at d2
      cases d2
  have ns_of : ∀ {b : Addr} {m : Str → Option Value}, s1.heap.Ns b m → (hidT s1.heap H).Ns b m := by
    rintro b m ⟨o, es, ep, e, d, r⟩
    exact ⟨o, es, ep, hidT_get e (free_of e d), d, r⟩
  have kin : K.In (hidT s1.heap H) := by
    intro b o e
    refine hidT_get (KX b o e) ?_
    match q : H b with
    | none => rfl
    | some u =>
      have z := (track b u q).2
      rw [z] at e
      cases e
  obtain ⟨mc, l1, l2⟩ := hlim
  have env0 : Env0 P w K mg (hidT s1.heap H) callerA [] s1 H := {
    frames := rfl
    mod := ⟨kin, ns_of hns, ⟨mb, ns_of hb, hbb⟩, ⟨mc, ns_of l1, l2⟩⟩
    bs := fun b o e => of_hidT e
    bsz := Nat.le_of_eq (hidT_size _ _)
    funs := True.intro
    frf := fun b m => nomatch (show b ∈ ([] : List Addr) from m)
    hok := hok
    bare := .of_eq hg }
  have run := (F _ kin (ns_of hns)).run callerA [] s1 H ⟨[.ref a], []⟩ [.ref a] [.ref a] _ _ rfl hr env0 (hbind s1 (.ref a)) (.cons rfl .nil) hsp
  refine codeAny_mono run fun r s' h => ?_
  match r, h with
  | .error e, h => exact (hCX e s' h).elim
  | .ok .next, h => exact False.elim h
  | .ok .brk, h => exact False.elim h
  | .ok .cont, h => exact False.elim h
  | .ok (.ret u), ⟨v, H', os, bare, un, hok', rv, hv⟩ =>
    subst hv
    obtain rfl : u = Value.bool true := rv
    refine ⟨rfl, OldK.of_keep fun b o e => ?_, os, bare⟩
    match q : H b with
    | none => exact un.keep b o e q (fun m => nomatch (show b ∈ ([] : List Addr) from m)) (by simp)
    | some u =>
      obtain ⟨⟨ob, ys, rfl⟩, _⟩ := track b u q
      obtain ⟨e1, _⟩ := hok b _ q
      obtain ⟨e2, _⟩ := hok' b _ (un.frzs b ob _ q)
      rw [e] at e1
      cases e1
      exact e2
/-- the law's end, its def kept under known guards -/
theorem end_run {vs : List Value} {ns : List Int} (KX : K.In s1.heap) (hns : s1.heap.Ns mainGlobals mg) (hb : s1.heap.Ns builtinsNs mb) (hbb : ∀ y : Str, y ≠ "__name__" → mb y = bootBuiltins y)
    (hlim : s1.heap.NoLimit) (hg : s1.gens = #[]) (ha : s1.heap.get? a = some { cls := .type "list", data := .seq vs.toArray }) (hi : IntsAre vs ns) (hl : ns.length ≤ sizeLine) (hr : Room k callerA)
    (F : ∀ base : Heap, K.In base → base.Ns mainGlobals mg → FnG P w K mg base CX k fa fd [x] sp) (hbind : ∀ (s : Shared) (u : Value), BindsTo s fd ⟨[u], []⟩ [(x, u)])
    (hsp : ∀ H : Hp, SqL K H a (ns.map V.int) → sp [.ref a] H (fun v _ => v = .bl true) fun _ _ _ => False) (hCX : ∀ H e s', CX [] H s1 (fun _ _ _ => False) e s' → False) :
    codeAny (model P w) callerA (.call (.ref fa) ⟨[.ref a], []⟩) (RowEnd s1) s1 := by
  have rv : Vals (ns.map V.int) vs := vals_ints hi
  match hk : K.lookup a with
  | some o =>
    have e := KX a o hk
    rw [ha] at e
    cases e
    refine end_core (H := fun _ => none) KX hns hb hbb hlim hg hr F hbind (hsp _ (Or.inr ⟨_, vs.toArray, _, hk, rfl, rfl, rfl, ?_, by simpa using rv⟩)) (fun b u z => nomatch (show (none : Option HO) = some u from z)) (fun b u z => nomatch (show (none : Option HO) = some u from z)) (hCX _)
    have l := rv.length
    rw [List.length_map] at l
    rw [List.size_toArray]
    omega
  | none =>
    have at_ : (fun b => if b = a then some (HO.frz { cls := .type "list", data := .seq vs.toArray } (.lst (ns.map V.int))) else none : Hp) a = some (.frz { cls := .type "list", data := .seq vs.toArray } (.lst (ns.map V.int))) := if_pos rfl
    have only : ∀ b u, (fun b => if b = a then some (HO.frz { cls := .type "list", data := .seq vs.toArray } (.lst (ns.map V.int))) else none : Hp) b = some u → b = a ∧ u = .frz { cls := .type "list", data := .seq vs.toArray } (.lst (ns.map V.int)) := by
      intro b u e
      by_cases hb2 : b = a
      · subst hb2
        rw [at_] at e
        exact ⟨rfl, (Option.some.inj e).symm⟩
      · have z := (if_neg hb2).symm.trans e
        cases z
    refine end_core (H := fun b => if b = a then some (.frz { cls := .type "list", data := .seq vs.toArray } (.lst (ns.map V.int))) else none) KX hns hb hbb hlim hg hr F hbind (hsp _ (Or.inl (Or.inr ⟨_, at_⟩))) ?_ ?_ (hCX _)
    · intro b u e
      obtain ⟨rfl, rfl⟩ := only b u e
      exact ⟨ha, by rw [List.length_map]; exact hl, vs, _, rv, ha⟩
    · intro b u e
      obtain ⟨rfl, rfl⟩ := only b u e
      exact ⟨⟨_, _, rfl⟩, hk⟩
end
/-- the goal that the head leaves, from the law's promise -/
theorem walkG {l : PySem.W.OpenLaw} {n k : Nat} {q : Program} {loose : List Str} {XP : (Str → Option Value) → Heap → Prop} {YP : World → Heap → Prop} {d : DefRec} {K : Params → PySem.W.Frag} {sp : PySem.W.Frag → Sp} {x : Str}
    (hn : l.most = some n) (hn2 : n ≤ sizeLine) (hdf : d.params.defaults = []) (hr : Room k callerA) (hY : ∀ (w : World) (h : Heap), YP w h → (K w.params).In h)
    (F : ∀ (w : World) (mg : Str → Option Value) (fa : Addr) (h : Heap), (K w.params).In h → h.Ns mainGlobals mg → mg d.name = some (.ref fa) →
      ∃ fd : FuncData, (∀ (s : Shared) (u : Value), BindsTo s fd ⟨[u], []⟩ [(x, u)]) ∧ ∀ base : Heap, (K w.params).In base → base.Ns mainGlobals mg → FnG l.prog w (K w.params) mg base CX0 k fa fd [x] (sp (K w.params)))
    (hsp : ∀ (K : PySem.W.Frag) (H : Hp) (a : Addr) (ns : List Int), ns.length ≤ n → SqL K H a (ns.map V.int) → sp K [.ref a] H (fun v _ => v = .bl true) fun _ _ _ => False) :
    PySem.W.WalkO q loose XP YP l.row.toRowW d [] (fun f vs => PySem.call f vs) := by
  refine Att.attach_call hn hdf ?_
  intro w s0 s1 mg mb fa o pm cd doc a vs ns G Y ho hd hcd hmg hobj hints hlen hg
  have kx := hY w _ Y
  obtain ⟨fd, hb, hF⟩ := F w mg fa _ kx G.T.g hmg
  exact end_run kx G.T.g G.T.b G.T.builtins G.T.nolimit hg hobj hints (Nat.le_trans hlen hn2) hr hF hb (fun H hS => hsp _ H a ns hlen hS) fun _ _ _ z => z
end Wr
set_option Elab.async false
set_option linter.all false
set_option maxRecDepth 100000
set_option maxHeartbeats 2000000
namespace Wr
open PySem PySem.Spec PyProof.Rows L2 Evl
/-! ### instances of own classes: compared, made in a try -/
/-- x == y, by the own __eq__ of the class at C -/
def rEqI (K : PySem.W.Frag) (C : Addr) (sp : Sp) (E : XK) : R2 := fun x y H Q => ∃ (a dx : Addr) (fs : List (Str × V)) (t : Value), x = .ref a ∧ H a = some (.ins C dx fs) ∧ TyX K H y t ∧
  PySem.W.notFirst K C t = true ∧ sp [.ref a, y] H (fun v H' => ∃ b : Bool, v = .bl b ∧ Q (.bl b) H') E
/-- x != y, two such instances -/
def rNeI (C : Addr) (sp : Sp) (E : XK) : R2 := fun x y H Q => ∃ (a dx : Addr) (fs : List (Str × V)) (b dy : Addr) (gs : List (Str × V)), x = .ref a ∧ H a = some (.ins C dx fs) ∧ y = .ref b ∧
  H b = some (.ins C dy gs) ∧ sp [.ref a, .ref b] H (fun v H' => ∃ b : Bool, v = .bl b ∧ Q (.bl (!b)) H') E
section
variable {M : Model} {A : Around} {E : Value → Shared → Prop} {s : Shared} {K : PySem.W.Frag} {x C : Addr} {ox : Obj} {od : Option Obj} {name : Str}
theorem bound_B {args : List Value} {Q : Option Value → Shared → Prop} {id : String} (X : K.In s.heap) (I : PySem.W.InstAt s.heap x ox C od) (hs : PySem.W.findIn K (.ref C) name = some (some (.builtin id)))
    (hbd : ∀ v, bindSpecial (.builtin id) v = pure (.builtin id, [v])) (h : wpAny M A (call (.builtin id) (.ref x :: args)) (fun v => Q (some v)) E s) :
    wpAny M A (callSpecialIfBound? (.ref x) name args) Q E s := by
  simp only [callSpecialIfBound?, bindSpecialIfBound?]
  refine wpAny_holding (wpAny_bind (wpAny_bind (wpAny_bind (I.type.here ((PySem.W.looks_findIn X hs).here ?_)))))
  simp only [hbd]
  refine wpAny_bind (wpAny_askSetting (wpAny_ite ?_))
  have fin : wpAny M A (call (.builtin id) ([.ref x] ++ args) >>= fun v => pure (some v)) Q E s := wpAny_bind (wpAny_mono h (fun v s' h' => wpAny_pure h') fun _ _ h' => h')
  split
  · exact wpAny_bind (wpAny_pure (wpAny_pure fin))
  · exact wpAny_tryCatch (wpAny_bind (wpAny_pure (wpAny_pure fin)))
end
section
variable {prog : Program} {w : World} {A : Around} {E : Value → Shared → Prop} {s : Shared} {K : PySem.W.Frag} {x y C f : Addr} {ox oy : Obj} {od oe : Option Obj}
theorem ne_K {Q : Value → Shared → Prop} (hu : A.units + 1 < cLine) (X : K.In s.heap) (I : PySem.W.InstAt s.heap x ox C od) (J : PySem.W.InstAt s.heap y oy C oe) (hn : PySem.W.findIn K (.ref C) "__ne__" = some (some (.builtin "object.__ne__")))
    (hs : PySem.W.findIn K (.ref C) "__eq__" = some (some (.ref f))) (hf : PySem.W.isFn K (.ref f) = true) (hm : PySem.W.mroIn K C (.type "object") = some true)
    (h : wpAny (model prog w) A.in1 (call (.ref f) [.ref x, .ref y]) (fun v s' => ∃ b : Bool, v = .bool b ∧ Q (.bool (!b)) s') E s) : wpAny (model prog w) A (richCompare .NotEq (.ref x) (.ref y)) Q E s := by
  have sub : PySem.W.Looks (model prog w) s.heap (isInstance (.ref x) (.type "object")) true := I.type.andThen (PySem.W.looks_mroIn X hm)
  have one : wpAny (model prog w) A (tryCompare (.ref x) "__ne__" (.ref y)) (fun r s' => ∃ b : Bool, r = some (.bool (!b)) ∧ Q (.bool (!b)) s') E s := by
    unfold tryCompare
    refine wpAny_bind (bound_B X I hn F.cmp_object.ne.bind (wpAny_call (codeAny_call_builtin F.cmp_object.ne.plain F.cmpEntry_ne
      (PySem.W.check_slot F.cmpKind_ne F.cmpSplit_ne sub (F.cmpArgs_ne _ _) ?_))))
    unfold Builtin.«object.__ne__»
    repeat (first
      | with_reducible refine wpAny_cRoomFor hu ?_
      | (refine wpAny_bind (m := callSpecialIfBound? (.ref x) (Str.ofString "__eq__") [.ref y]) (PySem.W.ifBound_K (name := "__eq__") X I hs hf (wpAny_mono h (fun r s' hr => by
          obtain ⟨b, rfl, hq⟩ := hr
          repeat (first | exact ⟨b, rfl, hq⟩ | exact wpAny_pure ⟨b, rfl, hq⟩ | exact wpAny_truthy_bool ⟨b, rfl, hq⟩ | (refine wpAny_bind (m := truthy (.bool _)) (wpAny_truthy_bool ?_)) | wp_step)) fun _ _ e => e)))
      | wp_step)
  unfold richCompare
  simp only [oneThing_ref]
  refine wpAny_holding (wpAny_bind (wpAny_cRoomFor (Nat.lt_of_succ_lt hu) ?_))
  refine wpAny_bind (I.type.here (wpAny_bind (J.type.here ?_)))
  rw [show (Value.ref C != Value.ref C) = false from by simp]
  simp only [Bool.false_eq_true, if_false]
  refine wpAny_bind (wpAny_pure ?_)
  simp only [Bool.false_eq_true, if_false]
  refine wpAny_bind (wpAny_mono one (fun r s' z => ?_) fun _ _ e => e)
  obtain ⟨b, rfl, hq⟩ := z
  exact wpAny_pure hq
end
section
variable {X : Cx} {CX : CXT} {k : Nat} {f C : Addr} {fd : FuncData} {ps : List Str} {sp : Sp} {E : XK}
/-- the callee runs, in the surroundings A -/
theorem runA {A : Around} {pins : List (Addr × Obj)} {σ : L2.St} {H : Hp} {s : Shared} {Q : VK} {us : List Value} {vs : List V} (F : FnOk X.prog X.w X.K X.mg X.base CX k f fd ps sp) (hr : Room k A) (hb : Binds X.K fd ps []) (hx : Passes CX X E)
    (I : Inv X pins σ H s) (e0 : Env0 X.prog X.w X.K X.mg X.base A X.stack s H) (r : Vals vs us) (h : sp vs H Q E) : wpAny (model X.prog X.w) A (call (.ref f) us) (EP X pins σ Q) X.xe s := by
  have hl : us.length = ps.length := r.length.symm.trans (F.len _ _ _ _ h)
  have b := hb s us I.kIn (by rw [List.append_nil]; exact hl)
  rw [List.append_nil] at b
  refine wpAny_call (codeAny_mono (F.run A X.stack s H ⟨us, []⟩ us vs Q E hr e0 b r h) ?_)
  intro r' s' hq
  match r', hq with
  | .error er, hq => exact hx pins σ H s er s' I hq
  | .ok (.ret u), hq => exact I.after hq
  | .ok .next, hq => exact False.elim hq
  | .ok .brk, hq => exact False.elim hq
  | .ok .cont, hq => exact False.elim hq
theorem op_eqI (F : FnOk X.prog X.w X.K X.mg X.base CX k f fd ps sp) (hs : PySem.W.findIn X.K (.ref C) "__eq__" = some (some (.ref f))) (hf : PySem.W.isFn X.K (.ref f) = true) (hb : Binds X.K fd ps []) (hx : Passes CX X E) (hr : Room k X.A) :
    OpR X (compareOp .Eq) (rEqI X.K C sp E) := by
  intro pins s σ H x y v u Q I rx ry h
  obtain ⟨a, dx, fs, t, rfl, ha, ty, hn, q⟩ := h
  obtain rfl : v = Value.ref a := rx
  obtain ⟨mA, J, _⟩ := ins_get I.hok ha
  obtain ⟨od, J, _⟩ := J.look
  obtain ⟨m, hF⟩ := I.fr
  obtain ⟨P, Z, p, _⟩ := kit_of I ry ty
  show wpAny _ _ (richCompare .Eq (.ref a) u) _ _ _
  refine PySem.W.cmp_K (op := .Eq) (tb := t) hr.units0 hF I.ok.mod.kin J (Z.ty _ _ I.kIn p) hn hs hf ?_
  refine wpAny_mono (runA (vs := [V.ref a, y]) F hr hb hx I I.env0 (.cons rfl (.cons ry .nil)) q) (fun w s' z => ?_) fun _ _ x => x
  obtain ⟨z1, H', I', rz, b, ez, q'⟩ := z
  subst ez
  obtain rfl : w = Value.bool b := rz
  exact ⟨.bl b, H', I', rfl, q'⟩
theorem op_neI (F : FnOk X.prog X.w X.K X.mg X.base CX k f fd ps sp) (hs : PySem.W.findIn X.K (.ref C) "__eq__" = some (some (.ref f))) (hf : PySem.W.isFn X.K (.ref f) = true) (hno : PySem.W.findIn X.K (.ref C) "__ne__" = some (some (.builtin "object.__ne__")))
    (hm : PySem.W.mroIn X.K C (.type "object") = some true) (hb : Binds X.K fd ps []) (hx : Passes CX X E) (hr : Room (k + 1) X.A) : OpR X (compareOp .NotEq) (rNeI C sp E) := by
  intro pins s σ H x y v u Q I rx ry h
  obtain ⟨a, dx, fs, b, dy, gs, rfl, ha, rfl, hb', q⟩ := h
  obtain rfl : v = Value.ref a := rx
  obtain rfl : u = Value.ref b := ry
  obtain ⟨mA, J, _⟩ := ins_get I.hok ha
  obtain ⟨od, J, _⟩ := J.look
  obtain ⟨mB, J2, _⟩ := ins_get I.hok hb'
  obtain ⟨oe, J2, _⟩ := J2.look
  show wpAny _ _ (richCompare .NotEq (.ref a) (.ref b)) _ _ _
  refine ne_K (by have := hr.un; omega) I.kIn J J2 hno hs hf hm ?_
  refine wpAny_mono (runA (vs := [V.ref a, V.ref b]) F hr.in1 hb hx I I.env0.in1 (.cons rfl (.cons rfl .nil)) q) (fun w s' z => ?_) fun _ _ x => x
  obtain ⟨z1, H', I', rz, b, ez, q'⟩ := z
  subst ez
  obtain rfl : w = Value.bool b := rz
  exact ⟨b, rfl, .bl (!b), H', I', rfl, q'⟩
/-- C(e, ..) where what its __init__ raises is wished for at these slots -/
def tMakeS (C : Addr) (sp : Sp) (E : L2.St → XK) (t : TA) : TE := fun σ H Q => t σ H fun vs H1 => ∀ x dx, H1 x = none → H1 dx = none → dx ≠ x →
  sp (.ref x :: vs) (upd (upd H1 dx (.own x)) x (.ins C dx [])) (fun v H2 => v = .non ∧ Q (.ref x) H2) (E σ)
variable {E : L2.St → XK} {x : Str} {p pos : Pos} {e : Expr} {es : List Expr} {t : TA}
theorem pe_makeS (M : Mk X.K C f) (F : FnOk X.prog X.w X.K X.mg X.base CX k f fd ps sp) (hr : Room (k + 1) X.A) (hg : Gl X x) (hm : X.mg x = some (.ref C)) (hb : Binds X.K fd ps []) (hx : ∀ σ, PassesAt CX X σ (E σ))
    (ha : PA X (e :: es) t) (hdb : (x == ("__debug__" : Str)) = false := by decide) (he : starEach (e :: es) X.env = (false, eval e X.env) :: starEach es X.env := by rfl) (hpl : (backTo pos (starEach es X.env)).any (·.1) = false := by rfl) :
    PE X (.Call (.Name x p) (e :: es) [] pos) (tMakeS C sp E t) := by
  refine ⟨fun pins s σ H Q I h => wpAny_Call_Name_kw (ld_glob I hg hm ?_ hdb)⟩
  refine PySem.W.callWith_K (h₀ := X.base) I.ok.mod.kin M.kp (thn (ha.run pos pins s σ H _ I h) ?_) he hpl
  rintro us s1 ⟨vs, H1, I1, r, q1⟩
  refine ⟨I1.kIn, ?_⟩
  show wpAny _ _ (call (.ref C) us) _ _ _
  have hq := q1 (s1.heap.objs.size + 1) s1.heap.objs.size (I1.hok.fresh (Nat.le_succ _)) (I1.hok.fresh (Nat.le_refl _)) (Nat.ne_of_lt (Nat.lt_succ_self _))
  have I2 := Inv.made (C := C) I1
  have r2 : Vals (V.ref (s1.heap.objs.size + 1) :: vs) (Value.ref (s1.heap.objs.size + 1) :: us) := .cons rfl r
  have hl : (Value.ref (s1.heap.objs.size + 1) :: us).length = ps.length := r2.length.symm.trans (F.len _ _ _ _ hq)
  have b := hb { s1 with heap := (s1.heap.push PySem.W.emptyDict).push (PySem.W.instObj C s1.heap.objs.size) } (.ref (s1.heap.objs.size + 1) :: us) I2.kIn (by rw [List.append_nil]; exact hl)
  rw [List.append_nil] at b
  refine wpAny_call (make_map (f := f) I1.kIn M.makes M.init (beq_iff_eq.mp M.fn) (codeAny_mono (F.run _ X.stack _ _ ⟨Value.ref (s1.heap.objs.size + 1) :: us, []⟩ (Value.ref (s1.heap.objs.size + 1) :: us) _ _ (E σ) (hr.make C us [])
    (I2.env0.make C us []) b r2 hq) ?_))
  intro r' s' hq'
  match r', hq' with
  | .error er, hq' => exact hx σ pins _ _ er s' I2 hq'
  | .ok (.ret u), hq' =>
    obtain ⟨v, H', I3, rv, ev, q3⟩ := I2.after hq'
    subst ev
    exact ⟨rv, ⟨V.ref (s1.heap.objs.size + 1), H', I3, rfl, q3⟩⟩
  | .ok .next, hq' => exact False.elim hq'
  | .ok .brk, hq' => exact False.elim hq'
  | .ok .cont, hq' => exact False.elim hq'
end
end Wr
set_option Elab.async false
set_option linter.all false
set_option maxRecDepth 100000
set_option maxHeartbeats 2000000
namespace Wr
open PySem PySem.Spec PyProof.Rows L2 Evl
/-! ### a caught error that is kept behind its suite -/
/-- a caught error of the class at C stands at a, its dict is d -/
def exw (a C : Addr) (d : Option Addr) : HO := .ext fun h => ∃ (oe : Obj) (vs : Array Value), h.get? a = some oe ∧ Zc (.ref C) d oe ∧ oe.data = .fields vs
theorem exw_ok {P : Program} {w : World} {H : Hp} {h : Heap} {a C : Addr} {d : Option Addr} {oe : Obj} {vs : Array Value} (he : h.get? a = some oe) (hz : Zc (.ref C) d oe) (hd : oe.data = .fields vs) : ObjOk P w H h a (exw a C d) :=
  ⟨⟨oe, vs, he, hz, hd⟩, ⟨oe, he⟩, fun _ _ ⟨o, v, e, z, y⟩ k => ⟨o, v, k _ e, z, y⟩⟩
theorem exw_at {P : Program} {w : World} {H : Hp} {h : Heap} {a C : Addr} {d : Option Addr} (hok : HOk P w H h) (e : H a = some (exw a C d)) : ∃ (oe : Obj) (vs : Array Value), h.get? a = some oe ∧ Zc (.ref C) d oe ∧ oe.data = .fields vs := by
  have x : ObjOk P w H h a (.ext fun h => ∃ (oe : Obj) (vs : Array Value), h.get? a = some oe ∧ Zc (.ref C) d oe ∧ oe.data = .fields vs) := hok a _ e
  exact x.1
section
variable {X : Cx} {pins : List (Addr × Obj)} {σ : L2.St} {H : Hp} {sI s' : Shared} {B : Heap} {a C : Addr} {d : Option Addr} {oe : Obj} {vs : Array Value}
/-- back on the ground, the error among what is tracked -/
theorem landedX (I : Inv X pins σ H sI) (nb : ∀ b o, sI.heap.get? b = some o → b ∉ frs X.stack → B.get? b = some o) (st : B.StaysIn s'.heap) (up : sI.heap.UpToSlots s'.heap) (ho : s'.os = sI.os) (hg : AllBare s'.gens)
    (ba : B.get? a = none) (nf : a ∉ frs X.stack) (na : H a = none) (he : s'.heap.get? a = some oe) (hz : Zc (.ref C) d oe) (hd : oe.data = .fields vs) : Inv X pins σ (upd H a (exw a C d)) s' := by
  have fr : ∀ b, b ∈ frs X.stack → ∀ o, sI.heap.get? b = some o → ∃ sl, s'.heap.get? b = some { o with slots := sl } := by
    intro b m o e
    obtain ⟨_, o2, e2, z⟩ := I.stack.mem m
    obtain rfl : o = o2 := Option.some.inj (e.symm.trans e2)
    exact up b o e z
  have ia : sI.heap.get? a = none := by
    match q : sI.heap.get? a with
    | none => rfl
    | some o => exact nomatch ba.symm.trans (nb a o q nf)
  have ne : ∀ {b : Addr} {o : Obj}, sI.heap.get? b = some o → b ≠ a := fun {b o} e z => by
    rw [z, ia] at e
    cases e
  have ok : HOk X.prog X.w (upd H a (exw a C d)) s'.heap := by
    intro b o q
    by_cases hb : b = a
    · rw [hb, upd_same] at q
      cases q
      rw [hb]
      exact exw_ok he hz hd
    · rw [upd_ne hb] at q
      exact ((I.inGround nb).kept st b o q).stay (fun _ _ _ z => z) (fun c hc => (upd_ne (ne_of_none hc na)).trans hc) (fun c xs hc => (upd_ne (ne_of_none hc na)).trans hc)
  have U : Un (frs X.stack) [] H (upd H a (exw a C d)) sI.heap s'.heap := by
    refine ⟨?_, ?_, ?_, ?_, ?_, ?_, ?_⟩
    · intro b o e _ m _
      exact st b o (nb b o e m)
    · intro b o e _ m _
      exact fr b m o e
    · intro b o e n _
      exact (upd_ne (ne e)).trans n
    · intro b o e _
      by_cases m : b ∈ frs X.stack
      · obtain ⟨sl, q⟩ := fr b m o e
        exact ⟨_, q⟩
      · exact ⟨o, st b o (nb b o e m)⟩
    · intro b xs e
      exact (upd_ne (ne_of_none e na)).trans e
    · intro b o v e
      exact (upd_ne (ne_of_none e na)).trans e
    · intro b ps e
      refine ⟨#[], ?_⟩
      rw [upd_ne (ne_of_none e na), e, Array.append_empty]
  have J := I.call (h' := s'.heap) (g' := s'.gens) (t' := s'.toks) (d' := s'.drawn) (ch := []) U ok hg (fun _ z => nomatch z)
  obtain ⟨a1, a2, a3, a4, a5⟩ := s'
  obtain rfl : a5 = sI.os := ho
  exact J
end
/-- where such a suite runs -/
abbrev suK (X : Cx) (a : Addr) : Cx := { X with A := X.A.mark (some (.ref a)), calm := false, xe := fun _ _ => False }
theorem suK_ok {X : Cx} (k : X.Ok) (a : Addr) : (suK X a).Ok :=
  ⟨k.mod, k.kind, k.glob, k.blt, k.above, k.inj, k.has, k.cab, (fun z => nomatch (show false = true from z)), k.frames, k.stk, k.exf, k.bs, k.bsz, k.noex, k.exfs, k.funs, k.frf⟩
section
variable {X : Cx} {pins : List (Addr × Obj)} {σ : L2.St} {H : Hp} {s : Shared} {a : Addr}
theorem toK (I : Inv X pins σ H s) (a : Addr) : Inv (suK X a) pins σ H s :=
  ⟨suK_ok I.ok a, I.os, I.bare, I.base, I.loc, I.cell, I.free, I.freeC, I.pin, I.hok, I.len⟩
theorem ofK (I : Inv (suK X a) pins σ H s) (k : X.Ok) : Inv X pins σ H s :=
  ⟨k, I.os, I.bare, I.base, I.loc, I.cell, I.free, I.freeC, I.pin, I.hok, I.len⟩
end
/-- behind the suite the clause's name is gone -/
def offK (i : Nat) (D : Ends) : Ends := { nx := fun σ H => D.nx (σ.set i none) H, rt := D.rt, bk := fun σ H => D.bk (σ.set i none) H, ct := fun σ H => D.ct (σ.set i none) H }
/-- what the clause wishes of an exception of the body: its class is caught -/
def wKeep (K : PySem.W.Frag) (c : Value) (i : Nat) (ts : Addr → TS) (D : Ends) : WX := fun cls d σ H => ∃ C : Addr, cls = .ref C ∧ PySem.W.exmOne K cls c = some true ∧
  ∀ a, H a = none → ts a (offK i D) (σ.set i (some (.ref a))) (upd H a (exw a C d))
section
variable {X : Cx} {x n : Str} {c : Value} {i : Nat} {body suite : List Stmt} {b₀ : Stmt} {np pos pos' : Pos} {tb : WX → TS} {ts : Addr → TS}
/-- try: body / except x as n: suite, every exception of the body caught -/
theorem ps_keep (hs : X.stack = X.env :: X.outer) (hf : X.env.frame = some X.env.locals) (hN : X.N.Nodup) (hi : X.N[i]? = some n) (hln : X.env.kindOf n = some .local) (hc : Names X x c)
    (hb : ∀ (W : WX) (pn : List (Addr × Obj)) (xe : Value → Shared → Prop), Takes (X.tr pn xe) W → PassesOwn (model X.prog X.w) X.A X.env xe → PSs (X.tr pn xe) body (tb W))
    (hsu : ∀ a : Addr, PSs (suK X a) (b₀ :: suite) (ts a)) :
    PS X (.Try body [.ExceptHandler (some (.Name x np)) (some n) (b₀ :: suite) pos'] [] [] pos) (fun D σ H => tb (wKeep X.K c i ts D) D σ H) := by
  refine ⟨fun pins s σ H D I h => wpAny_Try_except ?_⟩
  have ok := I.ok
  have fr : X.A.frames = some (X.env :: X.outer) := ok.frames.trans (congrArg some hs)
  refine wpAny_mono ((hb (wKeep X.K c i ts D) (X.pn ++ pins) (fun e s1 => wpAny (model X.prog X.w) X.A (noteFrame e X.env) (fun _ s2 => wpAny (model X.prog X.w) X.A (setFlight e none)
    (fun _ s3 => wpAny (model X.prog X.w) X.A (handleBy e X.env [.ExceptHandler (some (.Name x np)) (some n) (b₀ :: suite) pos']) (SP X pins D) X.xe s3) X.xe s2) X.xe s1)
    (fun u s' xx => ?_) PassesOwn.looking).run [] s σ H D (I.toTry _) h) (fun f s1 hsp => ?_) (fun e s1 he => he)
  · show wpAny (model X.prog X.w) X.A (noteFrame u X.env) _ _ _
    obtain ⟨a, B, sI, pins', σ', H', cls, d, rfl, J', nb, up, sky, na, ho, hg, C, rfl, hx, hsuit⟩ := xx
    have J : Inv X pins σ' H' sI := J'.ofTry ok
    have sky' : Sky B (X.env :: X.outer) a (Zc (.ref C) d) X.env.locals s'.heap := hs ▸ sky
    refine Sky.land Zc.steady fr hf sky' fun h3 f3 up3 => ?_
    have J3 : Inv X pins σ' H' { s' with heap := h3 } := J.landed nb f3.1 (up.trans up3) ho hg
    obtain ⟨o3, v3, e3, z3, d3⟩ := f3.there
    have nfr : a ∉ frs X.stack := by
      rw [hs]
      intro m
      obtain ⟨_, o', e', z⟩ := f3.2.2.1.mem m
      obtain rfl : o3 = o' := Option.some.inj (e3.symm.trans e')
      exact z _ d3
    refine wpAny_handleBy_cons (codeAny_handlers_test ?_) (fun q => nomatch q)
    have LT : PySem.W.Looks (model X.prog X.w) h3 (typeOf (.ref a)) (.ref C) := fun A Q E s k q => wpAny_typeOf_ref (k _ _ e3) (by rw [z3.1]; exact q)
    have LM := PySem.W.exm_one (M := model X.prog X.w) (J3.kIn) LT hx
    have S3 := toK J3 a
    have test : ∀ {Q : Value → Shared → Prop} {E : Value → Shared → Prop}, Q c { s' with heap := h3 } → wpAny (model X.prog X.w) (X.A.mark (some (.ref a))) (eval (.Name x np) X.env) Q E { s' with heap := h3 } := by
      intro Q E q
      obtain ⟨hg, hd, hm | ⟨hm, hv, hn⟩⟩ := hc
      · exact ld_glob (X := suK X a) S3 hg hm q hd
      · exact ld_blt (X := suK X a) S3 hg hm hv q hn hd
    refine test (LM.here (codeAny_handlers_suite_as ?_))
    refine HandSPX.lands_againZ f3 fun h4 f4 up4 => ?_
    obtain ⟨o4, v4, e4, z4, d4⟩ := f4.there
    have J4 : Inv X pins σ' (upd H' a (exw a C d)) { s' with heap := h4 } := landedX J nb f4.1 ((up.trans up3).trans up4) ho hg f4.2.1 nfr na e4 z4 d4
    refine store_ok (X := suK X a) (v := .ref a) (toK J4 a) hN hi (Or.inl hln) rfl (fun s5 S5 => ?_) (.inr hln)
    refine wpAny_mono ((hsu a).run pins s5 _ _ _ S5 (hsuit a na)) (fun f s6 hsp => ?_) (fun _ _ z => False.elim z)
    have fin : ∀ {σ6 : L2.St} {H6 : Hp} {Q : Shared → Prop}, Inv (suK X a) pins σ6 H6 s6 → (∀ s7, Inv X pins (σ6.set i none) H6 s7 → Q s7) →
        wpAny (model X.prog X.w) X.A (do bindName X.env n .none; unbindBehindTheSuite X.env n pos') (fun _ s7 => Q s7) X.xe s6 := by
      intro σ6 H6 Q S6 hq
      exact gone_ok (ofK S6 ok) hN hi hln hq
    match f, hsp with
    | .next, ⟨σ6, H6, S6, q⟩ => exact fin S6 fun s7 J7 => ⟨_, _, J7, q⟩
    | .brk, ⟨σ6, H6, S6, q⟩ => exact fin S6 fun s7 J7 => ⟨_, _, J7, q⟩
    | .cont, ⟨σ6, H6, S6, q⟩ => exact fin S6 fun s7 J7 => ⟨_, _, J7, q⟩
    | .ret u, ⟨v6, σ6, H6, S6, r, q⟩ => exact fin S6 fun s7 J7 => ⟨_, _, _, J7, r, q⟩
  · match f, hsp with
    | .next, ⟨σ', H', J, q⟩ => exact wpAny_execs_nil ⟨σ', H', J.ofTry ok, q⟩
    | .brk, ⟨σ', H', J, q⟩ => exact ⟨σ', H', J.ofTry ok, q⟩
    | .cont, ⟨σ', H', J, q⟩ => exact ⟨σ', H', J.ofTry ok, q⟩
    | .ret u, ⟨v, σ', H', J, r, q⟩ => exact ⟨v, σ', H', J.ofTry ok, r, q⟩
end
/-! ### .. its value, isinstance of it -/
/-- a caught error of the class at C stands at a, its value is v -/
def ExK (H : Hp) (C a : Addr) (v : V) : Prop := ∃ d : Addr, H a = some (exw a C (some d)) ∧ H d = some (.xd [(("value" : Str), v)])
theorem ExK.ex {H H' : Hp} {C a : Addr} {v : V} (s : Ex H H') (x : ExK H C a v) : ExK H' C a v :=
  let ⟨d, h1, h2⟩ := x
  ⟨d, s _ _ h1, s _ _ h2⟩
def tXk (K : PySem.W.Frag) (te : TE) : TE := fun σ H Q => te σ H fun x H1 => ∃ a C fI v, x = .ref a ∧ XcT K C fI ∧ ExK H1 C a v ∧ Q v H1
def rIsK (K : PySem.W.Frag) : List V → Hp → VK → Prop := fun xs H Q => ∃ (a C fI : Addr) (v c : V) (cv : Value) (b : Bool), xs = [.ref a, c] ∧ XcT K C fI ∧ ClW K ∧ ExK H C a v ∧
  ClsV c cv ∧ PySem.W.kitOne K (.ref C) cv = some b ∧ Q (.bl b) H
section
variable {X : Cx}
theorem inst_atK {pins : List (Addr × Obj)} {σ : L2.St} {H : Hp} {s : Shared} {C a : Addr} {v : V} (I : Inv X pins σ H s) (x : ExK H C a v) :
    ∃ (ox od : Obj) (mA : Str → Option Value), PySem.W.InstAt s.heap a ox C (some od) ∧ PySem.W.lookIn ("value" : Str) od = some (mA ("value" : Str)) ∧ RelO (some v) (mA ("value" : Str)) := by
  obtain ⟨d, e1, e2⟩ := x
  obtain ⟨oe, vs, ho, hz, hd⟩ := exw_at I.hok e1
  have hx : ObjOk X.prog X.w H s.heap d (.xd [(("value" : Str), v)]) := I.hok d _ e2
  obtain ⟨mA, hns, hr⟩ := hx
  obtain ⟨od, hod, hl⟩ := lookIn_ns hns
  have z := hr ("value" : Str)
  have q : List.lookup ("value" : Str) [(("value" : Str), v)] = some v := by simp [List.lookup]
  rw [q] at z
  exact ⟨oe, od, mA, ⟨ho, hz.1, by unfold PySem.W.notCls; rw [hd] <;> rfl, by rw [hz.2]; exact hod⟩, hl _, z⟩
theorem pe_xk {e : Expr} {te : TE} {pos : Pos} (he : PE X e te) (hb : attributeBase e "value" X.env (eval e X.env) = eval e X.env := by rfl) :
    PE X (.Attribute e "value" pos) (tXk X.K te) := by
  refine ⟨fun pins s σ H Q I h => attr_of hb (thn (he.run pins s σ H _ I h) ?_)⟩
  rintro u s1 ⟨x, H1, I1, rx, a, C, fI, v, rfl, T, xv, q⟩
  obtain rfl : u = Value.ref a := rx
  obtain ⟨ox, od, mA, J, hl, hv⟩ := inst_atK I1 xv
  obtain ⟨u2, hu, ru⟩ := RelO.some_of hv
  refine HandSPX.exc_get I1.kIn J T.ga T.gg T.oex.exC (PySem.W.findObj_own T.hd T.no rfl (by rw [hl, hu])) (handed_of ru) ⟨v, H1, I1.tok _, ru, q⟩
theorem call_isK : CallR X (.builtin "isinstance") (rIsK X.K) := by
  intro pins s σ H xs us Q I r h
  obtain ⟨a, C, fI, v, c, cv, b, rfl, T, W, xv, hc, e, q⟩ := h
  obtain ⟨u1, u2, rfl, r1, r2⟩ := vals2 r
  obtain rfl : u1 = Value.ref a := r1
  obtain rfl := hc.eq r2
  obtain ⟨ox, od, mA, J, _, _⟩ := inst_atK I xv
  have hcl : (PySem.W.clsIn X.K C).isSome = true := by
    obtain ⟨cd, hcd, _⟩ := PySem.W.any_some T.hd
    rw [hcd]
    all_goals rfl
  exact PySem.W.kia_one (PySem.W.kitx_exc (od := some od) (ox := ox) hcl T.ga T.gg T.oex.exC T.cc W.hn W.tk T.mo) I.kIn J e (fun z => nomatch z)
    fun tk => ⟨.bl b, H, I.tok tk, rfl, q⟩
end
section
variable {K : PySem.W.Frag} {σ : L2.St} {H : Hp} {te tc : TE} {v : V}
theorem ev_xk {C a fI : Addr} (he : Ev te σ H (.ref a)) (T : XcT K C fI) (x : ExK H C a v) : Ev (tXk K te) σ H v := fun H1 e Q q =>
  he H1 e _ fun H2 e2 => ⟨a, C, fI, v, rfl, T, x.ex (e.trans e2), q H2 e2⟩
theorem ev_isK {a C fI : Addr} {c : V} {cv : Value} {b : Bool} (ha : Ev te σ H (.ref a)) (hc : Ev tc σ H c) (T : XcT K C fI) (W : ClW K) (xv : ExK H C a v)
    (k : ClsV c cv) (e : PySem.W.kitOne K (.ref C) cv = some b) : Ev (tCB (rIsK K) (tCons te (tCons tc tNil))) σ H (.bl b) :=
  ev_cb (ea_cons ha (ea_cons hc ea_nil)) fun H1 ex Q q => ⟨a, C, fI, v, c, cv, b, rfl, T, W, xv.ex ex, k, e, q H1 (Ex.refl _)⟩
end
end Wr
set_option Elab.async false
set_option linter.all false
set_option maxRecDepth 100000
set_option maxHeartbeats 2000000
namespace Wr
open PySem PySem.Spec PyProof.Rows L2 Evl
/-! ### more readings: chains, comprehensions over a text, isinstance -/
theorem tyx_ex {K : PySem.W.Frag} {H H' : Hp} {v : V} {t : Value} (s : Ex H H') (x : TyX K H v t) : TyX K H' v t := by
  cases x with
  | base h =>
    refine .base ?_
    cases h with
    | non => exact .non
    | bl b => exact .bl b
    | int i => exact .int i
    | str y => exact .str y
    | flt y => exact .flt y
    | lst e => exact .lst (s _ _ e)
    | frz e => exact .frz (s _ _ e)
    | tup e => exact .tup (s _ _ e)
    | dK e => exact .dK (s _ _ e)
    | dT e => exact .dT (s _ _ e)
    | ins e a b c d f => exact .ins (s _ _ e) a b c d f
  | byt b => exact .byt b
  | set e => exact .set (s _ _ e)
  | kList e c => exact .kList e c
  | kTuple e c => exact .kTuple e c
  | kDict e c => exact .kDict e c
  | fTuple e => exact .fTuple (s _ _ e)
  | fDict e => exact .fDict (s _ _ e)
section
variable {K : PySem.W.Frag} {σ : L2.St} {H H' : Hp} {ta tb te tc tl : TE} {x y z v w : V} {r r' : R2}
theorem ev_chain {a b : Bool} (ha : Ev ta σ H x) (hb : Ev tb σ H y) (hr : RV r x y H (.bl a)) (hc : a = true → Ev tc σ H w) (hr' : a = true → RV r' y w H (.bl b)) : Ev (tChain r r' ta tb tc) σ H (.bl (a && b)) := fun H1 e Q q =>
  ha H1 e _ fun H2 e2 => hb H2 (e.trans e2) _ fun H3 e3 => hr H3 ((e.trans e2).trans e3) _ fun H4 e4 => ⟨a, rfl, by
    have f := ((e.trans e2).trans e3).trans e4
    cases a with
    | false => exact q H4 ((e2.trans e3).trans e4)
    | true => exact hc rfl H4 f _ fun H5 e5 => hr' rfl H5 (f.trans e5) _ fun H6 e6 => q H6 ((((e2.trans e3).trans e4).trans e5).trans e6)⟩
theorem rv_leS {i j : Str} : RV (fun x y H Q => ∃ i j, x = .str i ∧ y = .str j ∧ Q (.bl (!decide (j.cps.toList < i.cps.toList))) H) (.str i) (.str j) H (.bl (!decide (j.cps.toList < i.cps.toList))) :=
  fun H1 _ Q q => ⟨i, j, rfl, rfl, q H1 (Ex.refl _)⟩
theorem ev_isi {t u : Value} {c : V} {b : Bool} (ha : Ev te σ H x) (hc : Ev tc σ H c) (k : ClsV c u) (ty : TyX K H x t) (e : PySem.W.kitOne K t u = some b) : Ev (tCB (rIsi K) (tCons te (tCons tc tNil))) σ H (.bl b) :=
  ev_cb (ea_cons ha (ea_cons hc ea_nil)) fun H1 ex Q q => ⟨x, c, t, u, b, rfl, k, tyx_ex ex ty, e, q H1 (Ex.refl _)⟩
theorem ev_lenT {s : Str} (ha : Ev te σ H (.str s)) (hs : s.length ≤ 100000) : Ev (tCB (fun xs H Q => ∃ z, xs = [.str z] ∧ z.length ≤ sizeLine ∧ Q (.int z.length) H) (tCons te tNil)) σ H (.int (s.length : Int)) :=
  ev_cb (ea_cons ha ea_nil) fun H1 ex Q q => ⟨s, rfl, sz_of hs, q H1 (Ex.refl _)⟩
theorem ev_tB {b : Bool} (h : EvT (tB te) σ H b) : EvT (tB te) σ H b := h
theorem lc_str {s : Str} {g : TG} {tt : TT} {vs : List Nat} {D : Addr} {Qd : Hp → Prop} (Pv : Nat → Hp → Prop) (h0 : Pv 0 (upd H D (.lst [])))
    (hs : ∀ i c H, s.cps[i]? = some c → Pv i H → g (.str ⟨#[c]⟩) (wipe σ vs) H fun σ2 H2 => wipe σ2 vs = wipe σ vs ∧ tt σ2 H2 fun b H3 =>
      if b = true then te σ2 H3 fun y H4 => ∃ acc, H4 D = some (.lst acc) ∧ acc.length < sizeLine ∧ Pv (i + 1) (upd H4 D (.lst (acc ++ [y]))) else Pv (i + 1) H3) (hd : ∀ H, Pv s.cps.size H → Qd H) :
    ∃ W : Nat → Nat → Hp → Prop, (∃ m, W 0 m (upd H D (.lst []))) ∧ ∀ i m H, W i m H →
      ((Its s).stop i H ∧ Qd H) ∨ ((Its s).go i H ∧ ∃ Nx : Hp → Prop, (∀ H', Nx H' → ∃ m', m' < m ∧ W (i + 1) m' H') ∧ ∀ x H', (Its s).yld i H x H' → g x (wipe σ vs) H' fun σ2 H2 => wipe σ2 vs = wipe σ vs ∧ tt σ2 H2 fun b H3 =>
        if b = true then te σ2 H3 fun y H4 => ∃ acc, H4 D = some (.lst acc) ∧ acc.length < sizeLine ∧ Nx (upd H4 D (.lst (acc ++ [y]))) else Nx H3) := by
  refine ⟨fun i m H => m = s.cps.size - i ∧ i ≤ s.cps.size ∧ Pv i H, ⟨s.cps.size, rfl, Nat.zero_le _, h0⟩, ?_⟩
  rintro i m H ⟨rfl, hi, p⟩
  rcases Nat.lt_or_ge i s.cps.size with hlt | hge
  · refine Or.inr ⟨hlt, Pv (i + 1), fun H' p' => ⟨s.cps.size - (i + 1), by omega, rfl, hlt, p'⟩, ?_⟩
    rintro x H' ⟨rfl, c, hc, rfl⟩
    exact hs i c _ hc p
  · obtain rfl : i = s.cps.size := by omega
    exact Or.inl ⟨Nat.le_refl _, hd H p⟩
/-- [te for j in s], s a text -/
theorem el_lcS {s : Str} {j : Nat} {vs : List Nat} (v : Nat → V) (h : Ev tl σ H (.str s)) (hz : s.cps.size ≤ 40000) (hw : ∀ x, wipe ((wipe σ vs).set j (some x)) vs = wipe σ vs)
    (he : ∀ (i : Nat) (c : Nat) H1, Ex H H1 → s.cps[i]? = some c → Ev te ((wipe σ vs).set j (some (.str ⟨#[c]⟩))) H1 (v i)) :
    EvL (tLc (iStr tl) (gName j) tYes te vs) σ H (given s.cps.size (fun _ => true) v) := fun H0 e Q q => h H0 e _ fun H1 e1 => ⟨s, rfl, fun Dl hD =>
  lc_str (Cw H1 (fun _ => true) v Dl) ⟨hD, Ex.new hD, upd_same⟩
    (fun i c H' hi p => ⟨hw _, cw_turn p (by have := (Array.getElem?_eq_some_iff.mp hi).1; omega) (fun H2 _ Q q => q H2 (Ex.refl _)) (fun _ => he i c H1 (e.trans e1) hi)⟩)
    (fun H' p => q Dl H' (fresh_back e1 p.1) (e1.trans p.2.1) p.2.2)⟩
theorem ev_all {bs : List Bool} (h : EvL te σ H (bs.map V.bl)) : Ev (tCB (rAll K) (tCons te tNil)) σ H (.bl (bs.all id)) := fun H1 e Q q =>
  h H1 e _ fun p H2 _ e2 h2 => ⟨p, bs, rfl, sq_of h2, q H2 e2⟩
theorem el_cat {l : Addr} {xs zs : List V} (ha : Ev ta σ H (.ref l)) (hl : H l = some (.lst xs)) (hb : EvL tb σ H zs)
    (hz : xs.length + zs.length ≤ 100000) : EvL (tOp rCat ta tb) σ H (xs ++ zs) := fun H1 e Q q =>
  ha H1 e _ fun H2 e2 => hb H2 (e.trans e2) _ fun b H3 _ e3 h3 =>
    ⟨l, b, xs, zs, rfl, rfl, e3 l _ (e2 l _ (e l _ hl)), h3, sz_of hz, fun p hp =>
      q p _ (fresh_back (e2.trans e3) hp) ((e2.trans e3).trans (Ex.new hp)) upd_same⟩
theorem el_catN {xs zs : List V} (ha : EvL ta σ H xs) (hb : EvL tb σ H zs)
    (hz : xs.length + zs.length ≤ 100000) : EvL (tOp rCat ta tb) σ H (xs ++ zs) := fun H1 e Q q =>
  ha H1 e _ fun l H2 _ e2 hl => hb H2 (e.trans e2) _ fun b H3 _ e3 h3 =>
    ⟨l, b, xs, zs, rfl, rfl, e3 l _ hl, h3, sz_of hz, fun p hp =>
      q p _ (fresh_back (e2.trans e3) hp) ((e2.trans e3).trans (Ex.new hp)) upd_same⟩
end
theorem given_all {n : Nat} {v : Nat → V} : given n (fun _ => true) v = (List.range n).map v := by
  unfold given
  rw [List.filter_eq_self.mpr (fun _ _ => rfl)]
/-! ### a def as it stands behind the top -/
structure Df (K : PySem.W.Frag) (mg : Str → Option Value) (x : Str) (st : Stmt) where
  a : Addr
  d : FuncData
  g : mg x = some (.ref a)
  F : Fun K x x st a d
theorem Df.b {K : PySem.W.Frag} {mg : Str → Option Value} {x : Str} {st : Stmt} (D : Df K mg x st) {ps : List Str}
    (h : ∀ (kV doc pm : Value) (an : Option Addr) (cdv ct : Value) (us : List Value), us.length = ps.length → bindArgs (PySem.W.fnOf x x (defArgs st) (defBody st) (defScope st) .none kV doc pm an cdv ct) ⟨us, []⟩ = pure (ps.zip us)) :
    Binds K D.d ps [] := D.F.binds h
/-! ### the program's error classes -/
/-- an error class of the program: its words, its __init__ -/
structure XcF (K : PySem.W.Frag) (C fI : Addr) : Prop where
  x : XcT K C fI
  D : ∃ (qual : Str) (fd : FuncData) (q1 q2 q3 p1 p2 p3 p4 : Pos), FunD K "__init__" qual (xiA q1 q2 q3) (xiB p1 p2 p3 p4) xiS [.non] [] fI fd
theorem xi_binds {K : PySem.W.Frag} {qual : Str} {q1 q2 q3 p1 p2 p3 p4 : Pos} {f : Addr} {fd : FuncData} (F : FunD K "__init__" qual (xiA q1 q2 q3) (xiB p1 p2 p3 p4) xiS [.non] [] f fd) : Binds K fd ["self", "value"] [] := by
  obtain ⟨its, hb⟩ := xi_b1 F
  intro s us X hl
  rw [List.append_nil] at hl ⊢
  exact hb.to s us [] X hl rfl
theorem XcF.raise {K : PySem.W.Frag} {C fI : Addr} (X : XcF K C fI) (P : Program) (w : World) (mg : Str → Option Value) (base : Heap) :
    ∃ (fd : FuncData), FnOk P w K mg base CX0 1 fI fd ["self", "value"] (spXi C) ∧ Binds K fd ["self", "value"] [] := by
  obtain ⟨qual, fd, q1, q2, q3, p1, p2, p3, p4, D⟩ := X.D
  exact ⟨fd, xi_ok D X.x, xi_binds D⟩
theorem tail_ok : HandSPX.refsVE HandSPX.veTail = true := by decide +kernel
/-- an own error class, from its words -/
theorem xcf_mk {K : PySem.W.Frag} {C f T : Addr} {qual : Str} {nm q : Str} {N : Addr} {bs bm : List Value} {sn : List Str} {sub : List Value} {ab : Bool} {col : Option Bool} {dd : Option Addr} {m0 m1 m2 m3 m5 : Option Value}
    {od an : Option Addr} {sl : Array (Option Value)} {oc kV dc pm cd ct : Value} {q1 q2 q3 p1 p2 p3 p4 : Pos} {dT : Option Addr} {nT : Nat} {slT : Array (Option Value)}
    (xL : K.lookup C = some (excClassObj nm q C N bs bm true sn sub ab col dd m0 m1 m2 m3 m5 "ValueError.__new__")) (hbm : HandSPX.refsVE bm = true)
    (sa : PySem.W.findIn K (.ref C) "__setattr__" = some (some (.builtin "object.__setattr__"))) (ga : PySem.W.findIn K (.ref C) "__getattribute__" = some (some (.builtin "BaseException.__getattribute__")))
    (gg : PySem.W.findIn K (.ref C) "__getattr__" = some none) (nb : PySem.W.findIn K (.ref C) "value" = some none)
    (a1 : PySem.W.findIn K (.ref C) "__init__" = some (some (.ref f))) (t1 : PySem.W.typeIn K (.ref f) = some (.type "function"))
    (l1 : K.lookup f = some ⟨oc, od, .func (PySem.W.fnOf "__init__" qual (xiA q1 q2 q3) (xiB p1 p2 p3 p4) xiS (.ref T) kV dc pm an cd ct), sl⟩)
    (lT : K.lookup T = some ⟨.type "tuple", dT, .seq #[.none] nT, slT⟩) (c1 : PySem.W.codeIn K cd qual = true) (k1 : PySem.W.keepIn K (.ref f) = true)
    (kC : PySem.W.keepIn K (.ref C) = true) (eC : PySem.W.subIn K (.ref C) (.type "BaseException") = some true) (tC : PySem.W.typeIn K (.ref C) = some (.type "type")) (hC : PySem.W.hasDictIn K C = true)
    (cc : PySem.W.findIn K (.ref C) "__class__" = some (some (.builtin "object.__class__"))) (mo : PySem.W.mroIn K C (.type "object") = some true) : XcF K C f :=
  ⟨⟨⟨⟨nm, q, N, bs, bm, sn, sub, ab, col, dd, m0, m1, m2, m3, m5, xL, hbm⟩, sa, eC, tC, kC⟩, a1, t1, nb, ga, gg, hC, cc, mo⟩,
    qual, _, q1, q2, q3, p1, p2, p3, p4, ⟨⟨oc, od, .ref T, kV, dc, pm, an, cd, ct, sl, rfl, l1, c1, Or.inr ⟨by simp, T, _, [.none], nT, rfl, lT, rfl, .cons rfl .nil⟩, Or.inl rfl⟩, k1⟩⟩
end Wr
set_option Elab.async false
set_option linter.all false
set_option maxRecDepth 100000
set_option maxHeartbeats 2000000
namespace Wr
open PySem PySem.Spec PyProof.Rows L2 Evl
/-! ### small data -/
theorem sz4 {n : Nat} (h : n ≤ 400000) : n ≤ sizeLine := Nat.le_trans h (by decide)
/-- told within bounds: depth at most m, text at most k -/
structure Bd (d : PyData) (m k : Nat) : Prop where
  s : d.showable = true
  dp : d.depth ≤ m
  z : d.shown.length ≤ k
theorem Bd.mono {d : PyData} {m k m' k' : Nat} (x : Bd d m k) (h1 : m ≤ m') (h2 : k ≤ k') : Bd d m' k' := ⟨x.s, Nat.le_trans x.dp h1, Nat.le_trans x.z h2⟩
inductive Bds (m k : Nat) : List PyData → Prop
  | nil : Bds m k []
  | cons {d : PyData} {ds : List PyData} : Bd d m k → Bds m k ds → Bds m k (d :: ds)
theorem Bds.app {m k : Nat} : ∀ {ds es : List PyData}, Bds m k ds → Bds m k es → Bds m k (ds ++ es)
  | _, _, .nil, h => h
  | _, _, .cons x r, h => .cons x (r.app h)
theorem Bds.mono {m k m' k' : Nat} (h1 : m ≤ m') (h2 : k ≤ k') : ∀ {ds : List PyData}, Bds m k ds → Bds m' k' ds
  | _, .nil => .nil
  | _, .cons x r => .cons (x.mono h1 h2) (r.mono h1 h2)
theorem Bds.s {m k : Nat} : ∀ {ds : List PyData}, Bds m k ds → PyData.showableAll ds = true
  | _, .nil => by rw [PyData.showableAll]
  | _, .cons x r => by
    rw [PyData.showableAll, x.s, r.s]
    rfl
theorem Bds.dp {m k : Nat} : ∀ {ds : List PyData}, Bds m k ds → PyData.depthAll ds ≤ m
  | _, .nil => by
    rw [PyData.depthAll]
    exact Nat.zero_le _
  | _, .cons x r => by
    rw [PyData.depthAll]
    exact Nat.max_le.mpr ⟨x.dp, r.dp⟩
theorem Bds.z {m k : Nat} : ∀ {ds : List PyData}, Bds m k ds → piled (PyData.shownAll ds) ≤ ds.length * (k + 2)
  | _, .nil => by
    rw [PyData.shownAll, piled_nil]
    exact Nat.zero_le _
  | _, .cons (d := d) (ds := ds) x r => by
    rw [PyData.shownAll, piled_cons, List.length_cons, Nat.succ_mul]
    have h1 := r.z
    have h2 := x.z
    omega
theorem textFrom_piled : ∀ (ts : List Str) (k : Nat) (acc : Str), (textFrom k acc ts).length ≤ acc.length + piled ts
  | [], _, acc => by
    show acc.length ≤ acc.length + 0
    omega
  | t :: r, k, acc => by
    have h := textFrom_piled r (k + 1) (acc ++ (if k > 0 then ", " else "" : String) ++ t)
    show (textFrom (k + 1) (acc ++ (if k > 0 then ", " else "" : String) ++ t) r).length ≤ _
    rw [strLen_append, strLen_append] at h
    have h2 : ((if k > 0 then ", " else "" : String) : Str).length ≤ 2 := by
      split
      · decide +kernel
      · decide +kernel
    rw [piled_cons]
    omega
theorem Bds.lst {m k : Nat} {ds : List PyData} (x : Bds m k ds) : Bd (.list ds) (m + 1) (2 + ds.length * (k + 2)) := by
  refine ⟨?_, ?_, ?_⟩
  · rw [PyData.showable]
    exact x.s
  · rw [PyData.depth]
    exact Nat.succ_le_succ x.dp
  · rw [PyData.shown]
    show (textFrom 0 "[" (PyData.shownAll ds) ++ "]").length ≤ _
    rw [strLen_append]
    have h1 := textFrom_piled (PyData.shownAll ds) 0 "["
    have h2 := x.z
    have h3 : ("[" : Str).length = 1 := by decide +kernel
    have h4 : ("]" : Str).length = 1 := by decide +kernel
    omega
theorem Bds.tup {m k : Nat} {ds : List PyData} (x : Bds m k ds) : Bd (.tuple ds) (m + 1) (3 + ds.length * (k + 2)) := by
  refine ⟨?_, ?_, ?_⟩
  · rw [PyData.showable]
    exact x.s
  · rw [PyData.depth]
    exact Nat.succ_le_succ x.dp
  · rw [PyData.shown]
    unfold tupleText
    rw [strLen_append, strLen_append]
    have h1 : (Str.join ", " (PyData.shownAll ds)).length ≤ piled (PyData.shownAll ds) := by
      by_cases e : PyData.shownAll ds = []
      · rw [e]
        decide +kernel
      · have := join_length_add _ e
        omega
    have h2 := x.z
    have h3 : ("(" : Str).length = 1 := by decide +kernel
    have h4 : (((if (PyData.shownAll ds).length == 1 then ",)" else ")" : String) : Str)).length ≤ 2 := by
      split <;> decide +kernel
    omega
theorem log_lt {z : Int} (h : z.natAbs < 2 ^ 200) : z.natAbs.log2 < 200 := by
  by_cases h0 : z.natAbs = 0
  · rw [h0]
    decide
  · exact (Nat.log2_lt h0).mpr h
theorem bd_int {z : Int} (h : z.natAbs < 2 ^ 200) : Bd (.int z) 0 250 := by
  have h1 := log_lt h
  have e := int_text_length_le (k := 200) (by decide) (log_lt h)
  refine ⟨?_, ?_, ?_⟩
  · rw [PyData.showable]
    exact decide_eq_true (by omega)
  · rw [PyData.depth]
    exact Nat.zero_le _
  · rw [PyData.shown, PySem.ofString_length]
    omega
/-- flat data: no list, no text, what have you -/
structure Sc (v : V) (d : PyData) : Prop where
  r : ∀ K H, Dr K H v d
  b : Bd d 0 250
  ty : ∃ t, (∀ K H, TyX K H v (.type t)) ∧ kitB t "list" = some false
  nr : ∀ a, v ≠ .ref a
theorem sc_non : Sc .non .none := ⟨fun _ _ => .non, ⟨by decide +kernel, by decide +kernel, by decide +kernel⟩, ⟨_, fun _ _ => .base .non, by decide +kernel⟩, fun _ z => nomatch z⟩
theorem sc_bl {b : Bool} : Sc (.bl b) (.bool b) := ⟨fun _ _ => .bl b, by cases b <;> exact ⟨by decide +kernel, by decide +kernel, by decide +kernel⟩, ⟨_, fun _ _ => .base (.bl b), by decide +kernel⟩, fun _ z => nomatch z⟩
theorem sc_int {z : Int} (h : z.natAbs < 2 ^ 200) : Sc (.int z) (.int z) := ⟨fun _ _ => .int z, bd_int h, ⟨_, fun _ _ => .base (.int z), by decide +kernel⟩, fun _ z => nomatch z⟩
theorem sc_str {x : Str} (h : Bd (.str x) 0 250) : Sc (.str x) (.str x) := ⟨fun _ _ => .str x, h, ⟨_, fun _ _ => .base (.str x), by decide +kernel⟩, fun _ z => nomatch z⟩
inductive Scs : List V → List PyData → Prop
  | nil : Scs [] []
  | cons {v : V} {d : PyData} {vs : List V} {ds : List PyData} : Sc v d → Scs vs ds → Scs (v :: vs) (d :: ds)
theorem Scs.len : ∀ {vs : List V} {ds : List PyData}, Scs vs ds → vs.length = ds.length
  | _, _, .nil => rfl
  | _, _, .cons _ r => congrArg Nat.succ r.len
theorem Scs.app : ∀ {vs ws : List V} {ds es : List PyData}, Scs vs ds → Scs ws es → Scs (vs ++ ws) (ds ++ es)
  | _, _, _, _, .nil, h => h
  | _, _, _, _, .cons x r, h => .cons x (r.app h)
theorem Scs.r {K : PySem.W.Frag} {H : Hp} : ∀ {vs : List V} {ds : List PyData}, Scs vs ds → DrAll K H vs ds
  | _, _, .nil => .nil
  | _, _, .cons x r => .cons (x.r K H) r.r
theorem Scs.b : ∀ {vs : List V} {ds : List PyData}, Scs vs ds → Bds 0 250 ds
  | _, _, .nil => .nil
  | _, _, .cons x r => .cons x.b r.b
theorem Scs.get : ∀ {vs : List V} {ds : List PyData} {i : Nat} {v : V}, Scs vs ds → vs[i]? = some v → ∃ d, Sc v d
  | _, _, 0, _, .cons x _, h => ⟨_, Option.some.inj h ▸ x⟩
  | _, _, i + 1, _, .cons _ r, h => r.get (i := i) h
theorem Scs.rep {v : V} {d : PyData} (x : Sc v d) : ∀ n, Scs (List.replicate n v) (List.replicate n d)
  | 0 => .nil
  | n + 1 => .cons x (Scs.rep x n)
/-! ### one place of a list may hold a container -/
/-- what stands at the odd place -/
inductive Odd (H : Hp) : V → PyData → Prop
  | flat {v : V} {d : PyData} : Sc v d → Odd H v d
  | tup {a : Addr} {ys : List V} {ds : List PyData} : H a = some (.tup ys) → Scs ys ds → ys.length ≤ 200 → Odd H (.ref a) (.tuple ds)
  | lst {a : Addr} {ys : List V} {ds : List PyData} : H a = some (.lst ys) → Scs ys ds → ys.length ≤ 200 → Odd H (.ref a) (.list ds)
  | dct {a : Addr} : H a = some (.dK []) → Odd H (.ref a) (.dict [])
theorem Odd.ex {H H' : Hp} {v : V} {d : PyData} (s : Ex H H') : Odd H v d → Odd H' v d
  | .flat x => .flat x
  | .tup h x l => .tup (s _ _ h) x l
  | .lst h x l => .lst (s _ _ h) x l
  | .dct h => .dct (s _ _ h)
theorem Odd.r {K : PySem.W.Frag} {H : Hp} {v : V} {d : PyData} : Odd H v d → Dr K H v d
  | .flat x => x.r K H
  | .tup h x _ => .tup (Or.inl (Or.inl h)) x.r
  | .lst h x _ => .lst (Or.inl (Or.inl h)) x.r
  | .dct h => .dct (kvs := []) (ds := []) h .nil
theorem Odd.b {H : Hp} {v : V} {d : PyData} : Odd H v d → Bd d 1 51000
  | .flat x => x.b.mono (by decide) (by decide)
  | .tup _ x l => x.b.tup.mono (by decide) (by rw [← x.len]; omega)
  | .lst _ x l => x.b.lst.mono (by decide) (by rw [← x.len]; omega)
  | .dct _ => ⟨by decide +kernel, by decide +kernel, by decide +kernel⟩
section
variable {K : PySem.W.Frag} {σ : L2.St} {H : Hp} {te : TE}
theorem eu_tof {l : Addr} {xs : List V} (ha : Ev te σ H (.ref l)) (hx : SqL K H l xs) :
    EvU (tCB (fun xs H Q => ∃ p ys, xs = [.ref p] ∧ ((SqL K H p ys ∧ ∀ l, H l = none → Q (.ref l) (upd H l (.tup ys))) ∨ (SqT K H p ys ∧ Q (.ref p) H))) (tCons te tNil)) σ H xs := fun H1 e Q q =>
  ha H1 e _ fun H2 e2 => ⟨l, xs, rfl, Or.inl ⟨ex_l (e.trans e2) hx, fun p hp => q p _ (fresh_back e2 hp) (e2.trans (Ex.new hp)) upd_same⟩⟩
theorem ev_reprU {xs : List V} {ds : List PyData} {m k : Nat} (he : EvU te σ H xs) (hd : DrAll K H xs ds) (b : Bd (.tuple ds) m k) (hm : m ≤ 60) (hk : k ≤ 400000) : Ev (tCB (rRepr K) (tCons te tNil)) σ H (.str (PyData.tuple ds).shown) := fun H1 e Q q =>
  he H1 e _ fun p H2 _ e2 h2 => ⟨p, .tuple ds, rfl, .tup (st_of h2) (hd.ex (e.trans e2)), (fun _ z => nomatch z), b.s, Nat.le_trans b.dp hm, sz4 (Nat.le_trans b.z hk), q H2 e2⟩
theorem ev_reprB {a : Addr} {ds : List PyData} {m k : Nat} (he : Ev te σ H (.ref a)) (hd : Dr K H (.ref a) (.tuple ds)) (b : Bd (.tuple ds) m k) (hm : m ≤ 60) (hk : k ≤ 400000) : Ev (tCB (rRepr K) (tCons te tNil)) σ H (.str (PyData.tuple ds).shown) :=
  ev_repr he hd (fun _ z => nomatch z) b.s (Nat.le_trans b.dp hm) (sz4 (Nat.le_trans b.z hk))
end
end Wr
set_option Elab.async false
set_option linter.all false
set_option maxRecDepth 100000
set_option maxHeartbeats 2000000
namespace K02
open PySem PySem.Spec PyProof.Rows L2 Wr Evl
def top (i : Nat) : Stmt := PySem.Challenge.pw_wireranks_k02_messages_made.main.body.getD i (.Pass ⟨0, 0, 0, 0⟩)
abbrev s_is_whole : Stmt := top 5
theorem sc_is_whole : FnScope ["value"] ["value"] (defScope s_is_whole) := ⟨rfl, rfl, rfl, by decide +kernel, rfl, by decide +kernel, by decide +kernel⟩
abbrev s_is_whole_from : Stmt := top 6
theorem sc_is_whole_from : FnScope ["value", "least"] ["value", "least"] (defScope s_is_whole_from) := ⟨rfl, rfl, rfl, by decide +kernel, rfl, by decide +kernel, by decide +kernel⟩
abbrev s_is_name : Stmt := top 7
theorem sc_is_name : FnScope ["value", "sign"] ["value"] (defScope s_is_name) := ⟨rfl, rfl, rfl, by decide +kernel, rfl, by decide +kernel, by decide +kernel⟩
abbrev s__is_message : Stmt := top 9
theorem sc__is_message : FnScope ["name", "gap", "length", "jitter", "last"] ["name", "gap", "length", "jitter", "last"] (defScope s__is_message) := ⟨rfl, rfl, rfl, by decide +kernel, rfl, by decide +kernel, by decide +kernel⟩
abbrev s_init : Stmt := inClass (top 10) 0
theorem sc_init : FnScope ["self", "name", "gap", "length", "jitter", "last"] ["self", "name", "gap", "length", "jitter", "last"] (defScope s_init) := ⟨rfl, rfl, rfl, by decide +kernel, rfl, by decide +kernel, by decide +kernel⟩
abbrev s_eq : Stmt := inClass (top 10) 6
theorem sc_eq : FnScope ["self", "other"] ["self", "other"] (defScope s_eq) := ⟨rfl, rfl, rfl, by decide +kernel, rfl, by decide +kernel, by decide +kernel⟩
/-- the checks behind the top -/
structure Tck (K : PySem.W.Frag) (mg : Str → Option Value) where
  whole : Df K mg "is_whole" s_is_whole
  from_ : Df K mg "is_whole_from" s_is_whole_from
  name : Df K mg "is_name" s_is_name
  msg : Df K mg "_is_message" s__is_message
  g_MOST : ∃ t, mg "MOST_SIGNS" = some (.int 8 t)
  z_isinstance : mg "isinstance" = none
  z_int : mg "int" = none
  z_bool : mg "bool" = none
  z_str : mg "str" = none
  z_len : mg "len" = none
  z_all : mg "all" = none
/-- a sign of a name -/
def okC (c : Nat) : Bool := (!decide (((⟨#[c]⟩ : Str).cps.toList) < ("a" : Str).cps.toList)) && (!decide (("z" : Str).cps.toList < ((⟨#[c]⟩ : Str).cps.toList)))
/-- a name -/
def goodN (x : Str) : Bool := (decide ((1 : Int) ≤ (x.length : Int)) && decide ((x.length : Int) ≤ 8)) && x.cps.toList.all okC
/-- what is_name says of v -/
def NmOk (K : PySem.W.Frag) (H : Hp) (v : V) (b : Bool) : Prop := (∃ x : Str, v = .str x ∧ x.length ≤ 1000 ∧ b = goodN x) ∨ (∃ t, TyX K H v (.type t) ∧ kitB t "str" = some false ∧ b = false)
/-- what is_whole_from(v, n) says -/
def FrOk (K : PySem.W.Frag) (H : Hp) (v : V) (n : Int) (b : Bool) : Prop := (∃ i : Int, v = .int i ∧ b = decide (n ≤ i)) ∨ (∃ c, v = .bl c ∧ b = false) ∨ (∃ t, TyX K H v (.type t) ∧ kitB t "int" = some false ∧ b = false)
theorem NmOk.ex {K : PySem.W.Frag} {H H' : Hp} {v : V} {b : Bool} (s : Ex H H') (x : NmOk K H v b) : NmOk K H' v b :=
  x.elim Or.inl fun ⟨t, h, r⟩ => Or.inr ⟨t, tyx_ex s h, r⟩
theorem FrOk.ex {K : PySem.W.Frag} {H H' : Hp} {v : V} {n : Int} {b : Bool} (s : Ex H H') (x : FrOk K H v n b) : FrOk K H' v n b :=
  x.elim Or.inl fun x => Or.inr (x.elim Or.inl fun ⟨t, h, r⟩ => Or.inr ⟨t, tyx_ex s h, r⟩)
def WhOk (K : PySem.W.Frag) (H : Hp) (v : V) (b : Bool) : Prop := (∃ i : Int, v = .int i ∧ b = true) ∨ (∃ c, v = .bl c ∧ b = false) ∨ (∃ t, TyX K H v (.type t) ∧ kitB t "int" = some false ∧ b = false)
theorem WhOk.ex {K : PySem.W.Frag} {H H' : Hp} {v : V} {b : Bool} (s : Ex H H') (x : WhOk K H v b) : WhOk K H' v b :=
  x.elim Or.inl fun x => Or.inr (x.elim Or.inl fun ⟨t, h, r⟩ => Or.inr ⟨t, tyx_ex s h, r⟩)
def spWhole (K : PySem.W.Frag) : Sp := fun vs H Q _ => ∃ v b, vs = [v] ∧ WhOk K H v b ∧ ∀ H', Ex H H' → Q (.bl b) H'
def spFrom (K : PySem.W.Frag) : Sp := fun vs H Q _ => ∃ v n b, vs = [v, .int n] ∧ FrOk K H v n b ∧ ∀ H', Ex H H' → Q (.bl b) H'
def spName (K : PySem.W.Frag) : Sp := fun vs H Q _ => ∃ v b, vs = [v] ∧ NmOk K H v b ∧ ∀ H', Ex H H' → Q (.bl b) H'
/-- what the five are for a message -/
structure Five (K : PySem.W.Frag) (H : Hp) (n g l j la : V) (b : Bool) : Prop where
  ex_ : ∃ b1 b2 b3 b4 b5, NmOk K H n b1 ∧ FrOk K H g 1 b2 ∧ FrOk K H l 1 b3 ∧ FrOk K H j 0 b4 ∧ FrOk K H la 1 b5 ∧ b = (b1 && b4 && (b2 && (b3 && b5)))
theorem Five.ex {K : PySem.W.Frag} {H H' : Hp} {n g l j la : V} {b : Bool} (s : Ex H H') (x : Five K H n g l j la b) : Five K H' n g l j la b := by
  obtain ⟨b1, b2, b3, b4, b5, h1, h2, h3, h4, h5, e⟩ := x.ex_
  exact ⟨b1, b2, b3, b4, b5, h1.ex s, h2.ex s, h3.ex s, h4.ex s, h5.ex s, e⟩
def spMsg (K : PySem.W.Frag) : Sp := fun vs H Q _ => ∃ n g l j la b, vs = [n, g, l, j, la] ∧ Five K H n g l j la b ∧ ∀ H', Ex H H' → Q (.bl b) H'
section
variable {P : Program} {w : World} {K : PySem.W.Frag} {mg : Str → Option Value} {base : Heap}
theorem kit_ii : kitB "int" "int" = some true := by decide +kernel
theorem kit_ib : kitB "int" "bool" = some false := by decide +kernel
theorem kit_bi : kitB "bool" "int" = some true := by decide +kernel
theorem kit_bb : kitB "bool" "bool" = some true := by decide +kernel
theorem kit_ss : kitB "str" "str" = some true := by decide +kernel
theorem ok_whole (T : Tck K mg) : FnOk P w K mg base CX0 1 T.whole.a T.whole.d ["value"] (spWhole K) := by
  refine T.whole.F.ok sc_is_whole ?_ ?_
  · rintro vs H Q E ⟨v, b, rfl, _⟩
    rfl
  · rintro cdv A outer s H vs Q E hr ⟨v, b, rfl, ok, q⟩
    refine ⟨_, (pss_one (ps_ret (pe_and (pe_callB call_isi (by rfl) T.z_isinstance (by decide +kernel) (pa_cons (pv 0) (pa_cons (pe_bltn (v := .ty "int") (by rfl) T.z_int (by decide +kernel) rfl) pa_nil))) (pe_one (pe_not (pe_callB call_isi (by rfl) T.z_isinstance (by decide +kernel) (pa_cons (pv 0) (pa_cons (pe_bltn (v := .ty "bool") (by rfl) T.z_bool (by decide +kernel) rfl) pa_nil)))))))), ?_⟩
    refine s_ret (v := .bl b) ?_ q
    rcases ok with ⟨i, rfl, rfl⟩ | ⟨c, rfl, rfl⟩ | ⟨t, ty, k, rfl⟩
    · exact ev_andV (a := true) (b := true) (ev_isi (ev_var rfl) ev_c (.ty _) (.base (.int i)) (kit_ty kit_ii)) fun _ => ev_notV (a := false) (ev_isi (ev_var rfl) ev_c (.ty _) (.base (.int i)) (kit_ty kit_ib))
    · exact ev_andV (a := true) (b := false) (ev_isi (ev_var rfl) ev_c (.ty _) (.base (.bl c)) (kit_ty kit_bi)) fun _ => ev_notV (a := true) (ev_isi (ev_var rfl) ev_c (.ty _) (.base (.bl c)) (kit_ty kit_bb))
    · exact ev_andV (a := false) (b := false) (ev_isi (ev_var rfl) ev_c (.ty _) ty (kit_ty k)) fun h => absurd h (by decide)
theorem sv_whole {v : V} {b : Bool} {H : Hp} (h : WhOk K H v b) : SpV (spWhole K) [v] H (.bl b) := fun H1 e Q q _ => ⟨v, b, rfl, h.ex e, q⟩
theorem ok_from (T : Tck K mg) : FnOk P w K mg base CX0 2 T.from_.a T.from_.d ["value", "least"] (spFrom K) := by
  have G := ok_whole (P := P) (w := w) (base := base) T
  have b1 : Binds K T.whole.d ["value"] [] := Df.b T.whole fun _ _ _ _ _ _ us hl => match us, hl with | [_], _ => rfl
  refine T.from_.F.ok sc_is_whole_from ?_ ?_
  · rintro vs H Q E ⟨v, n, b, rfl, _⟩
    rfl
  · rintro cdv A outer s H vs Q E hr ⟨v, n, b, rfl, ok, q⟩
    refine ⟨_, (pss_one (ps_ret (pe_and (pe_call G (hr.mono (by decide)) rfl T.whole.g T.whole.F.kp b1 .nil pass0 (pa_cons (pv 0) pa_nil)) (pe_one (pe_cmpR op_ge (pv 0) (pv 1) (nomark _)))))), ?_⟩
    refine s_ret (v := .bl b) ?_ q
    rcases ok with ⟨i, rfl, rfl⟩ | ⟨c, rfl, rfl⟩ | ⟨t, ty, k, rfl⟩
    · exact ev_andV (a := true) (b := decide (n ≤ i)) (ev_call (ea_cons (ev_var rfl) ea_nil) (sv_whole (.inl ⟨i, rfl, rfl⟩))) fun _ => ev_op (ev_var rfl) (ev_var rfl) rv_I0
    · exact ev_andV (a := false) (b := false) (ev_call (ea_cons (ev_var rfl) ea_nil) (sv_whole (.inr (.inl ⟨c, rfl, rfl⟩)))) fun h => absurd h (by decide)
    · exact ev_andV (a := false) (b := false) (ev_call (ea_cons (ev_var rfl) ea_nil) (sv_whole (.inr (.inr ⟨t, ty, k, rfl⟩)))) fun h => absurd h (by decide)
theorem ok_name (T : Tck K mg) : FnOk P w K mg base CX0 1 T.name.a T.name.d ["value"] (spName K) := by
  obtain ⟨tm, g_MOST⟩ := T.g_MOST
  refine T.name.F.ok sc_is_name ?_ ?_
  · rintro vs H Q E ⟨v, b, rfl, _⟩
    rfl
  · rintro cdv A outer s H vs Q E hr ⟨v, b, rfl, ok, q⟩
    refine ⟨_, (pss_cons (ps_if (PW.pt (pw_or (pt_not (pt_val (pe_callB call_isi (by rfl) T.z_isinstance (by decide +kernel) (pa_cons (pv 0) (pa_cons (pe_bltn (v := .ty "str") (by rfl) T.z_str (by decide +kernel) rfl) pa_nil))))) (pw_or1 (pt_not (pt_chain op_le op_le pe_int (pe_callB call_len_str (by rfl) T.z_len (by decide +kernel) (pa_cons (pv 0) pa_nil)) (pe_glob (v := .int 8) rfl g_MOST ⟨_, rfl⟩))))))
      (pss_one (ps_ret pe_bl)) pss_nil)
    (pss_one (ps_ret (pe_callB (cr_all rfl) (by rfl) T.z_all (by decide +kernel) (pa_cons (pe_lc (own := [("sign", 1)]) rfl sc_is_name.nd (pi_str (pv 0)) (blkOk_by (N := ["value", "sign"]) (sc := defScope s_is_name) (by decide +kernel)) (fun _ _ _ _ _ => pg_name (i := 1) sc_is_name.nd rfl (Or.inl rfl)) (fun _ _ _ _ _ => pts_nil) (fun _ _ _ _ _ => (pe_chain op_le_str op_le_str pe_str (pv 1) pe_str))) pa_nil))))), ?_⟩
    rcases ok with ⟨x, rfl, hz, rfl⟩ | ⟨t, ty, k, rfl⟩
    · have t1 : EvT (tNot (tB (tCB (rIsi K) (tCons (tVar 0) (tCons (tC (.ty "str")) tNil))))) [some (.str x), none] H false :=
        et_not (a := true) (et_B (ev_isi (ev_var rfl) ev_c (.ty _) (.base (.str x)) (kit_ty kit_ss)))
      refine q_when (b := !(decide ((1 : Int) ≤ (x.length : Int)) && decide ((x.length : Int) ≤ 8))) (et_is (et_or (b := !(decide ((1 : Int) ≤ (x.length : Int)) && decide ((x.length : Int) ≤ 8))) t1 fun _ => et_not (et_B (ev_chain ev_c (ev_lenT (ev_var rfl) (by omega)) rv_I0 (fun _ => ev_c) (fun _ => rv_I0)))) (Bool.false_or _)) (fun h H1 e1 => ?_) (fun h H1 e1 => ?_)
      · have e : goodN x = false := by
          unfold goodN
          rw [Bool.not_eq_true'] at h
          rw [h]
          rfl
        rw [e] at q
        exact q H1 e1
      · have e : goodN x = x.cps.toList.all okC := by
          unfold goodN
          rw [Bool.not_eq_false'] at h
          rw [h]
          rfl
        rw [e] at q
        refine s_ret (v := .bl (x.cps.toList.all okC)) ?_ (fun H2 e2 => q H2 (e1.trans e2))
        have hl : (given x.cps.size (fun _ => true) fun i => V.bl (okC (x.cps.toList.getD i 0))) = (x.cps.toList.map okC).map V.bl := by
          rw [given_all]
          refine List.ext_getElem? fun i => ?_
          rw [List.getElem?_map, List.getElem?_map, List.getElem?_map]
          by_cases hi : i < x.cps.size
          · rw [List.getElem?_range hi, Array.getElem?_toList]
            show some (V.bl (okC (x.cps.toList.getD i 0))) = _
            rw [List.getD_eq_getElem?_getD, Array.getElem?_toList, Array.getElem?_eq_getElem hi]
            rfl
          · rw [List.getElem?_eq_none (by rw [List.length_range]; omega), List.getElem?_eq_none (by rw [Array.length_toList]; omega)]
            rfl
        refine ev_is (ev_all (bs := x.cps.toList.map okC) (hl ▸ el_lcS (fun i => V.bl (okC (x.cps.toList.getD i 0))) (ev_var rfl) (by have : x.cps.size = x.length := rfl; omega) (fun _ => rfl) ?_)) (by rw [List.all_map]; rfl)
        intro i c H2 e2 hc
        have hd : x.cps.toList.getD i 0 = c := by
          rw [List.getD_eq_getElem?_getD, Array.getElem?_toList, hc]
          rfl
        rw [hd]
        exact ev_chain ev_c (ev_var rfl) rv_leS (fun _ => ev_c) (fun _ => rv_leS)
    · have t1 : EvT (tNot (tB (tCB (rIsi K) (tCons (tVar 0) (tCons (tC (.ty "str")) tNil))))) [some v, none] H true :=
        et_not (a := false) (et_B (ev_isi (ev_var rfl) ev_c (.ty _) ty (kit_ty k)))
      refine q_when (b := true) (et_is (et_or (a := true) (b := true) t1 fun h => absurd h (by decide)) rfl) (fun _ H1 e1 => ?_) (fun h => absurd h (by decide))
      exact q H1 e1
end
end K02
set_option Elab.async false
set_option linter.all false
set_option maxRecDepth 100000
set_option maxHeartbeats 2000000
namespace Wr
open PySem PySem.Spec PyProof.Rows L2 Evl
/-- the heap without p -/
def hide (p : Addr) (H : Hp) : Hp := fun b => if b = p then none else H b
theorem hide_p {p : Addr} {H : Hp} : hide p H p = none := if_pos rfl
theorem hide_ne {p b : Addr} {H : Hp} (h : b ≠ p) : hide p H b = H b := if_neg h
theorem hide_ex {p : Addr} {H H' : Hp} (e : Ex H H') : Ex (hide p H) (hide p H') := fun a o h => by
  by_cases ha : a = p
  · rw [ha, hide_p] at h
    cases h
  · rw [hide_ne ha] at h ⊢
    exact e _ _ h
theorem hide_but {p : Addr} {H H' : Hp} (e : But p H H') : Ex (hide p H) H' := fun a o h => by
  by_cases ha : a = p
  · rw [ha, hide_p] at h
    cases h
  · rw [hide_ne ha] at h
    rw [e a ha]
    exact h
theorem hide_le {p : Addr} {H : Hp} : Ex (hide p H) H := hide_but But.refl
/-- from what stands without p -/
theorem ex_hide {p : Addr} {H H1 : Hp} (e : Ex H H1) (n : H p = none) : Ex H (hide p H1) := fun a o h => by
  rw [hide_ne (ne_of_none h n)]
  exact e _ _ h
end Wr
namespace K02
open PySem PySem.Spec PyProof.Rows L2 Wr Evl
/-- the fields of a message -/
def mfs (n g l j la : V) : List (Str × V) := putF "_last" la (putF "_jitter" j (putF "_length" l (putF "_gap" g (putF "_name" n []))))
/-- at a stands a message -/
def Mg (H : Hp) (C a : Addr) (n g l j la : V) : Prop := ∃ dx : Addr, H a = some (.ins C dx (mfs n g l j la))
theorem Mg.ex {H H' : Hp} {C a : Addr} {n g l j la : V} (s : Ex H H') (x : Mg H C a n g l j la) : Mg H' C a n g l j la :=
  let ⟨dx, h⟩ := x
  ⟨dx, s _ _ h⟩
theorem mf_name {n g l j la : V} : (mfs n g l j la).lookup ("_name" : Str) = some n := by unfold mfs; simp only [lookup_putF]; rfl
theorem mf_gap {n g l j la : V} : (mfs n g l j la).lookup ("_gap" : Str) = some g := by unfold mfs; simp only [lookup_putF]; rfl
theorem mf_length {n g l j la : V} : (mfs n g l j la).lookup ("_length" : Str) = some l := by unfold mfs; simp only [lookup_putF]; rfl
theorem mf_jitter {n g l j la : V} : (mfs n g l j la).lookup ("_jitter" : Str) = some j := by unfold mfs; simp only [lookup_putF]; rfl
theorem mf_last {n g l j la : V} : (mfs n g l j la).lookup ("_last" : Str) = some la := by unfold mfs; simp only [lookup_putF]; rfl
theorem lt_nil (_ : Nat) : ([] : List (Str × V)).length < 990 + 0 := by decide
theorem lt_put {f : Str} {v : V} {fs : List (Str × V)} (k : Nat) {m : Nat} (hm : 990 + k + 1 ≤ m) (h : fs.length < 990 + k) : (putF f v fs).length < m := by
  have := length_putF f v fs
  omega
/-- the class of messages behind the top, the error that it raises -/
structure Tms (K : PySem.W.Frag) (mg : Str → Option Value) where
  T : Tck K mg
  C : Addr
  I : Addr
  E : Addr
  dI : FuncData
  dE : FuncData
  g_Message : mg "Message" = some (.ref C)
  mkC : Mk K C I
  cls : Cls K C
  FI : Fun K "__init__" "Message.__init__" s_init I dI
  FE : Fun K "__eq__" "Message.__eq__" s_eq E dE
  eqI : PySem.W.findIn K (.ref C) "__eq__" = some (some (.ref E))
  eqF : PySem.W.isFn K (.ref E) = true
  neI : PySem.W.findIn K (.ref C) "__ne__" = some (some (.builtin "object.__ne__"))
  mo : PySem.W.mroIn K C (.type "object") = some true
  n_name : NoAttr K C "_name"
  n_gap : NoAttr K C "_gap"
  n_length : NoAttr K C "_length"
  n_jitter : NoAttr K C "_jitter"
  n_last : NoAttr K C "_last"
  cc : PySem.W.findIn K (.ref C) "__class__" = some (some (.builtin "object.__class__"))
  cw : ClW K
  kit_m : PySem.W.kitOne K (.ref C) (.ref C) = some true
  kit_t : PySem.W.kitOne K (.type "tuple") (.ref C) = some false
  kit_n : PySem.W.kitOne K (.type "NoneType") (.ref C) = some false
  first_t : PySem.W.subIn K (.type "tuple") (.ref C) = some false
  first_n : PySem.W.subIn K (.type "NoneType") (.ref C) = some false
  M : Addr
  Mi : Addr
  xM : XcF K M Mi
  g_InvalidMessage : mg "InvalidMessage" = some (.ref M)
theorem Tms.ty {K : PySem.W.Frag} {mg : Str → Option Value} (T : Tms K mg) {H : Hp} {a : Addr} {n g l j la : V} (x : Mg H T.C a n g l j la) : TyX K H (.ref a) (.ref T.C) :=
  let ⟨_, e⟩ := x
  .base (.ins e T.cls T.cc T.cw.hn T.cw.tk T.mo)
def spInit (K : PySem.W.Frag) (C M : Addr) : Sp := fun vs H Q E => ∃ (x dx : Addr) (n g l j la : V) (b : Bool), vs = [.ref x, n, g, l, j, la] ∧ H x = some (.ins C dx []) ∧ Five K H n g l j la b ∧
  (b = true → ∀ H', Ex (hide x H) H' → H' x = some (.ins C dx (mfs n g l j la)) → Q .non H') ∧
  (b = false → ∀ H' t d, Ex H H' → H' t = some (.tup [n, g, l, j, la]) → H' d = some (.xd [(("value" : Str), .ref t)]) → E (.ref M) (some d) H')
/-- self == other -/
def spEqM (K : PySem.W.Frag) (C : Addr) : Sp := fun vs H Q _ => ∃ (a : Addr) (n g l j la y : V), vs = [.ref a, y] ∧ Mg H C a n g l j la ∧
  ((∃ t, TyX K H y t ∧ PySem.W.kitOne K t (.ref C) = some false ∧ ∀ H', Ex H H' → Q (.bl false) H') ∨
   (∃ (c : Addr) (n2 g2 l2 j2 la2 : V), y = .ref c ∧ Mg H C c n2 g2 l2 j2 la2 ∧ TyX K H y (.ref C) ∧ PySem.W.kitOne K (.ref C) (.ref C) = some true ∧ scal n n2 = true ∧ scal g g2 = true ∧ scal l l2 = true ∧ scal j j2 = true ∧ scal la la2 = true ∧
     ∀ H', Ex H H' → Q (.bl (decide (n = n2) && (decide (g = g2) && (decide (l = l2) && (decide (j = j2) && decide (la = la2)))))) H'))
section
variable {P : Program} {w : World} {K : PySem.W.Frag} {mg : Str → Option Value} {base : Heap}
theorem ok_msg (T : Tck K mg) : FnOk P w K mg base CX0 3 T.msg.a T.msg.d ["name", "gap", "length", "jitter", "last"] (spMsg K) := by
  have G1 := ok_name (P := P) (w := w) (base := base) T
  have G2 := ok_from (P := P) (w := w) (base := base) T
  have b1 : Binds K T.name.d ["value"] [] := Df.b T.name fun _ _ _ _ _ _ us hl => match us, hl with | [_], _ => rfl
  have b2 : Binds K T.from_.d ["value", "least"] [] := Df.b T.from_ fun _ _ _ _ _ _ us hl => match us, hl with | [_, _], _ => rfl
  refine T.msg.F.ok sc__is_message ?_ ?_
  · rintro vs H Q E ⟨n, g, l, j, la, b, rfl, _⟩
    rfl
  · rintro cdv A outer s H vs Q E hr ⟨n, g, l, j, la, b, rfl, ⟨c1, c2, c3, c4, c5, h1, h2, h3, h4, h5, rfl⟩, q⟩
    refine ⟨_, (pss_cons (ps_if (PW.pt (pw_or (pt_not (pt_val (pe_call G1 (hr.mono (by decide)) rfl T.name.g T.name.F.kp b1 .nil pass0 (pa_cons (pv 0) pa_nil)))) (pw_or1 (pt_not (pt_val (pe_call G2 (hr.mono (by decide)) rfl T.from_.g T.from_.F.kp b2 .nil pass0 (pa_cons (pv 3) (pa_cons pe_int pa_nil))))))))
      (pss_one (ps_ret pe_bl)) pss_nil)
    (pss_one (ps_ret (pe_and (pe_call G2 (hr.mono (by decide)) rfl T.from_.g T.from_.F.kp b2 .nil pass0 (pa_cons (pv 1) (pa_cons pe_int pa_nil))) (pe_and (pe_call G2 (hr.mono (by decide)) rfl T.from_.g T.from_.F.kp b2 .nil pass0 (pa_cons (pv 2) (pa_cons pe_int pa_nil))) (pe_one (pe_call G2 (hr.mono (by decide)) rfl T.from_.g T.from_.F.kp b2 .nil pass0 (pa_cons (pv 4) (pa_cons pe_int pa_nil))))))))), ?_⟩
    have svn : ∀ {H1 : Hp} {v : V} {b : Bool}, NmOk K H1 v b → SpV (spName K) ([v] ++ []) H1 (.bl b) := fun h H2 e Q q _ => ⟨_, _, rfl, h.ex e, q⟩
    have svf : ∀ {H1 : Hp} {v : V} {n : Int} {b : Bool}, FrOk K H1 v n b → SpV (spFrom K) ([v, .int n] ++ []) H1 (.bl b) := fun h H2 e Q q _ => ⟨_, _, _, rfl, h.ex e, q⟩
    refine q_when (b := !c1 || !c4) (et_or (et_not (et_B (ev_call (ea_cons (ev_var rfl) ea_nil) (svn h1)))) fun _ => et_not (et_B (ev_call (ea_cons (ev_var rfl) (ea_cons ev_c ea_nil)) (svf h4)))) (fun h H1 e1 => ?_) (fun h H1 e1 => ?_)
    · have e : (c1 && c4) = false := by
        revert h
        cases c1 <;> cases c4 <;> simp
      rw [e] at q
      exact q H1 e1
    · have e : (c1 && c4) = true := by
        revert h
        cases c1 <;> cases c4 <;> simp
      rw [e] at q
      refine s_ret (v := .bl (c2 && (c3 && c5))) ?_ (fun H2 e2 => q H2 (e1.trans e2))
      exact ev_andV (ev_call (ea_cons (ev_var rfl) (ea_cons ev_c ea_nil)) (svf (h2.ex e1))) fun _ => ev_andV (ev_call (ea_cons (ev_var rfl) (ea_cons ev_c ea_nil)) (svf (h3.ex e1))) fun _ => ev_call (ea_cons (ev_var rfl) (ea_cons ev_c ea_nil)) (svf (h5.ex e1))
theorem ok_init (T : Tms K mg) : FnOk P w K mg base (L2.CX P w) 4 T.I T.dI ["self", "name", "gap", "length", "jitter", "last"] (spInit K T.C T.M) := by
  have G := ok_msg (P := P) (w := w) (base := base) T.T
  have b1 : Binds K T.T.msg.d ["name", "gap", "length", "jitter", "last"] [] := Df.b T.T.msg fun _ _ _ _ _ _ us hl => match us, hl with | [_, _, _, _, _], _ => rfl
  obtain ⟨fdx, Gx, bx⟩ := T.xM.raise P w mg base
  refine T.FI.okX sc_init ?_ ?_
  · rintro vs H Q E ⟨x, dx, n, g, l, j, la, b, rfl, _⟩
    rfl
  · rintro cdv A outer s H vs Q E hr ⟨x, dx, n, g, l, j, la, b, rfl, hx, hf, q1, q0⟩
    refine ⟨_, (pss_cons (ps_if (pt_not (pt_val (pe_call G (hr.mono (by decide)) rfl T.T.msg.g T.T.msg.F.kp b1 .nil pass0 (pa_cons (pv 1) (pa_cons (pv 2) (pa_cons (pv 3) (pa_cons (pv 4) (pa_cons (pv 5) pa_nil)))))))
        ) (pss_one (ps_raise rfl (takes_of rfl rfl rfl rfl) (pmk_oex T.xM.x.oex T.xM.x.iC T.xM.x.tI Gx (hr.mono (by decide)) bx .nil pass0 rfl T.g_InvalidMessage (pa_cons (pe_tup (pa_cons (pv 1) (pa_cons (pv 2) (pa_cons (pv 3) (pa_cons (pv 4) (pa_cons (pv 5) pa_nil)))))) pa_nil)))) pss_nil)
      (pss_cons (ps_fld (pv 0) (pv 1) rfl) (pss_cons (ps_fld (pv 0) (pv 2) rfl) (pss_cons (ps_fld (pv 0) (pv 3) rfl) (pss_cons (ps_fld (pv 0) (pv 4) rfl) (pss_one (ps_fld (pv 0) (pv 5) rfl))))))), ?_⟩
    have sv : SpV (spMsg K) ([n, g, l, j, la] ++ []) H (.bl b) := fun H2 e Q q _ => ⟨n, g, l, j, la, b, rfl, hf.ex e, q⟩
    refine q_when (b := !b) (et_not (et_B (ev_call (ea_cons (ev_var rfl) (ea_cons (ev_var rfl) (ea_cons (ev_var rfl) (ea_cons (ev_var rfl) (ea_cons (ev_var rfl) ea_nil))))) sv))) (fun h H1 e1 => ?_) (fun h H1 e1 => ?_)
    · have hb : b = false := by
        rw [Bool.not_eq_true'] at h
        exact h
      refine ⟨n, rfl, g, rfl, l, rfl, j, rfl, la, rfl, (by show 5 ≤ sizeLine; decide), fun t ht => ?_⟩
      refine ⟨(by show 1 ≤ 1000; decide), fun a ha => ⟨a, .ref t, rfl, upd_same, fun d hd hne => ⟨rfl, d, [(("value" : Str), V.ref t)], upd_same, ?_⟩⟩⟩
      have hd0 : upd H1 t (.tup [n, g, l, j, la]) d = none := by
        rw [upd_ne hne] at hd
        exact hd
      refine ⟨(upd_ne hne).trans upd_same, hd0, ?_⟩
      have hat : t ≠ a := fun z => by
        rw [← z, upd_same] at ha
        cases ha
      have hdt : t ≠ d := fun z => by
        rw [← z, upd_same] at hd0
        cases hd0
      have low : ∀ b o, upd H1 t (.tup [n, g, l, j, la]) b = some o → upd (del (mkX (upd (upd H1 t (.tup [n, g, l, j, la])) a (exo a T.M none)) T.M a d (.ref t)) a) d (.xd [(("value" : Str), .ref t)]) b = some o := by
        intro b o e
        have h1 : b ≠ d := ne_of_none e hd0
        have h2 : b ≠ a := ne_of_none e ha
        rw [upd_ne h1, del_ne h2]
        unfold mkX
        rw [upd_ne h2, upd_ne h1, upd_ne h2]
        exact e
      exact q0 hb _ t d ((e1.trans (Ex.new ht)).trans low) (low _ _ upd_same) upd_same
    · have hb : b = true := by
        rw [Bool.not_eq_false'] at h
        exact h
      have z1 := e1 _ _ hx
      refine ⟨n, rfl, .ref x, rfl, x, T.C, dx, [], rfl, z1, T.cls, T.n_name, by decide, ?_⟩
      refine ⟨g, rfl, .ref x, rfl, x, T.C, dx, _, rfl, upd_same, T.cls, T.n_gap, lt_put 0 (by decide) (lt_nil 0), ?_⟩
      refine ⟨l, rfl, .ref x, rfl, x, T.C, dx, _, rfl, upd_same, T.cls, T.n_length, lt_put 1 (by decide) (lt_put 0 (by decide) (lt_nil 0)), ?_⟩
      refine ⟨j, rfl, .ref x, rfl, x, T.C, dx, _, rfl, upd_same, T.cls, T.n_jitter, lt_put 2 (by decide) (lt_put 1 (by decide) (lt_put 0 (by decide) (lt_nil 0))), ?_⟩
      refine ⟨la, rfl, .ref x, rfl, x, T.C, dx, _, rfl, upd_same, T.cls, T.n_last, lt_put 3 (by decide) (lt_put 2 (by decide) (lt_put 1 (by decide) (lt_put 0 (by decide) (lt_nil 0)))), ?_⟩
      rw [upd_upd, upd_upd, upd_upd, upd_upd]
      exact q1 hb _ (fun c o e => by
        by_cases hc : c = x
        · rw [hc, hide_p] at e
          cases e
        · rw [hide_ne hc] at e
          exact (upd_ne hc).trans (e1 _ _ e)) upd_same
theorem ev_fldM (T : Tms K mg) {σ : L2.St} {H : Hp} {te : TE} {f : Str} {a : Addr} {n g l j la v : V} (he : Ev te σ H (.ref a)) (x : Mg H T.C a n g l j la) (nf : NoAttr K T.C f) (hf : (mfs n g l j la).lookup f = some v) : Ev (tFld K te f) σ H v := fun H1 e Q q =>
  he H1 e _ fun H2 e2 => by
    obtain ⟨dx, z⟩ := x
    exact ⟨a, T.C, dx, _, v, rfl, e2 _ _ (e _ _ z), T.cls, nf, hf, q H2 e2⟩
theorem ok_eq (T : Tms K mg) : FnOk P w K mg base CX0 1 T.E T.dE ["self", "other"] (spEqM K T.C) := by
  refine T.FE.ok sc_eq ?_ ?_
  · rintro vs H Q E ⟨a, n, g, l, j, la, y, rfl, _⟩
    rfl
  · rintro cdv A outer s H vs Q E hr ⟨a, n, g, l, j, la, y, rfl, hm, hq⟩
    refine ⟨_, (pss_one (ps_ret (pe_and (pe_callB call_isi (by rfl) T.T.z_isinstance (by decide +kernel) (pa_cons (pv 1) (pa_cons (pe_glob (v := .ref _) rfl T.g_Message rfl) pa_nil))) (pe_and (pe_cmpR op_eq (pe_fld (pv 0) rfl) (pe_fld (pv 1) rfl) (nomark _)) (pe_and (pe_cmpR op_eq (pe_fld (pv 0) rfl) (pe_fld (pv 1) rfl) (nomark _)) (pe_and (pe_cmpR op_eq (pe_fld (pv 0) rfl) (pe_fld (pv 1) rfl) (nomark _)) (pe_and (pe_cmpR op_eq (pe_fld (pv 0) rfl) (pe_fld (pv 1) rfl) (nomark _)) (pe_one (pe_cmpR op_eq (pe_fld (pv 0) rfl) (pe_fld (pv 1) rfl) (nomark _)))))))))), ?_⟩
    rcases hq with ⟨t, ty, k, q⟩ | ⟨c, n2, g2, l2, j2, la2, rfl, hm2, ty, k, s1, s2, s3, s4, s5, q⟩
    · refine s_ret (v := .bl (false && false)) ?_ q
      exact ev_andV (ev_isi (ev_var rfl) ev_c (.own _) ty k) fun h => absurd h (by decide)
    · refine s_ret (v := .bl (true && (decide (n = n2) && (decide (g = g2) && (decide (l = l2) && (decide (j = j2) && decide (la = la2))))))) ?_ q
      refine ev_andV (ev_isi (ev_var rfl) ev_c (.own _) ty k) fun _ => ?_
      exact ev_andV (ev_op (ev_fldM T (ev_var rfl) hm T.n_name mf_name) (ev_fldM T (ev_var rfl) hm2 T.n_name mf_name) (rv_eq s1)) fun _ =>
        ev_andV (ev_op (ev_fldM T (ev_var rfl) hm T.n_gap mf_gap) (ev_fldM T (ev_var rfl) hm2 T.n_gap mf_gap) (rv_eq s2)) fun _ =>
        ev_andV (ev_op (ev_fldM T (ev_var rfl) hm T.n_length mf_length) (ev_fldM T (ev_var rfl) hm2 T.n_length mf_length) (rv_eq s3)) fun _ =>
        ev_andV (ev_op (ev_fldM T (ev_var rfl) hm T.n_jitter mf_jitter) (ev_fldM T (ev_var rfl) hm2 T.n_jitter mf_jitter) (rv_eq s4)) fun _ =>
        ev_op (ev_fldM T (ev_var rfl) hm T.n_last mf_last) (ev_fldM T (ev_var rfl) hm2 T.n_last mf_last) (rv_eq s5)
end
end K02
set_option Elab.async false
set_option linter.all false
set_option maxRecDepth 100000
set_option maxHeartbeats 2000000
namespace K02
open PySem PySem.Spec PyProof.Rows L2 Wr Evl
abbrev s__law_purse : Stmt := top 12
theorem sc__law_purse : FnScope ["_law_script", "_law_at", "_law_cell"] ["_law_script", "_law_at"] (defScope s__law_purse) := ⟨rfl, rfl, rfl, by decide +kernel, rfl, by decide +kernel, by decide +kernel⟩
abbrev s__law_draw : Stmt := top 13
theorem sc__law_draw : FnScope ["_law_purse_here", "_law_many", "_law_drawn", "_law_turn", "_law_number"] ["_law_purse_here", "_law_many"] (defScope s__law_draw) := ⟨rfl, rfl, rfl, by decide +kernel, rfl, by decide +kernel, by decide +kernel⟩
abbrev s__law_pick : Stmt := top 14
theorem sc__law_pick : FnScope ["_law_purse_here", "_law_items"] ["_law_purse_here", "_law_items"] (defScope s__law_pick) := ⟨rfl, rfl, rfl, by decide +kernel, rfl, by decide +kernel, by decide +kernel⟩
/-- the draws behind the top -/
structure Tpu (K : PySem.W.Frag) (mg : Str → Option Value) where
  purse : Df K mg "_law_purse" s__law_purse
  draw : Df K mg "_law_draw" s__law_draw
  pick : Df K mg "_law_pick" s__law_pick
  z_len : mg "len" = none
  z_max : mg "max" = none
  z_int : mg "int" = none
section
variable {P : Program} {w : World} {K : PySem.W.Frag} {mg : Str → Option Value} {base : Heap}
theorem ok_purse (T : Tpu K mg) : FnOk P w K mg base CX0 1 T.purse.a T.purse.d ["_law_script", "_law_at"] (spPurse K) := by
  refine T.purse.F.ok sc__law_purse ?_ ?_
  · rintro vs H Q E ⟨a, ns, i, rfl, _⟩
    rfl
  · rintro cdv A outer s H vs Q E hr ⟨a, ns, i, rfl, hS, hl, hi, k⟩
    refine ⟨_, (pss_cons (ps_set (i := 2) sc__law_purse.nd rfl (Or.inl rfl) pe_int)
      (pss_cons (ps_if (pt_cmpR op_lt (pv 1) (pe_callB call_len_seq (by rfl) T.z_len (by decide +kernel) (pa_cons (pv 0) pa_nil)) (nomark _)) 
        (pss_one (ps_set (i := 2) sc__law_purse.nd rfl (Or.inl rfl) (pe_ix ix_list (pv 0) (pv 1) (fun _ _ => rfl)))) pss_nil)
      (pss_one (ps_ret (pe_lst (pa_cons (pe_op op_mod (pe_callTy call_int1 (by rfl) T.z_int (by decide +kernel) (pa_cons (pe_callB (call_max2 rfl) (by rfl) T.z_max (by decide +kernel) (pa_cons (pe_op op_sub (pv 2) (pe_op op_pow pe_int pe_int)) (pa_cons pe_int pa_nil))) pa_nil)) (pe_op op_powB (pe_op op_pow pe_int pe_int) pe_int)) (pa_cons (pe_op op_mod (pe_callTy call_int1 (by rfl) T.z_int (by decide +kernel) (pa_cons (pe_op op_add (pv 2) (pe_op op_mul pe_int (pv 1))) pa_nil)) pe_int) (pa_cons pe_int pa_nil)))))))), ?_⟩
    refine ⟨_, rfl, _, rfl, a, _, rfl, Or.inl hS, _, _, rfl, rfl, _, rfl, ?_⟩
    refine ite2 (fun hc => ?_) (fun _ => ?_)
    · have hlt : i < ns.length := by
        have h := of_decide_eq_true hc
        rw [List.length_map] at h
        omega
      obtain ⟨z, hz⟩ : ∃ z, ns[i]? = some z := ⟨_, List.getElem?_eq_getElem hlt⟩
      have hv : (ns.map V.int)[i]? = some (V.int z) := by
        rw [List.getElem?_map, hz]
        rfl
      refine ⟨_, rfl, _, rfl, a, _, _, _, rfl, rfl, hS, atI_nat' hv, ?_⟩
      refine ⟨_, rfl, _, _, rfl, rfl, ⟨by decide, by decide, by decide⟩, _, _, rfl, rfl, _, _, rfl, Or.inl ⟨_, rfl, ?_⟩⟩
      refine ⟨_, _, rfl, rfl, ⟨by decide, by decide, by decide⟩, _, _, rfl, rfl, ten400, _, _, rfl, rfl, (by show (0 : Int) < (10 ^ (40 : Int).toNat) ^ (10 : Int).toNat; decide +kernel), ?_⟩
      refine ⟨_, rfl, _, rfl, _, _, rfl, rfl, Or.inl ⟨by decide, by decide⟩, _, _, rfl, rfl, Or.inl ⟨_, rfl, _, _, rfl, rfl, (by show (0 : Int) < 2147483629; decide), ?_⟩⟩
      exact ⟨by show 3 ≤ sizeLine; decide, fun p hp => k p _ _ hp⟩
    · refine ⟨_, rfl, _, _, rfl, rfl, ⟨by decide, by decide, by decide⟩, _, _, rfl, rfl, _, _, rfl, Or.inl ⟨_, rfl, ?_⟩⟩
      refine ⟨_, _, rfl, rfl, ⟨by decide, by decide, by decide⟩, _, _, rfl, rfl, ten400, _, _, rfl, rfl, (by show (0 : Int) < (10 ^ (40 : Int).toNat) ^ (10 : Int).toNat; decide +kernel), ?_⟩
      refine ⟨_, rfl, _, rfl, _, _, rfl, rfl, Or.inl ⟨by decide, by decide⟩, _, _, rfl, rfl, Or.inl ⟨_, rfl, _, _, rfl, rfl, (by show (0 : Int) < 2147483629; decide), ?_⟩⟩
      exact ⟨by show 3 ≤ sizeLine; decide, fun p hp => k p _ _ hp⟩
theorem ok_draw (T : Tpu K mg) : FnOk P w K mg base CX0 1 T.draw.a T.draw.d ["_law_purse_here", "_law_many"] spDraw := by
  refine T.draw.F.ok sc__law_draw ?_ ?_
  · rintro vs H Q E ⟨p, n, k, rfl, _⟩
    rfl
  · rintro cdv A outer s H vs Q E hr ⟨p, n, k, rfl, ⟨d, m, t, hp, t0, t1⟩, hn, k0, k1, q⟩
    refine ⟨_, (pss_cons (ps_if (pt_cmpR op_gt (pe_ix ix_list (pv 0) pe_int (fun _ _ => rfl)) pe_int (nomark _)) 
      (pss_cons (ps_set (i := 2) sc__law_draw.nd rfl (Or.inl rfl) (pe_op op_mod (pe_callTy call_int1 (by rfl) T.z_int (by decide +kernel) (pa_cons (pe_ix ix_list (pv 0) pe_int (fun _ _ => rfl)) pa_nil)) (pv 1)))
      (pss_cons (ps_asg (pe_op op_fdiv (pe_ix ix_list (pv 0) pe_int (fun _ _ => rfl)) (pv 1)) (pg_sub (pv 0) pe_int set_list))
      (pss_one (ps_ret (pv 2))))) pss_nil)
    (pss_cons (ps_set (i := 3) sc__law_draw.nd rfl (Or.inl rfl) (pe_op op_add (pe_ix ix_list (pv 0) pe_int (fun _ _ => rfl)) pe_int))
    (pss_cons (ps_asg (pv 3) (pg_sub (pv 0) pe_int set_list))
    (pss_cons (ps_set (i := 4) sc__law_draw.nd rfl (Or.inl rfl) (pe_op op_mod (pe_callTy call_int1 (by rfl) T.z_int (by decide +kernel) (pa_cons (pe_op op_mul (pe_op op_add (pe_ix ix_list (pv 0) pe_int (fun _ _ => rfl)) (pe_op op_mul pe_int (pv 3))) (pe_op op_add (pe_op op_mul (pv 3) (pv 3)) pe_int)) pa_nil)) pe_int))
    (pss_cons (ps_set (i := 4) sc__law_draw.nd rfl (Or.inl rfl) (pe_op op_mod (pe_callTy call_int1 (by rfl) T.z_int (by decide +kernel) (pa_cons (pe_op op_add (pe_op op_mul (pv 4) (pv 4)) (pv 3)) pa_nil)) pe_int))
    (pss_one (ps_ret (pe_op op_mod (pe_op op_fdiv (pe_op op_mod (pe_callTy call_int1 (by rfl) T.z_int (by decide +kernel) (pa_cons (pe_op op_mul (pv 4) pe_int) pa_nil)) pe_int) pe_int) (pv 1))))))))), ?_⟩
    have hL : SqL K H p [.int d, .int m, .int t] := SqL.of hp
    refine ⟨_, rfl, p, _, 0, _, rfl, rfl, hL, rfl, _, _, rfl, rfl, _, rfl, ?_⟩
    refine ite2 (fun hc => ?_) (fun _ => ?_)
    · refine ⟨_, rfl, p, _, 0, _, rfl, rfl, hL, rfl, Or.inl ⟨_, rfl, _, rfl, _, _, rfl, rfl, k0, ?_⟩⟩
      refine ⟨_, rfl, p, _, 0, _, rfl, rfl, hL, rfl, _, rfl, _, _, rfl, rfl, ⟨k0, k1⟩, ?_⟩
      refine ⟨_, rfl, p, _, 0, 0, rfl, rfl, hp, rfl, ?_⟩
      refine ⟨_, rfl, ?_⟩
      refine q _ _ (Int.emod_nonneg _ (by omega)) (Int.emod_lt_of_pos _ k0) But.upd ⟨_, _, _, upd_same, t0, by omega⟩
    · refine ⟨_, rfl, p, _, 2, _, rfl, rfl, hL, rfl, _, _, rfl, rfl, ?_⟩
      refine ⟨_, rfl, _, rfl, p, _, 2, 2, rfl, rfl, hp, rfl, ?_⟩
      have hp2 : upd H p (.lst ([V.int d, .int m, .int t].set 2 (.int (t + 1)))) p = some (.lst [.int d, .int m, .int (t + 1)]) := upd_same
      refine ⟨_, rfl, p, _, 1, _, rfl, rfl, SqL.of hp2, rfl, _, rfl, _, _, rfl, rfl, Or.inl ⟨by decide, by decide⟩, _, _, rfl, rfl, ?_⟩
      have b1 : -(2 ^ 64) < t + 1 ∧ t + 1 < 2 ^ 64 := by omega
      have b2 : -(2 ^ 64) < (t + 1) * (t + 1) + 7919 ∧ (t + 1) * (t + 1) + 7919 < 2 ^ 64 := by
        have h1 : 0 ≤ (t + 1) * (t + 1) := Int.mul_nonneg (by omega) (by omega)
        have h2 : (t + 1) * (t + 1) ≤ 1000001 * 1000001 := Int.mul_le_mul (by omega) (by omega) (by omega) (by omega)
        omega
      refine ⟨_, rfl, _, rfl, _, _, rfl, rfl, Or.inl b1, _, _, rfl, rfl, _, _, rfl, rfl, Or.inr b2, Or.inl ⟨_, rfl, _, _, rfl, rfl, (by show (0 : Int) < 2147483629; decide), ?_⟩⟩
      have z0 := Int.emod_nonneg ((m + 104729 * (t + 1)) * ((t + 1) * (t + 1) + 7919)) (show (2147483629 : Int) ≠ 0 by decide)
      have z1 := Int.emod_lt_of_pos ((m + 104729 * (t + 1)) * ((t + 1) * (t + 1) + 7919)) (show (0 : Int) < 2147483629 by decide)
      generalize ((m + 104729 * (t + 1)) * ((t + 1) * (t + 1) + 7919)) % 2147483629 = z at z0 z1 ⊢
      refine ⟨_, rfl, _, rfl, _, _, rfl, rfl, Or.inl ⟨by omega, by omega⟩, _, rfl, _, _, rfl, rfl, Or.inl ⟨_, rfl, _, _, rfl, rfl, (by show (0 : Int) < 2147483587; decide), ?_⟩⟩
      have y0 := Int.emod_nonneg (z * z + (t + 1)) (show (2147483587 : Int) ≠ 0 by decide)
      have y1 := Int.emod_lt_of_pos (z * z + (t + 1)) (show (0 : Int) < 2147483587 by decide)
      generalize (z * z + (t + 1)) % 2147483587 = y at y0 y1 ⊢
      refine ⟨_, rfl, _, _, rfl, rfl, Or.inl ⟨by omega, by omega⟩, Or.inl ⟨_, rfl, _, _, rfl, rfl, (by show (0 : Int) < 2147483647; decide), ?_⟩⟩
      refine ⟨_, _, rfl, rfl, ⟨by decide, by decide⟩, _, rfl, _, _, rfl, rfl, k0, ?_⟩
      exact q _ _ (Int.emod_nonneg _ (by omega)) (Int.emod_lt_of_pos _ k0) But.upd ⟨_, _, _, upd_same, by omega, by omega⟩
theorem ok_pick (T : Tpu K mg) : FnOk P w K mg base CX0 2 T.pick.a T.pick.d ["_law_purse_here", "_law_items"] (spPick K) := by
  have G__law_draw := ok_draw (P := P) (w := w) (base := base) T
  have b__law_draw : Binds K T.draw.d ["_law_purse_here", "_law_many"] [] := Df.b T.draw fun _ _ _ _ _ _ us hl => match us, hl with | [_, _], _ => rfl
  refine T.pick.F.ok sc__law_pick ?_ ?_
  · rintro vs H Q E ⟨p, l, n, xs, rfl, _⟩
    rfl
  · rintro cdv A outer s H vs Q E hr ⟨p, l, n, xs, rfl, hp, hn, hlp, hL, hB, h0, h1, q⟩
    refine ⟨_, (pss_one (ps_ret (pe_ix ix_list (pv 1) (pe_call G__law_draw (hr.mono (by decide)) rfl T.draw.g T.draw.F.kp b__law_draw .nil pass0 (pa_cons (pv 0) (pa_cons (pe_callB call_len_seq (by rfl) T.z_len (by decide +kernel) (pa_cons (pv 1) pa_nil)) pa_nil))) (fun _ _ => rfl)))), ?_⟩
    refine ⟨_, rfl, _, rfl, _, rfl, l, xs, rfl, Or.inl hL, p, n, _, rfl, hp, hn, by omega, by omega, ?_⟩
    intro r H' r0 r1 hb hp'
    obtain ⟨x, hx, hm⟩ := atI_mem (xs := xs) r0 r1
    exact ⟨l, xs, r, x, rfl, rfl, hB H' hb, hx, q x H' hm hb hp'⟩
end
end K02
set_option Elab.async false
set_option linter.all false
set_option maxRecDepth 100000
set_option maxHeartbeats 2000000
namespace Wr
open PySem PySem.Spec PyProof.Rows L2 Evl
theorem Purse.upd {H : Hp} {p l : Addr} {n : Nat} {o : HO} (x : Purse H p n) (hl : H l = none) : Purse (upd H l o) p n :=
  let ⟨d, m, t, e, h⟩ := x
  ⟨d, m, t, (upd_ne (ne_of_none e hl)).trans e, h⟩
theorem Purse.ex {H H' : Hp} {p : Addr} {n : Nat} (x : Purse H p n) (e : Ex H H') : Purse H' p n :=
  let ⟨d, m, t, h, r⟩ := x
  ⟨d, m, t, e _ _ h, r⟩
theorem Purse.ne {H : Hp} {p l : Addr} {n : Nat} (x : Purse H p n) (hl : H l = none) : l ≠ p := fun z => by
  obtain ⟨d, m, t, h, _⟩ := x
  rw [z, h] at hl
  cases hl
/-- f(p, k), a draw -/
theorem q_draw {σ : L2.St} {H : Hp} {Q : VK} {E : XK} {p : Addr} {n i : Nat} {k : Int} (h0 : σ[i]? = some (some (.ref p))) (hp : Purse H p n) (hn : n ≤ 999000) (k0 : 0 < k) (k1 : k < 1073741824)
    (q : ∀ r H', 0 ≤ r → r < k → But p H H' → Purse H' p (n + 1) → Q (.int r) H') : tCall spDraw [] E (tCons (tVar i) (tCons (tC (.int k)) tNil)) σ H Q :=
  ⟨.ref p, h0, p, n, k, rfl, hp, by omega, k0, k1, q⟩
theorem ev_int1 {σ : L2.St} {H : Hp} {te : TE} {i : Int} (ha : Ev te σ H (.int i)) : Ev (tCB (fun xs H Q => (∃ i, xs = [.int i] ∧ Q (.int i) H) ∨ ∃ k, xs = [.bl k] ∧ Q (.int (if k then 1 else 0)) H) (tCons te tNil)) σ H (.int i) :=
  ev_cb (ea_cons ha ea_nil) fun H1 ex Q q => Or.inl ⟨i, rfl, q H1 (Ex.refl _)⟩
theorem rv_addS {H : Hp} {i j : Str} (h : i.length + j.length ≤ 100000) : RV (fun x y H Q => ∃ i j, x = .str i ∧ y = .str j ∧ i.length + j.length ≤ sizeLine ∧ Q (.str (i ++ j)) H) (.str i) (.str j) H (.str (i ++ j)) :=
  fun H1 _ Q q => ⟨i, j, rfl, rfl, sz_of h, q H1 (Ex.refl _)⟩
theorem but_ex {p l : Addr} {H H' : Hp} {o : HO} (b : But p H H') (h : H l = some o) (n : l ≠ p) : H' l = some o := (b l n).trans h
/-- but for p, all stays -/
abbrev Bx (p : Addr) (H H' : Hp) : Prop := Ex (hide p H) H'
theorem Bx.refl {p : Addr} {H : Hp} : Bx p H H := hide_le
theorem Bx.but {p : Addr} {H H' H2 : Hp} (x : Bx p H H') (b : But p H' H2) : Bx p H H2 := fun a o h => by
  by_cases ha : a = p
  · rw [ha, hide_p] at h
    cases h
  · exact (b a ha).trans (x _ _ h)
theorem Bx.ex {p : Addr} {H H' H2 : Hp} (x : Bx p H H') (e : Ex H' H2) : Bx p H H2 := fun a o h => e _ _ (x _ _ h)
theorem Bx.at {p l : Addr} {H H' : Hp} {o : HO} (x : Bx p H H') (h : H l = some o) (n : l ≠ p) : H' l = some o := x _ _ ((hide_ne n).trans h)
theorem Bx.trans {p : Addr} {H H' H2 : Hp} (x : Bx p H H') (y : Bx p H' H2) : Bx p H H2 := fun a o h => by
  by_cases ha : a = p
  · rw [ha, hide_p] at h
    cases h
  · exact y _ _ ((hide_ne ha).trans (x _ _ h))
end Wr
namespace K02
open PySem PySem.Spec PyProof.Rows L2 Wr Evl
abbrev s__law_names : Stmt := top 15
theorem sc__law_names : FnScope ["_law_purse_here", "_law_many", "_law_first", "_law_word", "_law_letters", "_law_at"] ["_law_purse_here", "_law_many"] (defScope s__law_names) := ⟨rfl, rfl, rfl, by decide +kernel, rfl, by decide +kernel, by decide +kernel⟩
abbrev s__law_rows : Stmt := top 16
theorem sc__law_rows : FnScope ["_law_purse_here", "_law_many", "_law_found", "_law_name", "_law_gap", "_law_length", "_law_jitter"] ["_law_purse_here", "_law_many"] (defScope s__law_rows) := ⟨rfl, rfl, rfl, by decide +kernel, rfl, by decide +kernel, by decide +kernel⟩
structure Tro (K : PySem.W.Frag) (mg : Str → Option Value) where
  T : Tpu K mg
  names : Df K mg "_law_names" s__law_names
  rows : Df K mg "_law_rows" s__law_rows
  z_range : mg "range" = none
def words : List Str := ["", "a", "zz", "brake", "qqqqqqq"]
abbrev lets : Str := "abcdefghijklmnopqrstuvwxyz"
/-- a name that is drawn -/
def Nm (x : Str) : Prop := ∃ w, w ∈ words ∧ ∃ m, m < 26 ∧ x = w ++ (⟨#[97 + m]⟩ : Str)
def spNames : Sp := fun vs H Q _ => ∃ (p : Addr) (n : Nat), vs = [.ref p, .int 1] ∧ Purse H p n ∧ n ≤ 900000 ∧
  ∀ q H' x, Nm x → Bx p H H' → Purse H' p (n + 2) → H q = none → q ≠ p → H' q = some (.lst [.str x]) → Q (.ref q) H'
/-- numbers that are drawn -/
structure Dn (g l j la : Int) : Prop where
  g0 : 2 ≤ g
  g1 : g ≤ 10
  l0 : 1 ≤ l
  l1 : l ≤ 3
  j0 : 0 ≤ j
  j1 : j ≤ 13
  a0 : 1 ≤ la
  a1 : la ≤ 20
def spRows : Sp := fun vs H Q _ => ∃ (p : Addr) (n : Nat), vs = [.ref p, .int 1] ∧ Purse H p n ∧ n ≤ 800000 ∧
  ∀ q t H' x g l j la, Nm x → Dn g l j la → Bx p H H' → Purse H' p (n + 8) → H' q = some (.lst [.ref t]) → H' t = some (.tup [.str x, .int g, .int l, .int j, .int la]) → Q (.ref q) H'
theorem let_at (m : Nat) (h : m < 26) : lets.cps.toList[m]? = some (97 + m) := by
  have z : ∀ m, m < 26 → lets.cps.toList[m]? = some (97 + m) := by decide +kernel
  exact z m h
section
variable {P : Program} {w : World} {K : PySem.W.Frag} {mg : Str → Option Value} {base : Heap}
theorem ok_names (T : Tro K mg) : FnOk P w K mg base CX0 3 T.names.a T.names.d ["_law_purse_here", "_law_many"] spNames := by
  have G1 := ok_draw (P := P) (w := w) (base := base) T.T
  have G2 := ok_pick (P := P) (w := w) (base := base) T.T
  have b1 : Binds K T.T.draw.d ["_law_purse_here", "_law_many"] [] := Df.b T.T.draw fun _ _ _ _ _ _ us hl => match us, hl with | [_, _], _ => rfl
  have b2 : Binds K T.T.pick.d ["_law_purse_here", "_law_items"] [] := Df.b T.T.pick fun _ _ _ _ _ _ us hl => match us, hl with | [_, _], _ => rfl
  refine T.names.F.ok sc__law_names ?_ ?_
  · rintro vs H Q E ⟨p, n, rfl, _⟩
    rfl
  · rintro cdv A outer s H vs Q E hr ⟨p, n, rfl, hp, hn, q⟩
    refine ⟨_, (pss_cons (ps_asg (pe_tup (pa_cons (pe_call G1 (hr.mono (by decide)) rfl T.T.draw.g T.T.draw.F.kp b1 .nil pass0 (pa_cons (pv 0) (pa_cons pe_int pa_nil))) (pa_cons (pe_call G2 (hr.mono (by decide)) rfl T.T.pick.g T.T.pick.F.kp b2 .nil pass0 (pa_cons (pv 0) (pa_cons (pe_lst (pa_cons pe_str (pa_cons pe_str (pa_cons pe_str (pa_cons pe_str (pa_cons pe_str pa_nil)))))) pa_nil))) pa_nil)))
        (pg_tup rfl (pgs_cons (pg_name (i := 2) sc__law_names.nd rfl (Or.inr rfl)) (pgs_cons (pg_name (i := 3) sc__law_names.nd rfl (Or.inr rfl)) pgs_nil))))
      (pss_cons (ps_set (i := 4) sc__law_names.nd rfl (Or.inr rfl) pe_str)
      (pss_one (ps_ret (pe_lc (own := [("_law_at", 5)]) rfl sc__law_names.nd (pi_range1 rfl T.z_range (pa_cons (pv 1) pa_nil)) (blkOk_by (N := ["_law_purse_here", "_law_many", "_law_first", "_law_word", "_law_letters", "_law_at"]) (sc := defScope s__law_names) (by decide +kernel)) (fun _ _ _ _ _ => pg_name (i := 5) sc__law_names.nd rfl (Or.inl rfl)) (fun _ _ _ _ _ => pts_nil) (fun _ _ _ _ _ => (pe_op op_add_str (pv 3) (pe_ix (r := rIxS) ix_str (pv 4) (pe_op op_mod (pe_callTy call_int1 (by rfl) T.T.z_int (by decide +kernel) (pa_cons (pe_op op_add (pv 2) (pe_op op_mul pe_int (pv 5))) pa_nil)) pe_int) (fun _ _ => rfl))))))))), ?_⟩
    refine q_draw rfl hp (by omega) (by decide) (by decide) fun r H1 r0 r1 bt1 p1 => ?_
    refine ⟨.ref p, rfl, (by show 5 ≤ sizeLine; decide), fun ls hls => ?_⟩
    have p1' := p1.upd (o := .lst (words.map V.str)) hls
    have lp := p1.ne hls
    refine ⟨p, ls, n + 1, words.map V.str, rfl, p1', by omega, lp, SqL.of upd_same, fun H' b => SqL.of (but_ex b upd_same lp), by decide, by decide, fun y H2 ym bt2 p2 => ?_⟩
    obtain ⟨wd, wm, rfl⟩ := List.mem_map.mp ym
    refine ⟨(by show 2 ≤ sizeLine; decide), fun tp htp => ⟨tp, _, rfl, Or.inl (Or.inl upd_same), rfl, .int r, _, rfl, .str wd, _, rfl, rfl, ?_⟩⟩
    have hB : Bx p H (upd H2 tp (.tup [.int r, .str wd])) := ((((Bx.refl (p := p) (H := H)).but bt1).ex (Ex.new hls)).but bt2).ex (Ex.new htp)
    have p3 := p2.upd (o := .tup [.int r, .str wd]) htp
    generalize upd H2 tp (.tup [.int r, .str wd]) = H3 at hB p3 ⊢
    have hz : wd.length ≤ 7 := by
      have z : ∀ x, x ∈ words → x.length ≤ 7 := by decide +kernel
      exact z wd wm
    dsimp only
    refine q_asg (v := .str lets) ev_c fun H3a e3a => ?_
    have hB := hB.ex e3a
    have p3 := p3.ex e3a
    refine s_retL (xs := [.str (wd ++ (⟨#[97 + (r % 26).toNat]⟩ : Str))]) ?_ ?_
    · have h := el_lcR1 (t := tYes) (te := tOp (fun x y H Q => ∃ i j, x = V.str i ∧ y = V.str j ∧ i.length + j.length ≤ sizeLine ∧ Q (V.str (i ++ j)) H) (tVar 3)
          (tOp rIxS (tVar 4) (tOp (rI (fun x j => 0 < j) fun i j => V.int (i % j)) (tCB (fun xs H Q => (∃ i, xs = [V.int i] ∧ Q (V.int i) H) ∨ ∃ k, xs = [V.bl k] ∧ Q (V.int (if k = true then 1 else 0)) H)
            (tCons (tOp (rI0 fun i j => V.int (i + j)) (tVar 2) (tOp (rI CMul fun i j => V.int (i * j)) (tC (V.int 3)) (tVar 5))) tNil)) (tC (V.int 26)))))
        (σ := [some (.ref p), some (.int 1), some (.int r), some (.str wd), some (.str lets), none]) (H := H3a) (ta := tCons (tVar 1) tNil) (j := 5) (vs := [5]) (n := 1) (fun _ => true) (fun i => V.str (wd ++ (⟨#[97 + ((r + 3 * (i : Int)) % 26).toNat]⟩ : Str)))
        (ea_cons (ev_var rfl) ea_nil) ⟨by decide, by decide⟩ (fun _ => rfl) (fun i H4 e4 hi => fun H5 _ Q q => q H5 (Ex.refl _)) (fun i H4 e4 hi _ => ?_)
      · have e1 : given (1 : Int).toNat (fun _ => true) (fun i => V.str (wd ++ (⟨#[97 + ((r + 3 * (i : Int)) % 26).toNat]⟩ : Str))) = [.str (wd ++ (⟨#[97 + (r % 26).toNat]⟩ : Str))] := by
          show [V.str (wd ++ (⟨#[97 + ((r + 3 * ((0 : Nat) : Int)) % 26).toNat]⟩ : Str))] = _
          rw [show r + 3 * ((0 : Nat) : Int) = r by omega]
        rw [e1] at h
        exact h
      · have hm : ((r + 3 * (i : Int)) % 26).toNat < 26 := by omega
        have ha : atI lets.cps.toList ((r + 3 * (i : Int)) % 26) = some (97 + ((r + 3 * (i : Int)) % 26).toNat) := by
          have z := atI_nat' (let_at _ hm)
          rw [show (((r + 3 * (i : Int)) % 26).toNat : Int) = (r + 3 * (i : Int)) % 26 by omega] at z
          exact z
        have h1 : (⟨#[97 + ((r + 3 * (i : Int)) % 26).toNat]⟩ : Str).length = 1 := rfl
        exact ev_op (ev_var rfl) (ev_op (ev_var rfl) (ev_op (ev_int1 (ev_op (ev_var rfl) (ev_op ev_c (ev_var rfl) (rv_I (Or.inl ⟨by omega, by omega⟩))) rv_I0)) ev_c (rv_I (by decide))) (rv_ixS (by decide +kernel) ha)) (rv_addS (by omega))
    · intro q0 H4 hq0 e4 h4
      refine q q0 H4 _ ⟨wd, wm, (r % 26).toNat, by omega, rfl⟩ (hB.ex e4) (p3.ex e4) ?_ (p3.ne hq0) h4
      match hh : H q0 with
      | none => rfl
      | some o =>
        have ne : q0 ≠ p := p3.ne hq0
        have := hB.at hh ne
        rw [this] at hq0
        cases hq0
theorem ok_rows (T : Tro K mg) : FnOk P w K mg base CX0 4 T.rows.a T.rows.d ["_law_purse_here", "_law_many"] spRows := by
  have G1 := ok_draw (P := P) (w := w) (base := base) T.T
  have G2 := ok_pick (P := P) (w := w) (base := base) T.T
  have G3 := ok_names (P := P) (w := w) (base := base) T
  have b1 : Binds K T.T.draw.d ["_law_purse_here", "_law_many"] [] := Df.b T.T.draw fun _ _ _ _ _ _ us hl => match us, hl with | [_, _], _ => rfl
  have b2 : Binds K T.T.pick.d ["_law_purse_here", "_law_items"] [] := Df.b T.T.pick fun _ _ _ _ _ _ us hl => match us, hl with | [_, _], _ => rfl
  have b3 : Binds K T.names.d ["_law_purse_here", "_law_many"] [] := Df.b T.names fun _ _ _ _ _ _ us hl => match us, hl with | [_, _], _ => rfl
  refine T.rows.F.ok sc__law_rows ?_ ?_
  · rintro vs H Q E ⟨p, n, rfl, _⟩
    rfl
  · rintro cdv A outer s H vs Q E hr ⟨p, n, rfl, hp, hn, q⟩
    refine ⟨_, (pss_cons (ps_set (i := 2) sc__law_rows.nd rfl (Or.inl rfl) (pe_lst pa_nil))
      (pss_cons (ps_for PassesOwn.never rfl (pi_list (pe_call G3 (hr.mono (by decide)) rfl T.names.g T.names.F.kp b3 .nil pass0 (pa_cons (pv 0) (pa_cons (pv 1) pa_nil)))) (pg_name (i := 3) sc__law_rows.nd rfl (Or.inl rfl))
        (pss_cons (ps_par (i := 4) (j := 5) (by rfl) sc__law_rows.nd rfl rfl (by decide) rfl rfl (pa_cons (pe_op op_add pe_int (pe_call G1 (hr.mono (by decide)) rfl T.T.draw.g T.T.draw.F.kp b1 .nil pass0 (pa_cons (pv 0) (pa_cons pe_int pa_nil)))) (pa_cons (pe_op op_add pe_int (pe_call G1 (hr.mono (by decide)) rfl T.T.draw.g T.T.draw.F.kp b1 .nil pass0 (pa_cons (pv 0) (pa_cons pe_int pa_nil)))) pa_nil)) (by rfl))
        (pss_cons (ps_set (i := 6) sc__law_rows.nd rfl (Or.inl rfl) (pe_call G2 (hr.mono (by decide)) rfl T.T.pick.g T.T.pick.F.kp b2 .nil pass0 (pa_cons (pv 0) (pa_cons (pe_lst (pa_cons pe_int (pa_cons pe_int (pa_cons pe_int (pa_cons (pe_call G1 (hr.mono (by decide)) rfl T.T.draw.g T.T.draw.F.kp b1 .nil pass0 (pa_cons (pv 0) (pa_cons pe_int pa_nil))) (pa_cons (pe_call G1 (hr.mono (by decide)) rfl T.T.draw.g T.T.draw.F.kp b1 .nil pass0 (pa_cons (pv 0) (pa_cons pe_int pa_nil))) pa_nil)))))) pa_nil))))
        (pss_one (ps_expr (pe_bm PySem.F.plainAttrs_list PySem.F.slot_list_append PySem.F.type_list_append mt_append (pv 2) (pa_cons (pe_tup (pa_cons (pv 3) (pa_cons (pv 4) (pa_cons (pv 5) (pa_cons (pv 6) (pa_cons (pe_op op_add pe_int (pe_call G1 (hr.mono (by decide)) rfl T.T.draw.g T.T.draw.F.kp b1 .nil pass0 (pa_cons (pv 0) (pa_cons pe_int pa_nil)))) pa_nil)))))) pa_nil)))))))
      (pss_one (ps_ret (pv 2))))), ?_⟩
    refine q_asgL (el_lst ea_nil (by decide)) fun f H1 nf e1 hf => ?_
    have hp1 := hp.ex e1
    have fp : f ≠ p := hp.ne nf
    refine ⟨.ref p, rfl, .int 1, rfl, p, n, rfl, hp1, by omega, fun qa H2 x nx bx2 p2 nq qp h2 => ?_⟩
    have f2 : H2 f = some (.lst []) := bx2.at hf fp
    have hB2 : Bx p H H2 := ((Bx.refl (p := p)).ex e1).trans bx2
    refine ⟨qa, rfl, ⟨[.str x], SqL.of h2⟩, for_list (K := K) (xs := [V.str x]) (fun i σ' H' => (i = 0 ∧ σ' = [some (.ref p), some (.int 1), some (.ref f), none, none, none, none] ∧ H' = H2) ∨
      (i = 1 ∧ σ'[2]? = some (some (.ref f)) ∧ H' qa = some (.lst [.str x]) ∧ Bx p H H' ∧ Purse H' p (n + 8) ∧ ∃ t g l j la, Dn g l j la ∧ H' f = some (.lst [.ref t]) ∧ H' t = some (.tup [.str x, .int g, .int l, .int j, .int la])))
      (Or.inl ⟨rfl, rfl, rfl⟩) ?_ ?_ ?_⟩
    · rintro i σ' H' _ (⟨_, _, rfl⟩ | ⟨_, _, h, _⟩)
      · exact SqL.of h2
      · exact SqL.of h
    · rintro i x' σ' H' hx (⟨rfl, rfl, rfl⟩ | ⟨rfl, _⟩)
      · obtain rfl : V.str x = x' := Option.some.inj hx
        refine q_draw rfl p2 (by omega) (by decide) (by decide) fun g3 H3 g30 g31 bt3 p3 => ⟨2, g3, rfl, rfl, ?_⟩
        refine q_draw rfl p3 (by omega) (by decide) (by decide) fun l4 H4 l40 l41 bt4 p4 => ⟨1, l4, rfl, rfl, _, _, rfl, ?_⟩
        refine ⟨.ref p, rfl, ?_⟩
        refine q_draw rfl p4 (by omega) (by decide) (by decide) fun a5 H5 a50 a51 bt5 p5 => ?_
        refine q_draw rfl p5 (by omega) (by decide) (by decide) fun a6 H6 a60 a61 bt6 p6 => ?_
        refine ⟨(by show 5 ≤ sizeLine; decide), fun ls hls => ?_⟩
        have lp := p6.ne hls
        refine ⟨p, ls, _, [.int 0, .int 0, .int 1, .int a5, .int a6], rfl, p6.upd hls, by omega, lp, SqL.of upd_same, fun H' b => SqL.of (but_ex b upd_same lp), (by show 0 < 5; decide), (by show 5 < 1000000; decide), fun y H7 ym bt7 p7 => ?_⟩
        obtain ⟨j, rfl, j0, j1⟩ : ∃ j : Int, y = .int j ∧ 0 ≤ j ∧ j ≤ 13 := by
          simp only [List.mem_cons, List.not_mem_nil, or_false] at ym
          rcases ym with rfl | rfl | rfl | rfl | rfl
          · exact ⟨_, rfl, by omega, by omega⟩
          · exact ⟨_, rfl, by omega, by omega⟩
          · exact ⟨_, rfl, by omega, by omega⟩
          · exact ⟨_, rfl, by omega, by omega⟩
          · exact ⟨_, rfl, by omega, by omega⟩
        have hB7 : Bx p _ H7 := (((((((Bx.refl (p := p)).but bt3).but bt4).but bt5).but bt6).ex (Ex.new hls)).but bt7)
        refine ⟨.ref f, rfl, Or.inl ⟨rfl, [], sq_of (hB7.at f2 fp)⟩, .str x, rfl, .int (2 + g3), rfl, .int (1 + l4), rfl, .int j, rfl, ?_⟩
        refine q_draw rfl p7 (by omega) (by decide) (by decide) fun a8 H8 a80 a81 bt8 p8 => ⟨1, a8, rfl, rfl, (by show 5 ≤ sizeLine; decide), fun tp htp => ?_⟩
        have hB8 := (hB7.but bt8).ex (Ex.new (o := .tup [.str x, .int (2 + g3), .int (1 + l4), .int j, .int (1 + a8)]) htp)
        have f8 := hB8.at f2 fp
        have tf : tp ≠ f := fun z => by
          have y := (hB7.but bt8).at f2 fp
          rw [← z, htp] at y
          cases y
        refine ⟨f, [], .ref tp, rfl, rfl, f8, by decide, Or.inr ⟨rfl, rfl, ?_, ?_, ?_, tp, 2 + g3, 1 + l4, j, 1 + a8, ⟨by omega, by omega, by omega, by omega, by omega, by omega, by omega, by omega⟩, upd_same, (upd_ne tf).trans upd_same⟩⟩
        · have y := hB8.at h2 qp
          refine (upd_ne (ne_of y f8 (fun z => ?_))).trans y
          injection z with z
          cases z
        · intro c o e
          by_cases hc : c = f
          · rw [hc] at e
            rw [hide_ne fp, nf] at e
            cases e
          · exact (upd_ne hc).trans ((hB2.trans hB8) _ _ e)
        · obtain ⟨d, m, t, h, h0, h1⟩ := p8.upd (o := .tup [.str x, .int (2 + g3), .int (1 + l4), .int j, .int (1 + a8)]) htp
          exact ⟨d, m, t, (upd_ne (Ne.symm fp)).trans h, h0, h1⟩
      · cases hx
    · rintro σ' H' (⟨h, _⟩ | ⟨_, hσ, hq, hB, hp8, t, g, l, j, la, dn, h1, h2⟩)
      · cases h
      · exact ⟨.ref f, hσ, q f t H' x g l j la nx dn hB hp8 h1 h2⟩
end
end K02
set_option Elab.async false
set_option linter.all false
set_option maxRecDepth 100000
set_option maxHeartbeats 2000000
namespace K02
open PySem PySem.Spec PyProof.Rows L2 Wr Evl
abbrev s__law_refused : Stmt := top 17
theorem sc__law_refused : FnScope ["_law_given", "_law_due", "_law_caught", "error", "_law_one"] ["_law_given"] (defScope s__law_refused) := ⟨rfl, rfl, rfl, by decide +kernel, rfl, by decide +kernel, by decide +kernel⟩
structure Tre (K : PySem.W.Frag) (mg : Str → Option Value) where
  S : Tms K mg
  W : Addr
  g_W : mg "WireRanksError" = some (.ref W)
  exm : PySem.W.exmOne K (.ref S.M) (.ref W) = some true
  kit_MM : PySem.W.kitOne K (.ref S.M) (.ref S.M) = some true
  refused : Df K mg "_law_refused" s__law_refused
  z_repr : mg "repr" = none
  z_tuple : mg "tuple" = none
  z_list : mg "list" = none
/-- behind the appends -/
def Aft (odd : V) (H H' : Hp) : Prop := (∃ a ys, odd = .ref a ∧ H a = some (.lst ys) ∧ Ex (hide a H) H' ∧ H' a = some (.lst (ys ++ [.str "more"]))) ∨ ((∀ a ys, odd = .ref a → H a ≠ some (.lst ys)) ∧ Ex H H')
def spRefused (K : PySem.W.Frag) : Sp := fun vs H Q _ => ∃ (l : Addr) (n g lg j la : V) (pre post : List V) (odd : V) (dp dq : List PyData) (d : PyData), vs = [.ref l] ∧ H l = some (.lst [n, g, lg, j, la]) ∧ [n, g, lg, j, la] = pre ++ odd :: post ∧
  Scs pre dp ∧ Scs post dq ∧ Odd H odd d ∧ odd ≠ .ref l ∧ (∀ a ys, odd = .ref a → H a = some (.lst ys) → ys.length ≤ 199) ∧ Five K H n g lg j la false ∧ ∀ H', Aft odd H H' → Q (.bl true) H'
theorem kit_tt : kitB "tuple" "tuple" = some true := by decide +kernel
theorem kit_ll : kitB "list" "list" = some true := by decide +kernel
theorem kit_tl : kitB "tuple" "list" = some false := by decide +kernel
theorem kit_dl : kitB "dict" "list" = some false := by decide +kernel
theorem odd_tup {K : PySem.W.Frag} {H : Hp} {pre post : List V} {odd : V} {dp dq : List PyData} {d : PyData} (h1 : Scs pre dp) (h2 : Scs post dq) (h : Odd H odd d) : DrAll K H (pre ++ odd :: post) (dp ++ d :: dq) :=
  h1.r.app (.cons h.r h2.r)
theorem odd_bd {H : Hp} {pre post : List V} {odd : V} {dp dq : List PyData} {d : PyData} (h1 : Scs pre dp) (h2 : Scs post dq) (h : Odd H odd d) (hl : (pre ++ odd :: post).length = 5) : Bd (.tuple (dp ++ d :: dq)) 2 400000 := by
  have b : Bds 1 51000 (dp ++ d :: dq) := (h1.b.mono (by decide) (by decide)).app (.cons h.b (h2.b.mono (by decide) (by decide)))
  refine b.tup.mono (by decide) ?_
  have : (dp ++ d :: dq).length = 5 := by
    rw [← hl, List.length_append, List.length_append, List.length_cons, List.length_cons, h1.len, h2.len]
  omega
theorem more_sc : Sc (.str "more") (.str "more") := sc_str ⟨by decide +kernel, by decide +kernel, by decide +kernel⟩
theorem Aft.back {H H6 H' : Hp} {odd : V} {d : PyData} (o : Odd H odd d) (e : Ex H H6) (x : Aft odd H6 H') : Aft odd H H' := by
  rcases x with ⟨a, ys, rfl, h6, hx, h'⟩ | ⟨hn, hx⟩
  · cases o with
    | flat s => exact absurd rfl (s.nr a)
    | tup h _ _ => exact absurd ((e _ _ h).symm.trans h6) (fun z => nomatch z)
    | dct h => exact absurd ((e _ _ h).symm.trans h6) (fun z => nomatch z)
    | lst h _ _ =>
      have z := (e _ _ h).symm.trans h6
      cases z
      refine Or.inl ⟨a, _, rfl, h, fun b o hb => ?_, h'⟩
      by_cases hba : b = a
      · rw [hba, hide_p] at hb
        cases hb
      · rw [hide_ne hba] at hb
        exact hx _ _ ((hide_ne hba).trans (e _ _ hb))
  · exact Or.inr ⟨fun a ys z h => hn a ys z (e _ _ h), e.trans hx⟩
theorem Aft.ex {H H' H2 : Hp} {odd : V} (x : Aft odd H H') (e : Ex H' H2) : Aft odd H H2 := by
  rcases x with ⟨a, ys, z, h6, hx, h'⟩ | ⟨hn, hx⟩
  · exact Or.inl ⟨a, ys, z, h6, hx.trans e, e _ _ h'⟩
  · exact Or.inr ⟨hn, hx.trans e⟩
theorem Aft.odd {H H' : Hp} {odd : V} {d : PyData} (o : Odd H odd d) (hz : ∀ a ys, odd = .ref a → H a = some (.lst ys) → ys.length ≤ 199) (x : Aft odd H H') : ∃ d', Odd H' odd d' := by
  rcases x with ⟨a, ys, rfl, h6, hx, h'⟩ | ⟨hn, hx⟩
  · cases o with
    | flat s => exact absurd rfl (s.nr a)
    | tup h _ _ => exact absurd (h.symm.trans h6) (fun z => nomatch z)
    | dct h => exact absurd (h.symm.trans h6) (fun z => nomatch z)
    | lst h s _ =>
      have z := h.symm.trans h6
      cases z
      refine ⟨_, .lst h' (s.app (.cons more_sc .nil)) ?_⟩
      have := hz a _ rfl h6
      rw [List.length_append]
      show _ + 1 ≤ 200
      omega
  · exact ⟨d, o.ex hx⟩
/-- what stands but for the odd list, stands -/
theorem Aft.at {H H' : Hp} {odd : V} {b : Addr} {o : HO} (x : Aft odd H H') (h : H b = some o) (n : odd ≠ .ref b) : H' b = some o := by
  rcases x with ⟨a, ys, rfl, h6, hx, h'⟩ | ⟨hn, hx⟩
  · exact hx _ _ ((hide_ne fun z => n (by rw [z])).trans h)
  · exact hx _ _ h
theorem Aft.atT {H H' : Hp} {odd : V} {b : Addr} {o : HO} (x : Aft odd H H') (h : H b = some o) (n : ∀ ys, o ≠ .lst ys) : H' b = some o := by
  rcases x with ⟨a, ys, rfl, h6, hx, h'⟩ | ⟨hn, hx⟩
  · refine hx _ _ ((hide_ne fun z => ?_).trans h)
    rw [z, h6] at h
    exact n ys (Option.some.inj h).symm
  · exact hx _ _ h
theorem getMid {pre post : List V} {odd x : V} {i : Nat} (h : (pre ++ odd :: post)[i]? = some x) : (i < pre.length ∧ pre[i]? = some x) ∨ (i = pre.length ∧ x = odd) ∨ (pre.length < i ∧ ∃ k : Nat, post[k]? = some x) := by
  by_cases h1 : i < pre.length
  · rw [List.getElem?_append_left h1] at h
    exact Or.inl ⟨h1, h⟩
  · rw [List.getElem?_append_right (by omega)] at h
    by_cases h2 : i = pre.length
    · rw [h2, Nat.sub_self] at h
      exact Or.inr (Or.inl ⟨h2, (Option.some.inj h).symm⟩)
    · obtain ⟨k, hk⟩ : ∃ k, i - pre.length = k + 1 := ⟨i - pre.length - 1, by omega⟩
      rw [hk] at h
      exact Or.inr (Or.inr ⟨by omega, k, h⟩)
section
variable {P : Program} {w : World} {K : PySem.W.Frag} {mg : Str → Option Value} {base : Heap}
theorem ok_refused (T : Tre K mg) : FnG P w K mg base CX0 6 T.refused.a T.refused.d ["_law_given"] (spRefused K) := by
  have G := ok_init (P := P) (w := w) (base := base) T.S
  have bI : Binds K T.S.dI ["self", "name", "gap", "length", "jitter", "last"] [] := T.S.FI.binds fun _ _ _ _ _ _ us hl => match us, hl with | [_, _, _, _, _, _], _ => rfl
  refine fun_okG T.refused.F sc__law_refused ?_ ?_
  · rintro vs H Q E ⟨l, n, g, lg, j, la, pre, post, odd, dp, dq, d, rfl, _⟩
    rfl
  · rintro cdv A outer s H vs Q E gd hr ⟨l, n, g, lg, j, la, pre, post, odd, dp, dq, d, rfl, hl, hxs, hpre, hpost, hodd, hol, hsz, hfive, q⟩
    refine ⟨_, (pss_cons (ps_par (i := 1) (j := 2) (by rfl) sc__law_refused.nd rfl rfl (by decide) rfl rfl (pa_cons (pe_callB (call_repr gd hr.units) (by rfl) T.z_repr (by decide +kernel) (pa_cons (pe_callTy call_tuple_of (by rfl) T.z_tuple (by decide +kernel) (pa_cons (pv 0) pa_nil)) pa_nil)) (pa_cons pe_non pa_nil)) (by rfl))
      (pss_cut (ps_keep (i := 3) rfl rfl sc__law_refused.nd rfl rfl ⟨rfl, by decide, Or.inl T.g_W⟩
        (fun W pn xe tk po => pss_one (ps_expr (pe_makeS T.S.mkC G (hr.mono (by decide)) rfl T.S.g_Message bI (fun σ => passAt tk σ)
          (pa_cons (pe_ix (r := rIxL K) ix_list (pv 0) pe_int (fun _ _ => rfl)) (pa_cons (pe_ix (r := rIxL K) ix_list (pv 0) pe_int (fun _ _ => rfl)) (pa_cons (pe_ix (r := rIxL K) ix_list (pv 0) pe_int (fun _ _ => rfl)) (pa_cons (pe_ix (r := rIxL K) ix_list (pv 0) pe_int (fun _ _ => rfl)) (pa_cons (pe_ix (r := rIxL K) ix_list (pv 0) pe_int (fun _ _ => rfl)) pa_nil))))))))
        (fun a => pss_one (ps_set (i := 2) sc__law_refused.nd rfl (Or.inl rfl) (pv 3))))
      (pss_cons (ps_if (PW.pt (pw_or (pt_not (pt_val (pe_callB call_isK (by rfl) T.S.T.z_isinstance (by decide +kernel) (pa_cons (pv 2) (pa_cons (pe_glob (v := .ref _) rfl T.S.g_InvalidMessage rfl) pa_nil)))))
          (pw_or1 (pt_not (pt_val (pe_callB call_isi (by rfl) T.S.T.z_isinstance (by decide +kernel) (pa_cons (pe_xk (pv 2)) (pa_cons (pe_bltn (v := .ty "tuple") (by rfl) T.z_tuple (by decide +kernel) rfl) pa_nil))))))))
        (pss_one (ps_ret pe_bl)) pss_nil)
      (pss_cons (ps_if (pt_cmpR op_ne (pe_callB (call_repr gd hr.units) (by rfl) T.z_repr (by decide +kernel) (pa_cons (pe_xk (pv 2)) pa_nil)) (pv 1) (nomark _))
        (pss_one (ps_ret pe_bl)) pss_nil)
      (pss_cons (ps_for PassesOwn.never rfl (pi_list (pv 0)) (pg_name (i := 4) sc__law_refused.nd rfl (Or.inl rfl))
        (pss_one (ps_if (pt_val (pe_callB call_isi (by rfl) T.S.T.z_isinstance (by decide +kernel) (pa_cons (pv 4) (pa_cons (pe_bltn (v := .ty "list") (by rfl) T.z_list (by decide +kernel) rfl) pa_nil))))
          (pss_one (ps_expr (pe_bm PySem.F.plainAttrs_list PySem.F.slot_list_append PySem.F.type_list_append mt_append (pv 4) (pa_cons pe_str pa_nil)))) pss_nil)))
      (pss_one (ps_ret (pe_cmpR op_eq (pe_callB (call_repr gd hr.units) (by rfl) T.z_repr (by decide +kernel) (pa_cons (pe_xk (pv 2)) pa_nil)) (pe_callB (call_repr gd hr.units) (by rfl) T.z_repr (by decide +kernel) (pa_cons (pe_callTy call_tuple_of (by rfl) T.z_tuple (by decide +kernel) (pa_cons (pv 0) pa_nil)) pa_nil)) (nomark _)))))))))
      , ?_⟩
    have hlen : (pre ++ odd :: post).length = 5 := by
      rw [← hxs]
      rfl
    have bd := odd_bd hpre hpost hodd hlen
    have hdr : ∀ H', Ex H H' → DrAll K H' [n, g, lg, j, la] (dp ++ d :: dq) := fun H' e => by
      rw [hxs]
      exact odd_tup hpre hpost (hodd.ex e)
    refine ⟨.ref l, rfl, l, _, rfl, Or.inl ⟨SqL.of hl, fun t0 ht0 => ⟨t0, .tuple (dp ++ d :: dq), rfl, .tup (Or.inl (Or.inl upd_same)) (hdr _ (Ex.new ht0)), (fun _ z => nomatch z), bd.s, Nat.le_trans bd.dp (by decide), sz4 (Nat.le_trans bd.z (by decide)), _, _, rfl, ?_⟩⟩⟩
    have e1 : Ex H (upd H t0 (.tup [n, g, lg, j, la])) := Ex.new ht0
    generalize upd H t0 (.tup [n, g, lg, j, la]) = H1 at e1
    refine ⟨fun σ' H' => ∃ a t, σ' = [some (.ref l), some (.str (PyData.tuple (dp ++ d :: dq)).shown), some (.ref a), none, none] ∧ Ex H H' ∧ ExK H' T.S.M a (.ref t) ∧ H' t = some (.tup [n, g, lg, j, la]), ?_, ?_⟩
    · have hl1 := SqL.of (K := K) (e1 _ _ hl)
      refine ⟨.ref l, rfl, l, _, 0, n, rfl, rfl, hl1, rfl, .ref l, rfl, l, _, 1, g, rfl, rfl, hl1, rfl, .ref l, rfl, l, _, 2, lg, rfl, rfl, hl1, rfl, .ref l, rfl, l, _, 3, j, rfl, rfl, hl1, rfl, .ref l, rfl, l, _, 4, la, rfl, rfl, hl1, rfl, fun x dx hx hdx hne => ?_⟩
      have e2 : Ex H1 (upd (upd H1 dx (.own x)) x (.ins T.S.C dx [])) := (Ex.new hdx).trans (Ex.new ((upd_ne (Ne.symm hne)).trans hx))
      refine ⟨x, dx, n, g, lg, j, la, false, rfl, upd_same, hfive.ex (e1.trans e2), fun h => (nomatch h), fun _ H' t dd e3 ht hd => ⟨T.S.M, rfl, T.exm, fun a ha => ⟨.ref a, rfl, a, t, rfl, ?_, ⟨dd, upd_same, (upd_ne (ne_of_none hd ha)).trans hd⟩, (upd_ne (ne_of_none ht ha)).trans ht⟩⟩⟩
      exact ((e1.trans e2).trans e3).trans (Ex.new ha)
    · rintro σ' H4 ⟨a, t, rfl, e4, xk, ht⟩
      have t1 : EvT (tNot (tB (tCB (rIsK K) (tCons (tVar 2) (tCons (tC (.ref T.S.M)) tNil))))) [some (.ref l), some (.str (PyData.tuple (dp ++ d :: dq)).shown), some (.ref a), none, none] H4 false :=
        et_not (a := true) (et_B (ev_isK (ev_var rfl) ev_c T.S.xM.x T.S.cw xk (.own _) T.kit_MM))
      have t2 : EvT (tNot (tB (tCB (rIsi K) (tCons (tXk K (tVar 2)) (tCons (tC (.ty "tuple")) tNil))))) [some (.ref l), some (.str (PyData.tuple (dp ++ d :: dq)).shown), some (.ref a), none, none] H4 false :=
        et_not (a := true) (et_B (ev_isi (ev_xk (ev_var rfl) T.S.xM.x xk) ev_c (.ty _) (.base (.tup ht)) (kit_ty kit_tt)))
      refine q_when (et_or t1 fun _ => t2) (fun h => absurd h (by decide)) fun _ H5 e5 => ?_
      have f5 := e4.trans e5
      have xk5 := xk.ex e5
      have ht5 := e5 _ _ ht
      have dt : ∀ H', Ex H H' → H' t = some (.tup [n, g, lg, j, la]) → Dr K H' (.ref t) (.tuple (dp ++ d :: dq)) := fun H' e h => .tup (Or.inl (Or.inl h)) (hdr H' e)
      refine q_when (b := false) (et_is (et_test (ev_op (ev_reprB (ev_xk (ev_var rfl) T.S.xM.x xk5) (dt _ f5 ht5) bd (by decide) (by decide)) (ev_var rfl) (rv_ne rfl))) (by simp)) (fun h => absurd h (by decide)) fun _ H6 e6 => ?_
      have f6 := f5.trans e6
      have xk6 := xk5.ex e6
      have ht6 := e6 _ _ ht5
      have hl6 := f6 _ _ hl
      have ho6 := hodd.ex f6
      have hat : ∀ {H' : Hp}, Aft odd H6 H' → H' l = some (.lst [n, g, lg, j, la]) := fun x => x.at hl6 hol
      refine q_forLn (j := 4) (ev_var rfl) (SqL.of hl6) (fun i σ' H' => (∃ w, σ' = [some (.ref l), some (.str (PyData.tuple (dp ++ d :: dq)).shown), some (.ref a), none, w]) ∧ ((i ≤ pre.length ∧ Ex H6 H') ∨ (pre.length < i ∧ Aft odd H6 H')))
        (fun H' e => ⟨⟨_, rfl⟩, Or.inl ⟨Nat.zero_le _, e⟩⟩) ?_ ?_ ?_
      · rintro i σ' H' _ ⟨_, ⟨_, e⟩ | ⟨_, x⟩⟩
        · exact SqL.of (e _ _ hl6)
        · exact SqL.of (hat x)
      · rintro i x σ' H' hx ⟨⟨w', rfl⟩, hc⟩
        have sc : ∀ {d' : PyData}, Sc x d' → ∀ {D' : Ends}, (∀ H2, Ex H' H2 → D'.nx [some (.ref l), some (.str (PyData.tuple (dp ++ d :: dq)).shown), some (.ref a), none, some x] H2) →
            tIfS (tB (tCB (rIsi K) (tCons (tVar 4) (tCons (tC (.ty "list")) tNil)))) (tDrop (tBM K "list" rAppend (tVar 4) (tCons (tC (.str "more")) tNil))) tNext D' [some (.ref l), some (.str (PyData.tuple (dp ++ d :: dq)).shown), some (.ref a), none, some x] H' := by
          intro d' s D' k
          obtain ⟨ty, h1, h2⟩ := s.ty
          exact s_when (b := false) (et_B (ev_isi (ev_var rfl) ev_c (.ty _) (h1 K H') (kit_ty h2))) (fun h => absurd h (by decide)) fun _ => k
        have no : ∀ {ty : String}, TyX K H' x (.type ty) → kitB ty "list" = some false → ∀ {D' : Ends}, (∀ H2, Ex H' H2 → D'.nx [some (.ref l), some (.str (PyData.tuple (dp ++ d :: dq)).shown), some (.ref a), none, some x] H2) →
            tIfS (tB (tCB (rIsi K) (tCons (tVar 4) (tCons (tC (.ty "list")) tNil)))) (tDrop (tBM K "list" rAppend (tVar 4) (tCons (tC (.str "more")) tNil))) tNext D' [some (.ref l), some (.str (PyData.tuple (dp ++ d :: dq)).shown), some (.ref a), none, some x] H' := by
          intro ty h1 h2 D' k
          exact s_when (b := false) (et_B (ev_isi (ev_var rfl) ev_c (.ty _) h1 (kit_ty h2))) (fun h => absurd h (by decide)) fun _ => k
        rw [hxs] at hx
        rcases getMid hx with ⟨h1, h2⟩ | ⟨rfl, rfl⟩ | ⟨h1, k, h2⟩
        · rcases hc with ⟨_, e⟩ | ⟨h, _⟩
          · obtain ⟨d', s⟩ := hpre.get h2
            exact sc s fun H2 e2 => ⟨⟨_, rfl⟩, Or.inl ⟨h1, e.trans e2⟩⟩
          · omega
        · rcases hc with ⟨_, e⟩ | ⟨h, _⟩
          · cases ho6 with
            | flat s => exact sc s fun H2 e2 => ⟨⟨_, rfl⟩, Or.inr ⟨Nat.lt_succ_self _, Or.inr ⟨fun a ys z => absurd z (s.nr a), e.trans e2⟩⟩⟩
            | tup h s _ => exact no (.base (.tup (e _ _ h))) kit_tl fun H2 e2 => ⟨⟨_, rfl⟩, Or.inr ⟨Nat.lt_succ_self _, Or.inr ⟨fun a ys z y => (by cases z; rw [h] at y; cases y), e.trans e2⟩⟩⟩
            | dct h => exact no (.base (.dK (e _ _ h))) kit_dl fun H2 e2 => ⟨⟨_, rfl⟩, Or.inr ⟨Nat.lt_succ_self _, Or.inr ⟨fun a ys z y => (by cases z; rw [h] at y; cases y), e.trans e2⟩⟩⟩
            | @lst b ys ds h s hz =>
              refine s_when (b := true) (et_B (ev_isi (ev_var rfl) ev_c (.ty _) (.base (.lst (e _ _ h))) (kit_ty kit_ll))) (fun _ H2 e2 => ?_) (fun h => absurd h (by decide))
              refine s_app (e2 _ _ (e _ _ h)) (ev_var rfl) ev_c (by omega) fun H3 e3 => ⟨⟨_, rfl⟩, Or.inr ⟨Nat.lt_succ_self _, Or.inl ⟨b, ys, rfl, h, fun c o hc => ?_, upd_same⟩⟩⟩
              by_cases hcb : c = b
              · rw [hcb, hide_p] at hc
                cases hc
              · rw [hide_ne hcb] at hc
                exact (upd_ne hcb).trans (e3 _ _ (e2 _ _ (e _ _ hc)))
          · omega
        · rcases hc with ⟨h, _⟩ | ⟨h, x⟩
          · omega
          · obtain ⟨d', s⟩ := hpost.get h2
            exact sc s fun H2 e2 => ⟨⟨_, rfl⟩, Or.inr ⟨by omega, x.ex e2⟩⟩
      · rintro σ' H7 ⟨⟨w', rfl⟩, ⟨h, _⟩ | ⟨_, x⟩⟩
        · exfalso
          rw [hxs, List.length_append, List.length_cons] at h
          omega
        · have z := x.back hodd f6
          obtain ⟨d', ho7⟩ := z.odd hodd hsz
          have ht7 : H7 t = some (.tup [n, g, lg, j, la]) := x.atT ht6 (fun _ z => nomatch z)
          have xk7 : ExK H7 T.S.M a (.ref t) := by
            obtain ⟨dd, h1, h2⟩ := xk6
            exact ⟨dd, x.atT h1 (fun ys z => nomatch (show HO.ext _ = HO.lst ys from z)), x.atT h2 (fun _ z => nomatch z)⟩
          have bd7 := odd_bd hpre hpost ho7 hlen
          have dr7 : DrAll K H7 [n, g, lg, j, la] (dp ++ d' :: dq) := by
            rw [hxs]
            exact odd_tup hpre hpost ho7
          exact s_ret (v := .bl true) (ev_is (ev_op (ev_reprB (ev_xk (ev_var rfl) T.S.xM.x xk7) (.tup (Or.inl (Or.inl ht7)) dr7) bd7 (by decide) (by decide)) (ev_reprU (eu_tof (ev_var rfl) (SqL.of (hat x))) dr7 bd7 (by decide) (by decide)) (rv_eq rfl)) (by simp)) fun H8 e8 => q H8 (z.ex e8)
end
end K02
set_option Elab.async false
set_option linter.all false
set_option maxRecDepth 100000
set_option maxHeartbeats 2000000
namespace K02
open PySem PySem.Spec PyProof.Rows L2 Wr Evl
/-! ### what the odd rows are -/
/-- a right row -/
def RowOk (row : List V) : Prop := ∃ (x : Str) (g l j la : Int), row = [.str x, .int g, .int l, .int j, .int la] ∧ x.length ≤ 1000 ∧ Bd (.str x) 0 250 ∧ g.natAbs < 2 ^ 200 ∧ l.natAbs < 2 ^ 200 ∧ j.natAbs < 2 ^ 200 ∧ la.natAbs < 2 ^ 200
/-- o is no right value at the i-th place -/
def BadA (K : PySem.W.Frag) (H : Hp) (i : Nat) (o : V) : Prop := (i = 0 ∧ NmOk K H o false) ∨ (i = 3 ∧ FrOk K H o 0 false) ∨ (i ≠ 0 ∧ i ≠ 3 ∧ FrOk K H o 1 false)
theorem BadA.ex {K : PySem.W.Frag} {H H' : Hp} {i : Nat} {o : V} (s : Ex H H') (x : BadA K H i o) : BadA K H' i o := by
  rcases x with ⟨h, x⟩ | ⟨h, x⟩ | ⟨h, h2, x⟩
  · exact Or.inl ⟨h, x.ex s⟩
  · exact Or.inr (Or.inl ⟨h, x.ex s⟩)
  · exact Or.inr (Or.inr ⟨h, h2, x.ex s⟩)
theorem fr_int {K : PySem.W.Frag} {H : Hp} {i n : Int} : FrOk K H (.int i) n (decide (n ≤ i)) := Or.inl ⟨i, rfl, rfl⟩
theorem fr_bl {K : PySem.W.Frag} {H : Hp} {b : Bool} {n : Int} : FrOk K H (.bl b) n false := Or.inr (Or.inl ⟨b, rfl, rfl⟩)
theorem fr_ty {K : PySem.W.Frag} {H : Hp} {v : V} {n : Int} {t : String} (h : TyX K H v (.type t)) (k : kitB t "int" = some false) : FrOk K H v n false := Or.inr (Or.inr ⟨t, h, k, rfl⟩)
theorem nm_ty {K : PySem.W.Frag} {H : Hp} {v : V} {t : String} (h : TyX K H v (.type t)) (k : kitB t "str" = some false) : NmOk K H v false := Or.inr ⟨t, h, k, rfl⟩
theorem fr_non {K : PySem.W.Frag} {H : Hp} {n : Int} : FrOk K H .non n false := fr_ty (.base .non) (by decide +kernel)
theorem nm_str {K : PySem.W.Frag} {H : Hp} {x : Str} (h : x.length ≤ 1000) : NmOk K H (.str x) (goodN x) := Or.inl ⟨x, rfl, h, rfl⟩
/-- what the def of the refused asks of its argument -/
def Args (K : PySem.W.Frag) (H : Hp) (o : V) (xs : List V) : Prop := ∃ (n g lg j la : V) (pre post : List V) (dp dq : List PyData), xs = [n, g, lg, j, la] ∧ [n, g, lg, j, la] = pre ++ o :: post ∧ Scs pre dp ∧ Scs post dq ∧ Five K H n g lg j la false
theorem set_args {K : PySem.W.Frag} {H : Hp} {row : List V} {i : Nat} {o : V} (hr : RowOk row) (hi : i < 5) (hb : BadA K H i o) : Args K H o (row.set i o) := by
  obtain ⟨x, g, l, j, la, rfl, hx, bx, hg, hl, hj, ha⟩ := hr
  have sx := sc_str bx
  have sg := sc_int hg
  have sl := sc_int hl
  have sj := sc_int hj
  have sa := sc_int ha
  rcases hb with ⟨rfl, hb⟩ | ⟨rfl, hb⟩ | ⟨h0, h3, hb⟩
  · exact ⟨o, _, _, _, _, [], _, [], _, rfl, rfl, .nil, .cons sg (.cons sl (.cons sj (.cons sa .nil))), ⟨_, _, _, _, _, hb, fr_int, fr_int, fr_int, fr_int, by simp⟩⟩
  · exact ⟨_, _, _, o, _, [_, _, _], _, _, _, rfl, rfl, .cons sx (.cons sg (.cons sl .nil)), .cons sa .nil, ⟨_, _, _, _, _, nm_str hx, fr_int, fr_int, hb, fr_int, by simp⟩⟩
  · match i, hi, h0, h3 with
    | 1, _, _, _ => exact ⟨_, o, _, _, _, [_], _, _, _, rfl, rfl, .cons sx .nil, .cons sl (.cons sj (.cons sa .nil)), ⟨_, _, _, _, _, nm_str hx, hb, fr_int, fr_int, fr_int, by simp⟩⟩
    | 2, _, _, _ => exact ⟨_, _, o, _, _, [_, _], _, _, _, rfl, rfl, .cons sx (.cons sg .nil), .cons sj (.cons sa .nil), ⟨_, _, _, _, _, nm_str hx, fr_int, hb, fr_int, fr_int, by simp⟩⟩
    | 4, _, _, _ => exact ⟨_, _, _, _, o, [_, _, _, _], [], _, [], rfl, rfl, .cons sx (.cons sg (.cons sl (.cons sj .nil))), .nil, ⟨_, _, _, _, _, nm_str hx, fr_int, fr_int, fr_int, hb, by simp⟩⟩
    | 0, _, h, _ => exact absurd rfl h
    | 3, _, _, h => exact absurd rfl h
theorem cut_args {K : PySem.W.Frag} {H : Hp} {row : List V} {i : Nat} {o : V} (hr : RowOk row) (hi : i < 5) (hb : BadA K H i o) :
    Args K H o (cutV (row.set i o) none (some ((i : Int) + 1)) ++ (List.replicate (4 - i) [V.non]).flatten) := by
  obtain ⟨x, g, l, j, la, rfl, hx, bx, hg, hl, hj, ha⟩ := hr
  have sx := sc_str bx
  have sg := sc_int hg
  have sl := sc_int hl
  have sj := sc_int hj
  rcases hb with ⟨rfl, hb⟩ | ⟨rfl, hb⟩ | ⟨h0, h3, hb⟩
  · exact ⟨o, _, _, _, _, [], _, [], _, rfl, rfl, .nil, .cons sc_non (.cons sc_non (.cons sc_non (.cons sc_non .nil))), ⟨_, _, _, _, _, hb, fr_non, fr_non, fr_non, fr_non, by simp⟩⟩
  · exact ⟨_, _, _, o, _, [_, _, _], _, _, _, rfl, rfl, .cons sx (.cons sg (.cons sl .nil)), .cons sc_non .nil, ⟨_, _, _, _, _, nm_str hx, fr_int, fr_int, hb, fr_non, by simp⟩⟩
  · match i, hi, h0, h3 with
    | 1, _, _, _ => exact ⟨_, o, _, _, _, [_], _, _, _, rfl, rfl, .cons sx .nil, .cons sc_non (.cons sc_non (.cons sc_non .nil)), ⟨_, _, _, _, _, nm_str hx, hb, fr_non, fr_non, fr_non, by simp⟩⟩
    | 2, _, _, _ => exact ⟨_, _, o, _, _, [_, _], _, _, _, rfl, rfl, .cons sx (.cons sg .nil), .cons sc_non (.cons sc_non .nil), ⟨_, _, _, _, _, nm_str hx, fr_int, hb, fr_non, fr_non, by simp⟩⟩
    | 4, _, _, _ => exact ⟨_, _, _, _, o, [_, _, _, _], [], _, [], rfl, rfl, .cons sx (.cons sg (.cons sl (.cons sj .nil))), .nil, ⟨_, _, _, _, _, nm_str hx, fr_int, fr_int, fr_int, hb, by simp⟩⟩
    | 0, _, h, _ => exact absurd rfl h
    | 3, _, _, h => exact absurd rfl h
/-- the odd names, the odd numbers -/
def oN (nl nt nd : Addr) : List V := [.non, .int 0, .str "", .str "abcdefghi", .str "A", .str "a1", .str "a b", .str "a\n", .ref nl, .ref nt, .bl true, .ref nd]
def oM (ml mt md : Addr) : List V := [.non, .int 0, .int (0 - 1), .bl true, .str "1", .ref ml, .ref mt, .ref md]
def oM3 (ml mt md : Addr) : List V := [.non, .int (0 - 1), .bl true, .str "1", .ref ml, .ref mt, .ref md]
/-- what stands while the odd rows are tried -/
structure Ct (H0 : Hp) (r a1 a2 nl nt nd ml mt md : Addr) (row : List V) (c : Nat) (H : Hp) : Prop where
  h_ex : Ex H0 H
  h_r : H r = some (.lst row)
  h_a1 : H a1 = some (.lst (oN nl nt nd))
  h_a2 : H a2 = some (.lst (oM ml mt md))
  h_nl : ∃ ys ds, H nl = some (.lst ys) ∧ Scs ys ds ∧ ys.length ≤ 1 + c
  h_ml : ∃ ys ds, H ml = some (.lst ys) ∧ Scs ys ds ∧ ys.length ≤ 1 + c
  h_nt : H nt = some (.tup [.str "a"])
  h_mt : H mt = some (.tup [.int 1])
  h_nd : H nd = some (.dK [])
  h_md : H md = some (.dK [])
  d1 : H0 nl = none
  d2 : H0 ml = none
  dr : nl ≠ r ∧ ml ≠ r
  da : nl ≠ a1 ∧ nl ≠ a2 ∧ ml ≠ a1 ∧ ml ≠ a2
  dd : nl ≠ ml
section
variable {K : PySem.W.Frag} {H0 H H' : Hp} {r a1 a2 nl nt nd ml mt md : Addr} {row : List V} {c : Nat} {o : V}
theorem Ct.mono (x : Ct H0 r a1 a2 nl nt nd ml mt md row c H) {c' : Nat} (h : c ≤ c') : Ct H0 r a1 a2 nl nt nd ml mt md row c' H := by
  obtain ⟨ys, ds, h1, h2, h3⟩ := x.h_nl
  obtain ⟨zs, es, k1, k2, k3⟩ := x.h_ml
  exact { x with h_nl := ⟨ys, ds, h1, h2, by omega⟩, h_ml := ⟨zs, es, k1, k2, by omega⟩ }
theorem Ct.up (x : Ct H0 r a1 a2 nl nt nd ml mt md row c H) (e : Ex H H') : Ct H0 r a1 a2 nl nt nd ml mt md row c H' := by
  obtain ⟨ys, ds, h1, h2, h3⟩ := x.h_nl
  obtain ⟨zs, es, k1, k2, k3⟩ := x.h_ml
  exact { h_ex := x.h_ex.trans e, h_r := e _ _ x.h_r, h_a1 := e _ _ x.h_a1, h_a2 := e _ _ x.h_a2, h_nl := ⟨ys, ds, e _ _ h1, h2, h3⟩, h_ml := ⟨zs, es, e _ _ k1, k2, k3⟩, h_nt := e _ _ x.h_nt, h_mt := e _ _ x.h_mt, h_nd := e _ _ x.h_nd, h_md := e _ _ x.h_md, d1 := x.d1, d2 := x.d2, dr := x.dr, da := x.da, dd := x.dd }
/-- o is one of those two lists, or none -/
def Lk (H : Hp) (nl ml : Addr) (o : V) : Prop := o = .ref nl ∨ o = .ref ml ∨ ∀ a ys, o = .ref a → H a ≠ some (.lst ys)
theorem Ct.aft (x : Ct H0 r a1 a2 nl nt nd ml mt md row c H) (k : Lk H nl ml o) (f : Aft o H H') : Ct H0 r a1 a2 nl nt nd ml mt md row (c + 1) H' := by
  obtain ⟨ys, ds, h1, h2, h3⟩ := x.h_nl
  obtain ⟨zs, es, k1, k2, k3⟩ := x.h_ml
  have f0 := f
  rcases k with rfl | rfl | k
  · rcases f with ⟨a, ys', e, h6, hx, h'⟩ | ⟨hn, _⟩
    · injection e with e
      subst e
      obtain rfl : ys = ys' := by
        have z := h1.symm.trans h6
        cases z
        rfl
      have at_ : ∀ {b : Addr} {u : HO}, H b = some u → b ≠ nl → H' b = some u := fun h n => hx _ _ ((hide_ne n).trans h)
      exact { h_ex := fun b u hb => at_ (x.h_ex _ _ hb) (ne_of_none hb x.d1), h_r := at_ x.h_r (Ne.symm x.dr.1), h_a1 := at_ x.h_a1 (Ne.symm x.da.1), h_a2 := at_ x.h_a2 (Ne.symm x.da.2.1), h_nl := ⟨_, _, h', h2.app (.cons more_sc .nil), by rw [List.length_append]; show ys.length + 1 ≤ _; omega⟩, h_ml := ⟨zs, es, at_ k1 (Ne.symm x.dd), k2, by omega⟩,
              h_nt := f0.atT x.h_nt (fun _ z => nomatch z), h_mt := f0.atT x.h_mt (fun _ z => nomatch z), h_nd := f0.atT x.h_nd (fun _ z => nomatch z), h_md := f0.atT x.h_md (fun _ z => nomatch z), d1 := x.d1, d2 := x.d2, dr := x.dr, da := x.da, dd := x.dd }
    · exact absurd h1 (hn _ _ rfl)
  · rcases f with ⟨a, ys', e, h6, hx, h'⟩ | ⟨hn, _⟩
    · injection e with e
      subst e
      obtain rfl : zs = ys' := by
        have z := k1.symm.trans h6
        cases z
        rfl
      have at_ : ∀ {b : Addr} {u : HO}, H b = some u → b ≠ ml → H' b = some u := fun h n => hx _ _ ((hide_ne n).trans h)
      exact { h_ex := fun b u hb => at_ (x.h_ex _ _ hb) (ne_of_none hb x.d2), h_r := at_ x.h_r (Ne.symm x.dr.2), h_a1 := at_ x.h_a1 (Ne.symm x.da.2.2.1), h_a2 := at_ x.h_a2 (Ne.symm x.da.2.2.2), h_ml := ⟨_, _, h', k2.app (.cons more_sc .nil), by rw [List.length_append]; show zs.length + 1 ≤ _; omega⟩, h_nl := ⟨ys, ds, at_ h1 x.dd, h2, by omega⟩,
              h_nt := f0.atT x.h_nt (fun _ z => nomatch z), h_mt := f0.atT x.h_mt (fun _ z => nomatch z), h_nd := f0.atT x.h_nd (fun _ z => nomatch z), h_md := f0.atT x.h_md (fun _ z => nomatch z), d1 := x.d1, d2 := x.d2, dr := x.dr, da := x.da, dd := x.dd }
    · exact absurd k1 (hn _ _ rfl)
  · rcases f with ⟨a, ys', e, h6, _, _⟩ | ⟨_, hx⟩
    · exact absurd h6 (k _ _ e)
    · exact (x.up hx).mono (Nat.le_succ c)
theorem Ct.odd_n (x : Ct H0 r a1 a2 nl nt nd ml mt md row c H) (hc : c ≤ 198) (ho : o ∈ oN nl nt nd) : (∃ d, Odd H o d) ∧ BadA K H 0 o ∧ Lk H nl ml o ∧ ∀ a ys, o = .ref a → H a = some (.lst ys) → ys.length ≤ 199 := by
  obtain ⟨ys, ds, h1, h2, h3⟩ := x.h_nl
  have fl : ∀ {d : PyData}, Sc o d → NmOk K H o false → (∃ d, Odd H o d) ∧ BadA K H 0 o ∧ Lk H nl ml o ∧ ∀ a ys, o = .ref a → H a = some (.lst ys) → ys.length ≤ 199 := fun s b =>
    ⟨⟨_, .flat s⟩, Or.inl ⟨rfl, b⟩, Or.inr (Or.inr fun a ys z => absurd z (s.nr a)), fun a ys z => absurd z (s.nr a)⟩
  have st : ∀ {y : Str}, Bd (.str y) 0 250 → y.length ≤ 1000 → goodN y = false → NmOk K H (.str y) false := fun _ h2 h3 => h3 ▸ nm_str h2
  unfold oN at ho
  simp only [List.mem_cons, List.not_mem_nil, or_false] at ho
  rcases ho with rfl | rfl | rfl | rfl | rfl | rfl | rfl | rfl | rfl | rfl | rfl | rfl
  · exact fl sc_non (nm_ty (.base .non) (by decide +kernel))
  · exact fl (sc_int (by decide)) (nm_ty (.base (.int _)) (by decide +kernel))
  · have b : Bd (.str "") 0 250 := ⟨by decide +kernel, by decide +kernel, by decide +kernel⟩
    exact fl (sc_str b) (st b (by decide +kernel) (by decide +kernel))
  · have b : Bd (.str "abcdefghi") 0 250 := ⟨by decide +kernel, by decide +kernel, by decide +kernel⟩
    exact fl (sc_str b) (st b (by decide +kernel) (by decide +kernel))
  · have b : Bd (.str "A") 0 250 := ⟨by decide +kernel, by decide +kernel, by decide +kernel⟩
    exact fl (sc_str b) (st b (by decide +kernel) (by decide +kernel))
  · have b : Bd (.str "a1") 0 250 := ⟨by decide +kernel, by decide +kernel, by decide +kernel⟩
    exact fl (sc_str b) (st b (by decide +kernel) (by decide +kernel))
  · have b : Bd (.str "a b") 0 250 := ⟨by decide +kernel, by decide +kernel, by decide +kernel⟩
    exact fl (sc_str b) (st b (by decide +kernel) (by decide +kernel))
  · have b : Bd (.str "a\n") 0 250 := ⟨by decide +kernel, by decide +kernel, by decide +kernel⟩
    exact fl (sc_str b) (st b (by decide +kernel) (by decide +kernel))
  · exact ⟨⟨_, .lst h1 h2 (by omega)⟩, Or.inl ⟨rfl, nm_ty (.base (.lst h1)) (by decide +kernel)⟩, Or.inl rfl, fun a zs z h => by
      cases z
      have y := h1.symm.trans h
      cases y
      omega⟩
  · exact ⟨⟨_, .tup (ds := [.str "a"]) x.h_nt (.cons (sc_str ⟨by decide +kernel, by decide +kernel, by decide +kernel⟩) .nil) (by decide)⟩, Or.inl ⟨rfl, nm_ty (.base (.tup x.h_nt)) (by decide +kernel)⟩, Or.inr (Or.inr fun a zs z h => by
      cases z
      exact nomatch x.h_nt.symm.trans h), fun a zs z h => by
      cases z
      exact nomatch x.h_nt.symm.trans h⟩
  · exact fl sc_bl (nm_ty (.base (.bl _)) (by decide +kernel))
  · exact ⟨⟨_, .dct x.h_nd⟩, Or.inl ⟨rfl, nm_ty (.base (.dK x.h_nd)) (by decide +kernel)⟩, Or.inr (Or.inr fun a zs z h => by
      cases z
      exact nomatch x.h_nd.symm.trans h), fun a zs z h => by
      cases z
      exact nomatch x.h_nd.symm.trans h⟩
theorem Ct.odd_m (x : Ct H0 r a1 a2 nl nt nd ml mt md row c H) (hc : c ≤ 198) {n : Int} (hn : n = 0 ∨ n = 1) (ho : o ∈ oM3 ml mt md ∨ (n = 1 ∧ o = .int 0)) :
    (∃ d, Odd H o d) ∧ FrOk K H o n false ∧ Lk H nl ml o ∧ ∀ a ys, o = .ref a → H a = some (.lst ys) → ys.length ≤ 199 := by
  obtain ⟨ys, ds, h1, h2, h3⟩ := x.h_ml
  have fl : ∀ {d : PyData}, Sc o d → FrOk K H o n false → (∃ d, Odd H o d) ∧ FrOk K H o n false ∧ Lk H nl ml o ∧ ∀ a ys, o = .ref a → H a = some (.lst ys) → ys.length ≤ 199 := fun s b =>
    ⟨⟨_, .flat s⟩, b, Or.inr (Or.inr fun a ys z => absurd z (s.nr a)), fun a ys z => absurd z (s.nr a)⟩
  rcases ho with ho | ⟨rfl, rfl⟩
  · unfold oM3 at ho
    simp only [List.mem_cons, List.not_mem_nil, or_false] at ho
    rcases ho with rfl | rfl | rfl | rfl | rfl | rfl | rfl
    · exact fl sc_non fr_non
    · refine fl (sc_int (by decide)) (Or.inl ⟨_, rfl, ?_⟩)
      rcases hn with rfl | rfl <;> decide
    · exact fl sc_bl fr_bl
    · exact fl (sc_str ⟨by decide +kernel, by decide +kernel, by decide +kernel⟩) (fr_ty (.base (.str _)) (by decide +kernel))
    · exact ⟨⟨_, .lst h1 h2 (by omega)⟩, fr_ty (.base (.lst h1)) (by decide +kernel), Or.inr (Or.inl rfl), fun a zs z h => by
        cases z
        have y := h1.symm.trans h
        cases y
        omega⟩
    · exact ⟨⟨_, .tup (ds := [.int 1]) x.h_mt (.cons (sc_int (by decide)) .nil) (by decide)⟩, fr_ty (.base (.tup x.h_mt)) (by decide +kernel), Or.inr (Or.inr fun a zs z h => by
        cases z
        exact nomatch x.h_mt.symm.trans h), fun a zs z h => by
        cases z
        exact nomatch x.h_mt.symm.trans h⟩
    · exact ⟨⟨_, .dct x.h_md⟩, fr_ty (.base (.dK x.h_md)) (by decide +kernel), Or.inr (Or.inr fun a zs z h => by
        cases z
        exact nomatch x.h_md.symm.trans h), fun a zs z h => by
        cases z
        exact nomatch x.h_md.symm.trans h⟩
  · exact fl (sc_int (by decide)) (Or.inl ⟨_, rfl, by decide⟩)
end
end K02
set_option Elab.async false
set_option linter.all false
set_option maxRecDepth 100000
set_option maxHeartbeats 4000000
namespace K02
open PySem PySem.Spec PyProof.Rows L2 Wr Evl
abbrev s__law_odd_right : Stmt := top 18
theorem sc__law_odd_right : FnScope ["_law_row", "_law_names_here", "_law_numbers", "_law_at", "_law_some", "_law_odd", "_law_given"] ["_law_row"] (defScope s__law_odd_right) := ⟨rfl, rfl, rfl, by decide +kernel, rfl, by decide +kernel, by decide +kernel⟩
structure Tod (K : PySem.W.Frag) (mg : Str → Option Value) where
  R : Tre K mg
  odd : Df K mg "_law_odd_right" s__law_odd_right
  z_range : mg "range" = none
def spOdd : Sp := fun vs H Q _ => ∃ (r : Addr) (row : List V), vs = [.ref r] ∧ H r = some (.lst row) ∧ RowOk row ∧ ∀ H', Ex H H' → Q (.bl true) H'
/-- what is known of an odd item -/
def Itm (K : PySem.W.Frag) (i : Nat) (nl ml : Addr) (o : V) (H : Hp) : Prop := (∃ d, Odd H o d) ∧ BadA K H i o ∧ Lk H nl ml o ∧ ∀ a ys, o = .ref a → H a = some (.lst ys) → ys.length ≤ 199
theorem odd_ne {H : Hp} {o : V} {l : Addr} (x : ∃ d, Odd H o d) (h : H l = none) : o ≠ .ref l := by
  rintro rfl
  obtain ⟨d, x⟩ := x
  cases x with
  | flat s => exact s.nr l rfl
  | tup e _ _ => exact nomatch h.symm.trans e
  | lst e _ _ => exact nomatch h.symm.trans e
  | dct e => exact nomatch h.symm.trans e
theorem lk_ne {H : Hp} {o : V} {S nl ml : Addr} {os : List V} (x : Lk H nl ml o) (h : H S = some (.lst os)) (n1 : S ≠ nl) (n2 : S ≠ ml) : o ≠ .ref S := by
  rintro rfl
  rcases x with e | e | e
  · injection e with e
    exact n1 e
  · injection e with e
    exact n2 e
  · exact e _ _ rfl h
theorem ref_go {K : PySem.W.Frag} {H : Hp} {l nl ml : Addr} {o : V} {i : Nat} {xs : List V} {Q : VK} {E : XK} (hA : Args K H o xs) (x : Itm K i nl ml o H) (hl : H l = some (.lst xs)) (ne : o ≠ .ref l) (q : ∀ H', Aft o H H' → Q (.bl true) H') : spRefused K [.ref l] H Q E := by
  obtain ⟨n, g, lg, j, la, pre, post, dp, dq, rfl, e, h1, h2, f⟩ := hA
  obtain ⟨⟨d, o1⟩, o2, o3, o4⟩ := x
  exact ⟨l, n, g, lg, j, la, pre, post, o, dp, dq, d, rfl, hl, e, h1, h2, o1, ne, o4, f, q⟩
theorem ct_mk {H : Hp} {r nl nt nd a1 ml mt md a2 : Addr} {row : List V} (hrr : H r = some (.lst row)) (hnl : (H) nl = none) (hnt : (upd H nl (.lst [.str "a"])) nt = none) (hnd : (upd (upd H nl (.lst [.str "a"])) nt (.tup [.str "a"])) nd = none) (ha1 : (upd (upd (upd H nl (.lst [.str "a"])) nt (.tup [.str "a"])) nd (.dK [])) a1 = none) (hml : (upd (upd (upd (upd H nl (.lst [.str "a"])) nt (.tup [.str "a"])) nd (.dK [])) a1 (.lst (oN nl nt nd))) ml = none) (hmt : (upd (upd (upd (upd (upd H nl (.lst [.str "a"])) nt (.tup [.str "a"])) nd (.dK [])) a1 (.lst (oN nl nt nd))) ml (.lst [.int 1])) mt = none) (hmd : (upd (upd (upd (upd (upd (upd H nl (.lst [.str "a"])) nt (.tup [.str "a"])) nd (.dK [])) a1 (.lst (oN nl nt nd))) ml (.lst [.int 1])) mt (.tup [.int 1])) md = none) (ha2 : (upd (upd (upd (upd (upd (upd (upd H nl (.lst [.str "a"])) nt (.tup [.str "a"])) nd (.dK [])) a1 (.lst (oN nl nt nd))) ml (.lst [.int 1])) mt (.tup [.int 1])) md (.dK [])) a2 = none) :
    Ct H r a1 a2 nl nt nd ml mt md row 0 (upd (upd (upd (upd (upd (upd (upd (upd H nl (.lst [.str "a"])) nt (.tup [.str "a"])) nd (.dK [])) a1 (.lst (oN nl nt nd))) ml (.lst [.int 1])) mt (.tup [.int 1])) md (.dK [])) a2 (.lst (oM ml mt md))) := by
  have e1 : Ex H (upd H nl (.lst [.str "a"])) := Ex.new hnl
  have x1 : upd H nl (.lst [.str "a"]) nl = some (.lst [.str "a"]) := upd_same
  generalize upd H nl (.lst [.str "a"]) = H1 at *
  have e2 : Ex H1 (upd H1 nt (.tup [.str "a"])) := Ex.new hnt
  have x2 : upd H1 nt (.tup [.str "a"]) nt = some (.tup [.str "a"]) := upd_same
  generalize upd H1 nt (.tup [.str "a"]) = H2 at *
  have e3 : Ex H2 (upd H2 nd (.dK [])) := Ex.new hnd
  have x3 : upd H2 nd (.dK []) nd = some (.dK []) := upd_same
  generalize upd H2 nd (.dK []) = H3 at *
  have e4 : Ex H3 (upd H3 a1 (.lst (oN nl nt nd))) := Ex.new ha1
  have x4 : upd H3 a1 (.lst (oN nl nt nd)) a1 = some (.lst (oN nl nt nd)) := upd_same
  have ha1' := ha1
  generalize upd H3 a1 (.lst (oN nl nt nd)) = H4 at *
  have e5 : Ex H4 (upd H4 ml (.lst [.int 1])) := Ex.new hml
  have x5 : upd H4 ml (.lst [.int 1]) ml = some (.lst [.int 1]) := upd_same
  generalize upd H4 ml (.lst [.int 1]) = H5 at *
  have e6 : Ex H5 (upd H5 mt (.tup [.int 1])) := Ex.new hmt
  have x6 : upd H5 mt (.tup [.int 1]) mt = some (.tup [.int 1]) := upd_same
  generalize upd H5 mt (.tup [.int 1]) = H6 at *
  have e7 : Ex H6 (upd H6 md (.dK [])) := Ex.new hmd
  have x7 : upd H6 md (.dK []) md = some (.dK []) := upd_same
  generalize upd H6 md (.dK []) = H7 at *
  have e8 : Ex H7 (upd H7 a2 (.lst (oM ml mt md))) := Ex.new ha2
  have x8 : upd H7 a2 (.lst (oM ml mt md)) a2 = some (.lst (oM ml mt md)) := upd_same
  generalize upd H7 a2 (.lst (oM ml mt md)) = H8 at *
  have f4 := ((e1.trans e2).trans e3).trans e4
  have f38 := (((e4.trans e5).trans e6).trans e7).trans e8
  have f58 := (e6.trans e7).trans e8
  have nlr : nl ≠ r := fun z => nomatch (z ▸ hnl : H r = none).symm.trans hrr
  have mlr : ml ≠ r := fun z => nomatch (z ▸ hml : H4 r = none).symm.trans (f4 _ _ hrr)
  have a1l : nl ≠ a1 := ne_of_none (e3 _ _ (e2 _ _ x1)) ha1
  have a2l : nl ≠ a2 := ne_of_none (e7 _ _ (e6 _ _ (e5 _ _ (e4 _ _ (e3 _ _ (e2 _ _ x1)))))) ha2
  have a1m : a1 ≠ ml := ne_of_none x4 hml
  have a2m : ml ≠ a2 := ne_of_none (e7 _ _ (e6 _ _ x5)) ha2
  have dd : nl ≠ ml := ne_of_none (e4 _ _ (e3 _ _ (e2 _ _ x1))) hml
  exact { h_ex := f4.trans (e5.trans f58), h_r := (f4.trans (e5.trans f58)) _ _ hrr, h_a1 := (e5.trans f58) _ _ x4, h_a2 := x8, h_nl := ⟨_, [.str "a"], f38 _ _ (e3 _ _ (e2 _ _ x1)), .cons (sc_str ⟨by decide +kernel, by decide +kernel, by decide +kernel⟩) .nil, by decide⟩,
          h_ml := ⟨_, [.int 1], f58 _ _ x5, .cons (sc_int (by decide)) .nil, by decide⟩, h_nt := f38 _ _ (e3 _ _ x2), h_mt := e8 _ _ (e7 _ _ x6), h_nd := f38 _ _ x3, h_md := e8 _ _ x7, d1 := hnl, d2 := fresh_back f4 hml, dr := ⟨nlr, mlr⟩, da := ⟨a1l, a2l, Ne.symm a1m, a2m⟩, dd := dd }
section
variable {P : Program} {w : World} {K : PySem.W.Frag} {mg : Str → Option Value} {base : Heap}
theorem ok_odd (T : Tod K mg) : FnG P w K mg base CX0 7 T.odd.a T.odd.d ["_law_row"] spOdd := by
  have G := ok_refused (P := P) (w := w) (base := base) T.R
  have bG : Binds K T.R.refused.d ["_law_given"] [] := Df.b T.R.refused fun _ _ _ _ _ _ us hl => match us, hl with | [_], _ => rfl
  refine fun_okG T.odd.F sc__law_odd_right ?_ ?_
  · rintro vs H Q E ⟨r, row, rfl, _⟩
    rfl
  · rintro cdv A outer s H vs Q E gd hr ⟨r, row, rfl, hrr, hrow, q⟩
    refine ⟨_, (pss_cons (ps_set (i := 1) sc__law_odd_right.nd rfl (Or.inl rfl) (pe_lst (pa_cons pe_non (pa_cons pe_int (pa_cons pe_str (pa_cons pe_str (pa_cons pe_str (pa_cons pe_str (pa_cons pe_str (pa_cons pe_str (pa_cons (pe_lst (pa_cons pe_str pa_nil)) (pa_cons (pe_tup (pa_cons pe_str pa_nil)) (pa_cons pe_bl (pa_cons pe_dnewK pa_nil))))))))))))))
      (pss_cons (ps_set (i := 2) sc__law_odd_right.nd rfl (Or.inl rfl) (pe_lst (pa_cons pe_non (pa_cons pe_int (pa_cons (pe_op op_sub pe_int pe_int) (pa_cons pe_bl (pa_cons pe_str (pa_cons (pe_lst (pa_cons pe_int pa_nil)) (pa_cons (pe_tup (pa_cons pe_int pa_nil)) (pa_cons pe_dnewK pa_nil))))))))))
      (pss_cons (ps_for PassesOwn.never rfl (pi_range1 rfl T.z_range (pa_cons pe_int pa_nil)) (pg_name (i := 3) sc__law_odd_right.nd rfl (Or.inl rfl))
        (pss_cons (ps_set (i := 4) sc__law_odd_right.nd rfl (Or.inl rfl) (pv 2))
        (pss_cons (ps_if (pt_cmpR op_eq (pv 3) pe_int (nomark _))
          (pss_one (ps_set (i := 4) sc__law_odd_right.nd rfl (Or.inl rfl) (pv 1))) pss_nil)
        (pss_cut (ps_if (pt_cmpR op_eq (pv 3) pe_int (nomark _))
          (pss_one (ps_set (i := 4) sc__law_odd_right.nd rfl (Or.inl rfl) (pe_op op_cat (pe_slice sl_list (pv 2) po_none (po_some pe_int)) (pe_slice sl_list (pv 2) (po_some pe_int) po_none)))) pss_nil)
        (pss_one (ps_for PassesOwn.never rfl (pi_list (pv 4)) (pg_name (i := 5) sc__law_odd_right.nd rfl (Or.inl rfl))
          (pss_cons (ps_set (i := 6) sc__law_odd_right.nd rfl (Or.inl rfl) (pe_callTy call_list_of (by rfl) T.R.z_list (by decide +kernel) (pa_cons (pv 0) pa_nil)))
          (pss_cons (ps_asg (pv 5) (pg_sub (pv 6) (pv 3) set_list))
          (pss_cons (ps_if (pt_not (pt_val (pe_callG G gd (hr.mono (by decide)) rfl T.R.refused.g T.R.refused.F.kp bG .nil pass0 (pa_cons (pe_callTy call_list_of (by rfl) T.R.z_list (by decide +kernel) (pa_cons (pv 6) pa_nil)) pa_nil))))
            (pss_one (ps_ret pe_bl)) pss_nil)
          (pss_one (ps_if (pt_not (pt_val (pe_callG G gd (hr.mono (by decide)) rfl T.R.refused.g T.R.refused.F.kp bG .nil pass0 (pa_cons (pe_op op_cat (pe_slice sl_list (pv 6) po_none (po_some (pe_op op_add (pv 3) pe_int))) (pe_op op_rep (pe_lst (pa_cons pe_non pa_nil)) (pe_op op_sub pe_int (pv 3)))) pa_nil))))
            (pss_one (ps_ret pe_bl)) pss_nil)))))))))))
      (pss_one (ps_ret pe_bl))))), ?_⟩
    refine ⟨(by show 1 ≤ sizeLine; decide), fun nl hnl => ⟨(by show 1 ≤ sizeLine; decide), fun nt hnt => fun nd hnd => ⟨(by show 12 ≤ sizeLine; decide), fun a1 ha1 => ?_⟩⟩⟩
    refine ⟨0, 1, rfl, rfl, ⟨(by show 1 ≤ sizeLine; decide), fun ml hml => ⟨(by show 1 ≤ sizeLine; decide), fun mt hmt => fun md hmd => ⟨(by show 8 ≤ sizeLine; decide), fun a2 ha2 => ?_⟩⟩⟩⟩
    have ct0 := ct_mk hrr hnl hnt hnd ha1 hml hmt hmd ha2
    dsimp only
    refine q_forR1 (n := 5) (j := 3) (ea_cons ev_c ea_nil) ⟨by decide, by decide⟩ (fun i σ' H' => (∃ w3 w4 w5 w6, σ' = [some (.ref r), some (.ref a1), some (.ref a2), w3, w4, w5, w6]) ∧ Ct H r a1 a2 nl nt nd ml mt md row (24 * i) H')
      (fun H1 e1 => ⟨⟨_, _, _, _, rfl⟩, ct0.up e1⟩) ?_ ?_
    · rintro i σ' H1 hi5 ⟨⟨w3, w4, w5, w6, rfl⟩, ct1⟩
      have hi : i < 5 := by omega
      refine q_asg (v := .ref a2) (ev_var rfl) fun H2 e2 => ?_
      have ct2 := ct1.up e2
      refine q_ifAsg (i := 4) (b := decide (i = 0)) (v := .ref (if i = 0 then a1 else a2)) (et_is (et_test (ev_op (ev_var rfl) ev_c (rv_eq rfl))) ?_) (fun h => ?_) (fun h => ?_) fun H3 e3 => ?_
      · exact decide_eq_decide.mpr ⟨fun z => by injection z with z; omega, fun z => by rw [z]; rfl⟩
      · have h0 : i = 0 := of_decide_eq_true h
        rw [if_pos h0]
        exact ev_var rfl
      · have h0 : i ≠ 0 := of_decide_eq_false h
        rw [if_neg h0]
        rfl
      have ct3 := ct2.up e3
      dsimp only
      have i0n : i = 0 → ∀ o, o ∈ oN nl nt nd → ∀ c H', c ≤ 198 → Ct H r a1 a2 nl nt nd ml mt md row c H' → Itm K i nl ml o H' := fun h0 o ho c H' hc x => h0 ▸ x.odd_n hc ho
      refine ⟨fun σ' H' => ∃ S os w5 w6, σ' = [some (.ref r), some (.ref a1), some (.ref a2), some (.int (i : Int)), some (.ref S), w5, w6] ∧ os.length ≤ 12 ∧ H' S = some (.lst os) ∧ S ≠ nl ∧ S ≠ ml ∧ Ct H r a1 a2 nl nt nd ml mt md row (24 * i) H' ∧
        ∀ o, o ∈ os → ∀ c H'', c ≤ 198 → Ct H r a1 a2 nl nt nd ml mt md row c H'' → Itm K i nl ml o H'', ?_, ?_⟩
      · refine s_when (b := decide (i = 3)) (et_is (et_test (ev_op (ev_var rfl) ev_c (rv_eq rfl))) ?_) (fun h H4 e4 => ?_) (fun h H4 e4 => ?_)
        · exact decide_eq_decide.mpr ⟨fun z => by injection z with z; omega, fun z => by rw [z]; rfl⟩
        · have h3 : i = 3 := of_decide_eq_true h
          subst h3
          have ct4 := ct3.up e4
          refine s_asgL (xs := oM3 ml mt md) (el_catN (xs := cutV (oM ml mt md) none (some 1)) (zs := cutV (oM ml mt md) (some 2) none) (el_sl (ev_var rfl) eo_none (eo_some ev_c) (SqL.of ct4.h_a2)) (el_sl (ev_var rfl) (eo_some ev_c) eo_none (SqL.of ct4.h_a2)) (by show 1 + 6 ≤ 100000; decide)) fun S H5 nS e5 hS => ?_
          have n1 : S ≠ nl := by
            obtain ⟨ys, _, h1, _⟩ := ct4.h_nl
            exact Ne.symm (ne_of_none h1 nS)
          have n2 : S ≠ ml := by
            obtain ⟨ys, _, h1, _⟩ := ct4.h_ml
            exact Ne.symm (ne_of_none h1 nS)
          refine ⟨S, oM3 ml mt md, _, _, rfl, (by show 7 ≤ 12; decide), hS, n1, n2, ct4.up e5, fun o ho c H'' hc x => ?_⟩
          obtain ⟨z1, z2, z3, z4⟩ := x.odd_m (K := K) hc (n := 0) (Or.inl rfl) (Or.inl ho)
          exact ⟨z1, Or.inr (Or.inl ⟨rfl, z2⟩), z3, z4⟩
        · have h3 : i ≠ 3 := of_decide_eq_false h
          have ct4 := ct3.up e4
          by_cases h0 : i = 0
          · subst h0
            exact ⟨a1, oN nl nt nd, _, _, rfl, (by show 12 ≤ 12; decide), ct4.h_a1, Ne.symm ct4.da.1, Ne.symm ct4.da.2.2.1, ct4, i0n rfl⟩
          · rw [if_neg h0]
            refine ⟨a2, oM ml mt md, _, _, rfl, (by show 8 ≤ 12; decide), ct4.h_a2, Ne.symm ct4.da.2.1, Ne.symm ct4.da.2.2.2, ct4, fun o ho c H'' hc x => ?_⟩
            have ho' : o ∈ oM3 ml mt md ∨ ((1 : Int) = 1 ∧ o = .int 0) := by
              unfold oM at ho
              unfold oM3
              simp only [List.mem_cons, List.not_mem_nil, or_false] at ho ⊢
              rcases ho with h | h | h | h | h | h | h | h
              · exact Or.inl (Or.inl h)
              · exact Or.inr ⟨trivial, h⟩
              · exact Or.inl (Or.inr (Or.inl h))
              · exact Or.inl (Or.inr (Or.inr (Or.inl h)))
              · exact Or.inl (Or.inr (Or.inr (Or.inr (Or.inl h))))
              · exact Or.inl (Or.inr (Or.inr (Or.inr (Or.inr (Or.inl h)))))
              · exact Or.inl (Or.inr (Or.inr (Or.inr (Or.inr (Or.inr (Or.inl h))))))
              · exact Or.inl (Or.inr (Or.inr (Or.inr (Or.inr (Or.inr (Or.inr h))))))
            obtain ⟨z1, z2, z3, z4⟩ := x.odd_m (K := K) hc (n := 1) (Or.inr rfl) ho'
            exact ⟨z1, Or.inr (Or.inr ⟨h0, h3, z2⟩), z3, z4⟩
      · rintro σ' H4 ⟨S, os, w5, w6, rfl, hos, hS, n1, n2, ct4, it⟩
        refine s_forLn (j := 5) (ev_var rfl) (SqL.of hS) (fun k σ' H' => (∃ w5 w6, σ' = [some (.ref r), some (.ref a1), some (.ref a2), some (.int (i : Int)), some (.ref S), w5, w6]) ∧ H' S = some (.lst os) ∧ Ct H r a1 a2 nl nt nd ml mt md row (24 * i + 2 * k) H')
          (fun H5 e5 => ⟨⟨_, _, rfl⟩, e5 _ _ hS, ct4.up e5⟩) (fun k σ' H' _ ⟨_, h, _⟩ => SqL.of h) ?_ ?_
        · rintro k o σ' H5 hk ⟨⟨w5', w6', rfl⟩, hS5, ct5⟩
          have hk12 : k < 12 := Nat.lt_of_lt_of_le (List.getElem?_eq_some_iff.mp hk).1 hos
          have hm : o ∈ os := List.mem_of_getElem? hk
          have it5 := fun H' x => it o hm (24 * i + 2 * k) H' (by omega) x
          refine q_asgL (el_list (ev_var rfl) (SqL.of ct5.h_r)) fun gl H6 ngl e6 hgl => ?_
          have hlen : row.length = 5 := by
            obtain ⟨x, g, l, j, la, rfl, _⟩ := hrow
            rfl
          refine q_setL hgl (ev_var rfl) (ev_var rfl) (ev_var rfl) (by omega) fun H7 e7 => ?_
          have e57 : Ex H5 (upd H7 gl (.lst (row.set i o))) := Ex.mut (e6.trans e7) ngl
          have x7 : upd H7 gl (.lst (row.set i o)) gl = some (.lst (row.set i o)) := upd_same
          generalize upd H7 gl (.lst (row.set i o)) = H8 at e57 x7 ⊢
          have ct8 := ct5.up e57
          have og : o ≠ .ref gl := odd_ne (it5 _ ct5).1 ngl
          refine ⟨.ref gl, rfl, gl, _, rfl, Or.inl (SqL.of x7), fun l2 hl2 => ?_⟩
          have e9 : Ex H8 (upd H8 l2 (.lst (row.set i o))) := Ex.new hl2
          have x9 : upd H8 l2 (.lst (row.set i o)) l2 = some (.lst (row.set i o)) := upd_same
          generalize upd H8 l2 (.lst (row.set i o)) = H9 at e9 x9 ⊢
          have ct9 := ct8.up e9
          have it9 := it5 _ ct9
          dsimp only [tNil]
          refine ref_go (set_args hrow hi it9.2.1) it9 x9 (odd_ne (it5 _ ct8).1 hl2) fun H10 aft => ⟨true, rfl, iteF ?_⟩
          have ct10 := ct9.aft it9.2.2.1 aft
          have hg10 := aft.at (e9 _ _ x7) og
          have hS10 := aft.at (e9 _ _ (e57 _ _ hS5)) (lk_ne it9.2.2.1 (e9 _ _ (e57 _ _ hS5)) n1 n2)
          have it10 := fun H' x => it o hm (24 * i + 2 * k + 1) H' (by omega) x
          have el := el_catN (σ := [some (.ref r), some (.ref a1), some (.ref a2), some (.int (i : Int)), some (.ref S), some o, some (.ref gl)]) (H := H10)
            (el_sl (te := tVar 6) (tl := tNoPart) (th := tPart (tOp (rI0 fun i j => .int (i + j)) (tVar 3) (tC (.int 1)))) (ev_var rfl) eo_none (eo_some (ev_op (ev_var rfl) ev_c rv_I0)) (SqL.of (K := K) hg10))
            (el_rep (n := 4 - i) (ta := tLst (tCons (tC .non) tNil)) (tb := tOp (rI0 fun i j => .int (i - j)) (tC (.int 4)) (tVar 3)) (el_lst (ea_cons ev_c ea_nil) (by show 1 ≤ 100000; decide)) (ev_is (ev_op ev_c (ev_var rfl) rv_I0) (by show V.int (4 - (i : Int)) = V.int ((4 - i : Nat) : Int); congr 1; omega)) (by show 1 * (4 - i) ≤ 100000; omega) (by omega))
            (by
              have h1 := cutV_length (row.set i o) none (some ((i : Int) + 1))
              rw [List.length_set, hlen] at h1
              rw [flat_one, List.length_replicate]
              omega)
          refine el H10 (Ex.refl _) _ fun l3 H11 n11 e11 x11 => ?_
          have ct11 := ct10.up e11
          have it11 := it10 _ ct11
          dsimp only [tNil]
          refine ref_go (cut_args hrow hi it11.2.1) it11 x11 (odd_ne (it10 _ ct10).1 n11) fun H12 aft2 => ⟨true, rfl, iteF ?_⟩
          have hS12 := aft2.at (e11 _ _ hS10) (lk_ne it11.2.2.1 (e11 _ _ hS10) n1 n2)
          exact ⟨⟨_, _, rfl⟩, hS12, ct11.aft it11.2.2.1 aft2⟩
        · rintro σ' H5 ⟨⟨w5', w6', rfl⟩, _, ct5⟩
          exact ⟨⟨_, _, _, _, rfl⟩, ct5.mono (by omega)⟩
    · rintro σ' H1 ⟨_, ct1⟩
      exact s_ret (v := .bl true) ev_c fun H2 e2 => q H2 (ct1.h_ex.trans e2)
end
end K02
set_option Elab.async false
set_option linter.all false
set_option maxRecDepth 100000
set_option maxHeartbeats 4000000
namespace K02
open PySem PySem.Spec PyProof.Rows L2 Wr Evl
/-- a property of messages behind the top -/
structure Pr (K : PySem.W.Frag) (C : Addr) (f fld qual : Str) (st : Stmt) where
  p : Addr
  g : Addr
  d : FuncData
  F : Fun K f qual st g d
  hp : PropOf K C f p g
/-- te makes a message -/
def EvM (te : TE) (σ : L2.St) (H : Hp) (C : Addr) (n g l j la : V) : Prop := ∀ H1, Ex H H1 → ∀ Q : VK, (∀ a H2, H1 a = none → Ex H1 H2 → Mg H2 C a n g l j la → Q (.ref a) H2) → te σ H1 Q
section
variable {P : Program} {w : World} {K : PySem.W.Frag} {mg : Str → Option Value} {base : Heap} {σ : L2.St} {H : Hp} {te ta tb : TE} {t : TA} {n g l j la n2 g2 l2 j2 la2 v : V}
theorem em_make (T : Tms K mg) (ha : EvA t σ H [n, g, l, j, la]) (f : Five K H n g l j la true) : EvM (tMake T.C (spInit K T.C T.M) [] E0 t) σ H T.C n g l j la := fun H1 e Q q =>
  ha H1 e _ fun H2 e2 x dx hx hdx hne => by
    have e3 : Ex H2 (upd (upd H2 dx (.own x)) x (.ins T.C dx [])) := (Ex.new hdx).trans (Ex.new ((upd_ne (Ne.symm hne)).trans hx))
    refine ⟨x, dx, n, g, l, j, la, true, rfl, upd_same, f.ex ((e.trans e2).trans e3), fun _ H' eh hx' => ⟨rfl, q x H' (fresh_back e2 hx) (fun b o hb => ?_) ⟨dx, hx'⟩⟩, fun h => (nomatch h)⟩
    exact eh _ _ ((hide_ne (ne_of_none (e2 _ _ hb) hx)).trans (e3 _ _ (e2 _ _ hb)))
theorem Pr.ok {C : Addr} {f fld qual : Str} {st : Stmt} (R : Pr K C f fld qual st) (S : FnScope ["self"] ["self"] (defScope st)) {p1 p2 p3 : Pos} (hb : defBody st = [.Return (some (.Attribute (.Name "self" p1) fld p2)) p3]) (c : Cls K C) (na : NoAttr K C fld) :
    FnOk P w K mg base CX0 1 R.g R.d ["self"] (getSp C fld) := by
  obtain ⟨oc, od, kV, doc, pm, an, cdv, ct, osl, e, lk, hcd⟩ := R.F.ex
  rw [e] at lk ⊢
  exact fn_getter lk hcd S rfl hb c na
theorem ev_prop {C a : Addr} {f : Str} {E : XK} (he : Ev te σ H (.ref a)) (x : Mg H C a n g l j la) (hf : (mfs n g l j la).lookup f = some v) : Ev (tProp C (getSp C f) [] E te) σ H v := fun H1 e Q q =>
  he H1 e _ fun H2 e2 => by
    obtain ⟨dx, z⟩ := x
    have z2 := e2 _ _ (e _ _ z)
    exact ⟨a, dx, _, rfl, z2, a, dx, _, v, rfl, z2, hf, q H2 e2⟩
theorem ev_propM {C : Addr} {f : Str} {E : XK} (he : EvM te σ H C n g l j la) (hf : (mfs n g l j la).lookup f = some v) : Ev (tProp C (getSp C f) [] E te) σ H v := fun H1 e Q q =>
  he H1 e _ fun a H2 _ e2 ⟨dx, z2⟩ => ⟨a, dx, _, rfl, z2, a, dx, _, v, rfl, z2, hf, q H2 e2⟩
/-- two messages of flat values -/
def Sc5 (n g l j la n2 g2 l2 j2 la2 : V) : Prop := scal n n2 = true ∧ scal g g2 = true ∧ scal l l2 = true ∧ scal j j2 = true ∧ scal la la2 = true
def Eq5 (n g l j la n2 g2 l2 j2 la2 : V) : Bool := decide (n = n2) && (decide (g = g2) && (decide (l = l2) && (decide (j = j2) && decide (la = la2))))
theorem sp_eq (T : Tms K mg) {a b : Addr} {Q : VK} {E : XK} (x : Mg H T.C a n g l j la) (y : Mg H T.C b n2 g2 l2 j2 la2) (s : Sc5 n g l j la n2 g2 l2 j2 la2) (q : ∀ H', Ex H H' → Q (.bl (Eq5 n g l j la n2 g2 l2 j2 la2)) H') : spEqM K T.C [.ref a, .ref b] H Q E :=
  ⟨a, n, g, l, j, la, .ref b, rfl, x, Or.inr ⟨b, n2, g2, l2, j2, la2, rfl, y, T.ty y, T.kit_m, s.1, s.2.1, s.2.2.1, s.2.2.2.1, s.2.2.2.2, q⟩⟩
theorem Mg.at {C a : Addr} (x : Mg H C a n g l j la) : ∃ dx, H a = some (.ins C dx (mfs n g l j la)) := x
/-- made != C(..) -/
theorem ev_neM (T : Tms K mg) {a : Addr} (ha : Ev ta σ H (.ref a)) (x : Mg H T.C a n g l j la) (hb : EvM tb σ H T.C n2 g2 l2 j2 la2) (s : Sc5 n g l j la n2 g2 l2 j2 la2) : Ev (tOp (rNeI T.C (spEqM K T.C) E0) ta tb) σ H (.bl (!Eq5 n g l j la n2 g2 l2 j2 la2)) := fun H1 e Q q =>
  ha H1 e _ fun H2 e2 => hb H2 (e.trans e2) _ fun b H3 _ e3 y => by
    have x3 := x.ex ((e.trans e2).trans e3)
    obtain ⟨dx, hx⟩ := x3.at
    obtain ⟨dy, hy⟩ := y.at
    exact ⟨a, dx, _, b, dy, _, rfl, hx, rfl, hy, sp_eq T x3 y s fun H' e' => ⟨_, rfl, q H' ((e2.trans e3).trans e')⟩⟩
theorem ev_neV (T : Tms K mg) {a b : Addr} (ha : Ev ta σ H (.ref a)) (x : Mg H T.C a n g l j la) (hb : Ev tb σ H (.ref b)) (y : Mg H T.C b n2 g2 l2 j2 la2) (s : Sc5 n g l j la n2 g2 l2 j2 la2) : Ev (tOp (rNeI T.C (spEqM K T.C) E0) ta tb) σ H (.bl (!Eq5 n g l j la n2 g2 l2 j2 la2)) := fun H1 e Q q =>
  ha H1 e _ fun H2 e2 => hb H2 (e.trans e2) _ fun H3 e3 => by
    have x3 := x.ex ((e.trans e2).trans e3)
    have y3 := y.ex ((e.trans e2).trans e3)
    obtain ⟨dx, hx⟩ := x3.at
    obtain ⟨dy, hy⟩ := y3.at
    exact ⟨a, dx, _, b, dy, _, rfl, hx, rfl, hy, sp_eq T x3 y3 s fun H' e' => ⟨_, rfl, q H' ((e2.trans e3).trans e')⟩⟩
theorem first_m (T : Tms K mg) : PySem.W.notFirst K T.C (.ref T.C) = true := by simp [PySem.W.notFirst]
/-- made == C(..) -/
theorem ev_eqM (T : Tms K mg) {a : Addr} (ha : Ev ta σ H (.ref a)) (x : Mg H T.C a n g l j la) (hb : EvM tb σ H T.C n2 g2 l2 j2 la2) (s : Sc5 n g l j la n2 g2 l2 j2 la2) : Ev (tOp (rEqI K T.C (spEqM K T.C) E0) ta tb) σ H (.bl (Eq5 n g l j la n2 g2 l2 j2 la2)) := fun H1 e Q q =>
  ha H1 e _ fun H2 e2 => hb H2 (e.trans e2) _ fun b H3 _ e3 y => by
    have x3 := x.ex ((e.trans e2).trans e3)
    obtain ⟨dx, hx⟩ := x3.at
    exact ⟨a, dx, _, _, rfl, hx, T.ty y, first_m T, sp_eq T x3 y s fun H' e' => ⟨_, rfl, q H' ((e2.trans e3).trans e')⟩⟩
/-- C(..) == made -/
theorem ev_eqN (T : Tms K mg) {b : Addr} (ha : EvM ta σ H T.C n g l j la) (hb : Ev tb σ H (.ref b)) (y : Mg H T.C b n2 g2 l2 j2 la2) (s : Sc5 n g l j la n2 g2 l2 j2 la2) : Ev (tOp (rEqI K T.C (spEqM K T.C) E0) ta tb) σ H (.bl (Eq5 n g l j la n2 g2 l2 j2 la2)) := fun H1 e Q q =>
  ha H1 e _ fun a H2 _ e2 x => hb H2 (e.trans e2) _ fun H3 e3 => by
    have x3 := x.ex e3
    have y3 := y.ex ((e.trans e2).trans e3)
    obtain ⟨dx, hx⟩ := x3.at
    exact ⟨a, dx, _, _, rfl, hx, T.ty y3, first_m T, sp_eq T x3 y3 s fun H' e' => ⟨_, rfl, q H' ((e2.trans e3).trans e')⟩⟩
theorem sp_no (T : Tms K mg) {a : Addr} {y : V} {ty : Value} {Q : VK} {E : XK} (x : Mg H T.C a n g l j la) (hy : TyX K H y ty) (k : PySem.W.kitOne K ty (.ref T.C) = some false) (q : ∀ H', Ex H H' → Q (.bl false) H') : spEqM K T.C [.ref a, y] H Q E :=
  ⟨a, n, g, l, j, la, y, rfl, x, Or.inl ⟨ty, hy, k, q⟩⟩
/-- made == (..) -/
theorem ev_eqU (T : Tms K mg) {a : Addr} {xs : List V} (ha : Ev ta σ H (.ref a)) (x : Mg H T.C a n g l j la) (hb : EvU tb σ H xs) : Ev (tOp (rEqI K T.C (spEqM K T.C) E0) ta tb) σ H (.bl false) := fun H1 e Q q =>
  ha H1 e _ fun H2 e2 => hb H2 (e.trans e2) _ fun b H3 _ e3 y => by
    have x3 := x.ex ((e.trans e2).trans e3)
    obtain ⟨dx, hx⟩ := x3.at
    have ty : TyX K H3 (.ref b) (.type "tuple") := .base (.tup y)
    exact ⟨a, dx, _, _, rfl, hx, ty, by unfold PySem.W.notFirst; rw [T.first_t]; simp, sp_no T x3 ty T.kit_t fun H' e' => ⟨_, rfl, q H' ((e2.trans e3).trans e')⟩⟩
/-- made == None -/
theorem ev_eq0 (T : Tms K mg) {a : Addr} (ha : Ev ta σ H (.ref a)) (x : Mg H T.C a n g l j la) (hb : Ev tb σ H .non) : Ev (tOp (rEqI K T.C (spEqM K T.C) E0) ta tb) σ H (.bl false) := fun H1 e Q q =>
  ha H1 e _ fun H2 e2 => hb H2 (e.trans e2) _ fun H3 e3 => by
    have x3 := x.ex ((e.trans e2).trans e3)
    obtain ⟨dx, hx⟩ := x3.at
    have ty : TyX K H3 .non (.type "NoneType") := .base .non
    exact ⟨a, dx, _, _, rfl, hx, ty, by unfold PySem.W.notFirst; rw [T.first_n]; simp, sp_no T x3 ty T.kit_n fun H' e' => ⟨_, rfl, q H' ((e2.trans e3).trans e')⟩⟩
theorem q_asgM {D : Ends} {tz : TS} {C : Addr} {i : Nat} (h : EvM te σ H C n g l j la) (k : ∀ a H1, H a = none → Ex H H1 → Mg H1 C a n g l j la → tz D (σ.set i (some (.ref a))) H1) : tSeq (tAsg te (gName i)) tz D σ H :=
  h H (Ex.refl H) _ fun a H1 ha e x => k a H1 ha e x
theorem rv_nb {a b : Bool} : RV (fun x y H Q => ∃ a b, x = .bl a ∧ y = .bl b ∧ Q (.bl (!decide (a = b))) H) (.bl a) (.bl b) H (.bl (!decide (a = b))) := fun H1 _ Q q => ⟨a, b, rfl, rfl, q H1 (Ex.refl _)⟩
end
end K02
set_option Elab.async false
set_option linter.all false
set_option maxRecDepth 100000
set_option maxHeartbeats 4000000
namespace K02
open PySem PySem.Spec PyProof.Rows L2 Wr Evl
abbrev s_law : Stmt := top 19
theorem sc_law : FnScope ["_law_script", "_law_turn", "_law_purse_here", "_law_row", "_law_at", "_law_made", "_law_other", "_law_least"] ["_law_script"] (defScope s_law) := ⟨rfl, rfl, rfl, by decide +kernel, rfl, by decide +kernel, by decide +kernel⟩
abbrev s_name : Stmt := inClass (top 10) 1
abbrev s_gap : Stmt := inClass (top 10) 2
abbrev s_length : Stmt := inClass (top 10) 3
abbrev s_jitter : Stmt := inClass (top 10) 4
abbrev s_last : Stmt := inClass (top 10) 5
theorem sc_name : FnScope ["self"] ["self"] (defScope s_name) := ⟨rfl, rfl, rfl, by decide +kernel, rfl, by decide +kernel, by decide +kernel⟩
theorem sc_gap : FnScope ["self"] ["self"] (defScope s_gap) := ⟨rfl, rfl, rfl, by decide +kernel, rfl, by decide +kernel, by decide +kernel⟩
theorem sc_length : FnScope ["self"] ["self"] (defScope s_length) := ⟨rfl, rfl, rfl, by decide +kernel, rfl, by decide +kernel, by decide +kernel⟩
theorem sc_jitter : FnScope ["self"] ["self"] (defScope s_jitter) := ⟨rfl, rfl, rfl, by decide +kernel, rfl, by decide +kernel, by decide +kernel⟩
theorem sc_last : FnScope ["self"] ["self"] (defScope s_last) := ⟨rfl, rfl, rfl, by decide +kernel, rfl, by decide +kernel, by decide +kernel⟩
structure Tlw (K : PySem.W.Frag) (mg : Str → Option Value) where
  O : Tod K mg
  ro : Tro K mg
  p_name : Pr K O.R.S.C "name" "_name" "Message.name" s_name
  p_gap : Pr K O.R.S.C "gap" "_gap" "Message.gap" s_gap
  p_length : Pr K O.R.S.C "length" "_length" "Message.length" s_length
  p_jitter : Pr K O.R.S.C "jitter" "_jitter" "Message.jitter" s_jitter
  p_last : Pr K O.R.S.C "last" "_last" "Message.last" s_last
def spLaw (K : PySem.W.Frag) : Sp := fun vs H Q _ => ∃ (a : Addr) (ns : List Int), vs = [.ref a] ∧ SqL K H a (ns.map V.int) ∧ ns.length ≤ 63 ∧ ∀ H', Q (.bl true) H'
theorem bx_ex {p : Addr} {H1 H2 H3 : Hp} (e : Ex H1 H2) (n : H1 p = none) (b : Bx p H2 H3) : Ex H1 H3 := fun c o h => b.at (e _ _ h) (ne_of_none h n)
theorem bt_ex {p : Addr} {H1 H2 H3 : Hp} (e : Ex H1 H2) (n : H1 p = none) (b : But p H2 H3) : Ex H1 H3 := fun c o h => (b c (ne_of_none h n)).trans (e _ _ h)
def lowb (i : Nat) : Int := if i = 2 then 0 else 1
/-- the numbers of the row, at most k of them made great -/
structure RowSt (k : Nat) (ns : List Int) : Prop where
  len : ns.length = 4
  at_ : ∀ i m, ns[i]? = some m → lowb i ≤ m ∧ m ≤ 20 + (k : Int) * 2 ^ 67
theorem RowSt.mono {k k' : Nat} {ns : List Int} (x : RowSt k ns) (h : k ≤ k') : RowSt k' ns := ⟨x.len, fun i m e => ⟨(x.at_ i m e).1, by
  have := (x.at_ i m e).2
  omega⟩⟩
theorem RowSt.put {k : Nat} {ns : List Int} {v d : Int} {i : Nat} (x : RowSt k ns) (hv : ns[i]? = some v) (h0 : 0 ≤ d) (h1 : d ≤ 2 ^ 67) : RowSt (k + 1) (ns.set i (v + d)) := ⟨by rw [List.length_set]; exact x.len, fun j m e => by
  have hj : j < ns.length := by
    have := (List.getElem?_eq_some_iff.mp e).1
    rw [List.length_set] at this
    exact this
  by_cases hij : i = j
  · subst hij
    rw [List.getElem?_set_self hj] at e
    obtain rfl := Option.some.inj e
    have z := x.at_ i v hv
    exact ⟨by omega, by omega⟩
  · rw [List.getElem?_set_ne hij] at e
    have z := x.at_ j m e
    exact ⟨z.1, by omega⟩⟩
theorem map_set {ns : List Int} {i : Nat} {v : Int} : (ns.map V.int).set i (.int v) = (ns.set i v).map V.int := by
  rw [List.map_set]
theorem nm_facts {x : Str} (h : Nm x) : goodN x = true ∧ x.length ≤ 8 ∧ Bd (.str x) 0 250 ∧ decide (x = "another") = false := by
  obtain ⟨wd, hw, m, hm, rfl⟩ := h
  have z : ∀ wd, wd ∈ words → ∀ m, m < 26 → goodN (wd ++ (⟨#[97 + m]⟩ : Str)) = true ∧ (wd ++ (⟨#[97 + m]⟩ : Str)).length ≤ 8 ∧ (reprText (wd ++ (⟨#[97 + m]⟩ : Str))).length ≤ 250 ∧ decide ((wd ++ (⟨#[97 + m]⟩ : Str)) = "another") = false := by decide +kernel
  obtain ⟨h1, h2, h3, h4⟩ := z wd hw m hm
  refine ⟨h1, h2, ⟨?_, ?_, ?_⟩, h4⟩
  · rw [PyData.showable]
  · rw [PyData.depth]
    exact Nat.zero_le _
  · rw [PyData.shown]
    exact h3
theorem five_int {K : PySem.W.Frag} {H : Hp} {x : Str} {g l j la : Int} (hx : goodN x = true) (hl : x.length ≤ 1000) (g0 : 1 ≤ g) (l0 : 1 ≤ l) (j0 : 0 ≤ j) (a0 : 1 ≤ la) : Five K H (.str x) (.int g) (.int l) (.int j) (.int la) true :=
  ⟨_, _, _, _, _, nm_str hl, fr_int, fr_int, fr_int, fr_int, by rw [hx, decide_eq_true g0, decide_eq_true l0, decide_eq_true j0, decide_eq_true a0]; rfl⟩
/-- another row than the message's -/
def Oth (K : PySem.W.Frag) (x : Str) (g l j la : Int) (xs : List V) : Prop := ∃ n' g' l' j' la' : V, xs = [n', g', l', j', la'] ∧ (∀ H, Five K H n' g' l' j' la' true) ∧ Sc5 n' g' l' j' la' (.str x) (.int g) (.int l) (.int j) (.int la) ∧ Eq5 n' g' l' j' la' (.str x) (.int g) (.int l) (.int j) (.int la) = false
theorem dec_ne {i : Int} : decide (V.int (i + 1) = V.int i) = false := by
  rw [decide_eq_false]
  intro z
  injection z with z
  omega
theorem oth_num {K : PySem.W.Frag} {x : Str} {g l j la : Int} (hx : goodN x = true) (hl : x.length ≤ 1000) (g0 : 1 ≤ g) (l0 : 1 ≤ l) (j0 : 0 ≤ j) (a0 : 1 ≤ la) {k : Nat} (hk : k < 5) (h0 : k ≠ 0) :
    ∃ v : Int, atI [V.str x, .int g, .int l, .int j, .int la] (k : Int) = some (.int v) ∧ Oth K x g l j la ([V.str x, .int g, .int l, .int j, .int la].set k (.int (v + 1))) := by
  have sc : Sc5 (V.str x) (.int g) (.int l) (.int j) (.int la) (.str x) (.int g) (.int l) (.int j) (.int la) := ⟨rfl, rfl, rfl, rfl, rfl⟩
  match k, hk, h0 with
  | 1, _, _ => exact ⟨g, rfl, _, _, _, _, _, rfl, fun H => five_int hx hl (by omega) l0 j0 a0, ⟨rfl, rfl, rfl, rfl, rfl⟩, by unfold Eq5; rw [dec_ne]; simp⟩
  | 2, _, _ => exact ⟨l, rfl, _, _, _, _, _, rfl, fun H => five_int hx hl g0 (by omega) j0 a0, ⟨rfl, rfl, rfl, rfl, rfl⟩, by unfold Eq5; rw [dec_ne]; simp⟩
  | 3, _, _ => exact ⟨j, rfl, _, _, _, _, _, rfl, fun H => five_int hx hl g0 l0 (by omega) a0, ⟨rfl, rfl, rfl, rfl, rfl⟩, by unfold Eq5; rw [dec_ne]; simp⟩
  | 4, _, _ => exact ⟨la, rfl, _, _, _, _, _, rfl, fun H => five_int hx hl g0 l0 j0 (by omega), ⟨rfl, rfl, rfl, rfl, rfl⟩, by unfold Eq5; rw [dec_ne]; simp⟩
  | 0, _, h => exact absurd rfl h
theorem oth_name {K : PySem.W.Frag} {x : Str} {g l j la : Int} (hx : decide (x = "another") = false) (g0 : 1 ≤ g) (l0 : 1 ≤ l) (j0 : 0 ≤ j) (a0 : 1 ≤ la) : Oth K x g l j la [.str "another", .int g, .int l, .int j, .int la] :=
  ⟨_, _, _, _, _, rfl, fun H => five_int (by decide +kernel) (by decide +kernel) g0 l0 j0 a0, ⟨rfl, rfl, rfl, rfl, rfl⟩, by
    have e : decide (V.str "another" = V.str x) = false := by
      rw [decide_eq_false]
      intro z
      injection z with z
      exact of_decide_eq_false hx z.symm
    unfold Eq5
    rw [e]
    rfl⟩
theorem eq5_same {n g l j la : V} : Eq5 n g l j la n g l j la = true := by simp [Eq5]
theorem ea5 {K : PySem.W.Frag} {σ : L2.St} {H : Hp} {i : Nat} {rl : Addr} {n g l j la : V} (h : σ[i]? = some (some (.ref rl))) (hr : SqL K H rl [n, g, l, j, la]) :
    EvA (tCons (tOp (rIxL K) (tVar i) (tC (.int 0))) (tCons (tOp (rIxL K) (tVar i) (tC (.int 1))) (tCons (tOp (rIxL K) (tVar i) (tC (.int 2))) (tCons (tOp (rIxL K) (tVar i) (tC (.int 3))) (tCons (tOp (rIxL K) (tVar i) (tC (.int 4))) tNil))))) σ H [n, g, l, j, la] :=
  ea_cons (ev_op (ev_var h) ev_c (rv_ixL hr rfl)) (ea_cons (ev_op (ev_var h) ev_c (rv_ixL hr rfl)) (ea_cons (ev_op (ev_var h) ev_c (rv_ixL hr rfl)) (ea_cons (ev_op (ev_var h) ev_c (rv_ixL hr rfl)) (ea_cons (ev_op (ev_var h) ev_c (rv_ixL hr rfl)) ea_nil))))
theorem ea5T {K : PySem.W.Frag} {σ : L2.St} {H : Hp} {i : Nat} {rl : Addr} {n g l j la : V} (h : σ[i]? = some (some (.ref rl))) (hr : SqT K H rl [n, g, l, j, la]) :
    EvA (tCons (tOp (rIxT K) (tVar i) (tC (.int 0))) (tCons (tOp (rIxT K) (tVar i) (tC (.int 1))) (tCons (tOp (rIxT K) (tVar i) (tC (.int 2))) (tCons (tOp (rIxT K) (tVar i) (tC (.int 3))) (tCons (tOp (rIxT K) (tVar i) (tC (.int 4))) tNil))))) σ H [n, g, l, j, la] :=
  ea_cons (ev_op (ev_var h) ev_c (rv_ixT hr rfl)) (ea_cons (ev_op (ev_var h) ev_c (rv_ixT hr rfl)) (ea_cons (ev_op (ev_var h) ev_c (rv_ixT hr rfl)) (ea_cons (ev_op (ev_var h) ev_c (rv_ixT hr rfl)) (ea_cons (ev_op (ev_var h) ev_c (rv_ixT hr rfl)) ea_nil))))
/-- over a list of two new tuples -/
theorem s_forUU {K : PySem.W.Frag} {σ : L2.St} {H : Hp} {D : Ends} {tu : TS} {A B : TE} {xs ys : List V} {j : Nat} (Sh : L2.St → Prop) (h0 : Sh σ) (hA : EvU A σ H xs) (hB : EvU B σ H ys)
    (hs : ∀ t1 t2 HL, Ex H HL → HL t1 = some (.tup xs) → HL t2 = some (.tup ys) → ∀ (k : Nat) (y : V) σ' H', [V.ref t1, .ref t2][k]? = some y → Sh σ' → Ex HL H' →
      tu { D with nx := fun σ2 H2 => Sh σ2 ∧ Ex HL H2, ct := fun σ2 H2 => Sh σ2 ∧ Ex HL H2, bk := D.nx } (σ'.set j (some y)) H')
    (hd : ∀ HL σ' H', Ex H HL → Sh σ' → Ex HL H' → D.nx σ' H') : tFor (iList K (tLst (tCons A (tCons B tNil)))) (gName j) tu D σ H :=
  hA H (Ex.refl _) _ fun t1 H1 _ e1 h1 => hB H1 e1 _ fun t2 H2 _ e2 h2 => ⟨(by show 2 ≤ sizeLine; decide), fun L hL => ⟨L, rfl, ⟨_, SqL.of upd_same⟩,
    for_list (K := K) (xs := [V.ref t1, V.ref t2]) (fun _ σ' H' => Sh σ' ∧ Ex (upd H2 L (.lst [.ref t1, .ref t2])) H') ⟨h0, Ex.refl _⟩ (fun _ σ' H' _ h => SqL.of (h.2 _ _ upd_same))
      (fun k y σ' H' hk h => hs t1 t2 (upd H2 L (.lst [.ref t1, .ref t2])) ((e1.trans e2).trans (Ex.new hL)) ((Ex.new hL) _ _ (e2 _ _ h1)) ((Ex.new hL) _ _ h2) k y σ' H' hk h.1 h.2)
      (fun σ' H' h => hd (upd H2 L (.lst [.ref t1, .ref t2])) σ' H' ((e1.trans e2).trans (Ex.new hL)) h.1 h.2)⟩⟩
section
variable {P : Program} {w : World} {K : PySem.W.Frag} {mg : Str → Option Value} {base : Heap}
theorem ok_law (T : Tlw K mg) {f : Addr} {fd : FuncData} (F : Fun K "law" "law" s_law f fd) : FnG P w K mg base CX0 9 f fd ["_law_script"] (spLaw K) := by
  let S := T.O.R.S
  have GP := ok_purse (P := P) (w := w) (base := base) T.ro.T
  have GD := ok_draw (P := P) (w := w) (base := base) T.ro.T
  have GR := ok_rows (P := P) (w := w) (base := base) T.ro
  have GO := ok_odd (P := P) (w := w) (base := base) T.O
  have GI := ok_init (P := P) (w := w) (base := base) S
  have GE := ok_eq (P := P) (w := w) (base := base) S
  have G_name := T.p_name.ok (P := P) (w := w) (mg := mg) (base := base) sc_name rfl S.cls S.n_name
  have G_gap := T.p_gap.ok (P := P) (w := w) (mg := mg) (base := base) sc_gap rfl S.cls S.n_gap
  have G_length := T.p_length.ok (P := P) (w := w) (mg := mg) (base := base) sc_length rfl S.cls S.n_length
  have G_jitter := T.p_jitter.ok (P := P) (w := w) (mg := mg) (base := base) sc_jitter rfl S.cls S.n_jitter
  have G_last := T.p_last.ok (P := P) (w := w) (mg := mg) (base := base) sc_last rfl S.cls S.n_last
  have b_name : Binds K T.p_name.d ["self"] [] := T.p_name.F.binds fun _ _ _ _ _ _ us hl => match us, hl with | [_], _ => rfl
  have b_gap : Binds K T.p_gap.d ["self"] [] := T.p_gap.F.binds fun _ _ _ _ _ _ us hl => match us, hl with | [_], _ => rfl
  have b_length : Binds K T.p_length.d ["self"] [] := T.p_length.F.binds fun _ _ _ _ _ _ us hl => match us, hl with | [_], _ => rfl
  have b_jitter : Binds K T.p_jitter.d ["self"] [] := T.p_jitter.F.binds fun _ _ _ _ _ _ us hl => match us, hl with | [_], _ => rfl
  have b_last : Binds K T.p_last.d ["self"] [] := T.p_last.F.binds fun _ _ _ _ _ _ us hl => match us, hl with | [_], _ => rfl
  have bI : Binds K S.dI ["self", "name", "gap", "length", "jitter", "last"] [] := S.FI.binds fun _ _ _ _ _ _ us hl => match us, hl with | [_, _, _, _, _, _], _ => rfl
  have bE : Binds K S.dE ["self", "other"] [] := S.FE.binds fun _ _ _ _ _ _ us hl => match us, hl with | [_, _], _ => rfl
  have bP : Binds K T.ro.T.purse.d ["_law_script", "_law_at"] [] := Df.b T.ro.T.purse fun _ _ _ _ _ _ us hl => match us, hl with | [_, _], _ => rfl
  have bD : Binds K T.ro.T.draw.d ["_law_purse_here", "_law_many"] [] := Df.b T.ro.T.draw fun _ _ _ _ _ _ us hl => match us, hl with | [_, _], _ => rfl
  have bR : Binds K T.ro.rows.d ["_law_purse_here", "_law_many"] [] := Df.b T.ro.rows fun _ _ _ _ _ _ us hl => match us, hl with | [_, _], _ => rfl
  have bO : Binds K T.O.odd.d ["_law_row"] [] := Df.b T.O.odd fun _ _ _ _ _ _ us hl => match us, hl with | [_], _ => rfl
  refine fun_okG F sc_law ?_ ?_
  · rintro vs H Q E ⟨a, ns, rfl, _⟩
    rfl
  · rintro cdv A outer s H vs Q E gd hr ⟨a, ns, rfl, hS, hl, q⟩
    refine ⟨_, (pss_cons (ps_for PassesOwn.never rfl (pi_range1 rfl T.O.z_range (pa_cons pe_int pa_nil)) (pg_name (i := 1) sc_law.nd rfl (Or.inl rfl)) 
      (pss_cons (ps_set (i := 2) sc_law.nd rfl (Or.inl rfl) (pe_call GP (hr.mono (by decide)) rfl T.ro.T.purse.g T.ro.T.purse.F.kp bP .nil pass0 (pa_cons (pv 0) (pa_cons (pv 1) pa_nil))))
      (pss_cons (ps_set (i := 3) sc_law.nd rfl (Or.inl rfl) (pe_callTy call_list_of (by rfl) T.O.R.z_list (by decide +kernel) (pa_cons (pe_ix ix_list (pe_call GR (hr.mono (by decide)) rfl T.ro.rows.g T.ro.rows.F.kp bR .nil pass0 (pa_cons (pv 2) (pa_cons pe_int pa_nil))) pe_int (fun _ _ => rfl)) pa_nil)))
      (pss_cons (ps_for PassesOwn.never rfl (pi_range2 rfl T.O.z_range (pa_cons pe_int (pa_cons pe_int pa_nil))) (pg_name (i := 4) sc_law.nd rfl (Or.inl rfl)) 
        (pss_one (ps_if (pt_cmpR op_eq (pe_call GD (hr.mono (by decide)) rfl T.ro.T.draw.g T.ro.T.draw.F.kp bD .nil pass0 (pa_cons (pv 2) (pa_cons pe_int pa_nil))) pe_int (nomark _)) 
          (pss_one (ps_asg (pe_op op_add (pe_ix ix_list (pv 3) (pv 4) (fun _ _ => rfl)) (pe_op op_mul (pe_call GD (hr.mono (by decide)) rfl T.ro.T.draw.g T.ro.T.draw.F.kp bD .nil pass0 (pa_cons (pv 2) (pa_cons (pe_op op_pow pe_int pe_int) pa_nil))) (pe_op op_pow pe_int pe_int))) (pg_sub (pv 3) (pv 4) set_list))) pss_nil)))
      (pss_cons (ps_set (i := 5) sc_law.nd rfl (Or.inl rfl) (pe_make S.mkC GI (hr.mono (by decide)) rfl S.g_Message bI .nil passL (pa_cons (pe_ix ix_list (pv 3) pe_int (fun _ _ => rfl)) (pa_cons (pe_ix ix_list (pv 3) pe_int (fun _ _ => rfl)) (pa_cons (pe_ix ix_list (pv 3) pe_int (fun _ _ => rfl)) (pa_cons (pe_ix ix_list (pv 3) pe_int (fun _ _ => rfl)) (pa_cons (pe_ix ix_list (pv 3) pe_int (fun _ _ => rfl)) pa_nil)))))))
      (pss_cons (ps_if (pt_cmpR op_ne (pe_callB (call_repr gd hr.units) (by rfl) T.O.R.z_repr (by decide +kernel) (pa_cons (pe_lst (pa_cons (pe_prop (pv 5) S.cls T.p_name.hp G_name (hr.mono (by decide)) b_name .nil pass0 rfl) (pa_cons (pe_prop (pv 5) S.cls T.p_gap.hp G_gap (hr.mono (by decide)) b_gap .nil pass0 rfl) (pa_cons (pe_prop (pv 5) S.cls T.p_length.hp G_length (hr.mono (by decide)) b_length .nil pass0 rfl) (pa_cons (pe_prop (pv 5) S.cls T.p_jitter.hp G_jitter (hr.mono (by decide)) b_jitter .nil pass0 rfl) (pa_cons (pe_prop (pv 5) S.cls T.p_last.hp G_last (hr.mono (by decide)) b_last .nil pass0 rfl) pa_nil)))))) pa_nil)) (pe_callB (call_repr gd hr.units) (by rfl) T.O.R.z_repr (by decide +kernel) (pa_cons (pv 3) pa_nil)) (nomark _)) 
        (pss_one (ps_ret pe_bl)) pss_nil)
      (pss_cons (ps_if (PW.pt (pw_or (pt_cmpR (op_neI GE S.eqI S.eqF S.neI S.mo bE pass0 (hr.mono (by decide))) (pv 5) (pe_make S.mkC GI (hr.mono (by decide)) rfl S.g_Message bI .nil passL (pa_cons (pe_ix ix_list (pv 3) pe_int (fun _ _ => rfl)) (pa_cons (pe_ix ix_list (pv 3) pe_int (fun _ _ => rfl)) (pa_cons (pe_ix ix_list (pv 3) pe_int (fun _ _ => rfl)) (pa_cons (pe_ix ix_list (pv 3) pe_int (fun _ _ => rfl)) (pa_cons (pe_ix ix_list (pv 3) pe_int (fun _ _ => rfl)) pa_nil)))))) (nomark _)) (pw_or1 (pt_cmpR (op_eqI GE S.eqI S.eqF bE pass0 (hr.mono (by decide))) (pv 5) (pe_callTy call_tuple_of (by rfl) T.O.R.z_tuple (by decide +kernel) (pa_cons (pv 3) pa_nil)) (nomark _))))) 
        (pss_one (ps_ret pe_bl)) pss_nil)
      (pss_cons (ps_if (pt_cmpR (op_eqI GE S.eqI S.eqF bE pass0 (hr.mono (by decide))) (pv 5) pe_non (nomark _)) 
        (pss_one (ps_ret pe_bl)) pss_nil)
      (pss_cons (ps_if (pt_cmpR op_isnot_bl (pe_cmpR (op_eqI GE S.eqI S.eqF bE pass0 (hr.mono (by decide))) (pv 5) (pe_make S.mkC GI (hr.mono (by decide)) rfl S.g_Message bI .nil passL (pa_cons (pe_ix ix_list (pv 3) pe_int (fun _ _ => rfl)) (pa_cons (pe_ix ix_list (pv 3) pe_int (fun _ _ => rfl)) (pa_cons (pe_ix ix_list (pv 3) pe_int (fun _ _ => rfl)) (pa_cons (pe_ix ix_list (pv 3) pe_int (fun _ _ => rfl)) (pa_cons (pe_ix ix_list (pv 3) pe_int (fun _ _ => rfl)) pa_nil)))))) (nomark _)) pe_bl (nomark _)) 
        (pss_one (ps_ret pe_bl)) pss_nil)
      (pss_cons (ps_if (pt_cmpR op_isnot_bl (pe_cmpR (op_neI GE S.eqI S.eqF S.neI S.mo bE pass0 (hr.mono (by decide))) (pv 5) (pv 5) (nomark _)) pe_bl (nomark _)) 
        (pss_one (ps_ret pe_bl)) pss_nil)
      (pss_cons (ps_for PassesOwn.never rfl (pi_range1 rfl T.O.z_range (pa_cons pe_int pa_nil)) (pg_name (i := 4) sc_law.nd rfl (Or.inl rfl)) 
        (pss_cons (ps_set (i := 6) sc_law.nd rfl (Or.inl rfl) (pe_callTy call_list_of (by rfl) T.O.R.z_list (by decide +kernel) (pa_cons (pv 3) pa_nil)))
        (pss_cut (ps_if (pt_cmpR op_eq (pv 4) pe_int (nomark _)) 
          (pss_one (ps_asg pe_str (pg_sub (pv 6) pe_int set_list))) 
          (pss_one (ps_asg (pe_op op_add (pe_ix ix_list (pv 3) (pv 4) (fun _ _ => rfl)) pe_int) (pg_sub (pv 6) (pv 4) set_list))))
        (pss_one (ps_if (pt_cmpR (op_eqI GE S.eqI S.eqF bE pass0 (hr.mono (by decide))) (pe_make S.mkC GI (hr.mono (by decide)) rfl S.g_Message bI .nil passL (pa_cons (pe_ix ix_list (pv 6) pe_int (fun _ _ => rfl)) (pa_cons (pe_ix ix_list (pv 6) pe_int (fun _ _ => rfl)) (pa_cons (pe_ix ix_list (pv 6) pe_int (fun _ _ => rfl)) (pa_cons (pe_ix ix_list (pv 6) pe_int (fun _ _ => rfl)) (pa_cons (pe_ix ix_list (pv 6) pe_int (fun _ _ => rfl)) pa_nil)))))) (pv 5) (nomark _)) 
          (pss_one (ps_ret pe_bl)) pss_nil)))))
      (pss_cons (ps_if (pt_not (pt_val (pe_callG GO gd (hr.mono (by decide)) rfl T.O.odd.g T.O.odd.F.kp bO .nil pass0 (pa_cons (pv 3) pa_nil)))) 
        (pss_one (ps_ret pe_bl)) pss_nil)
      (pss_one (ps_for PassesOwn.never rfl (pi_list (pe_lst (pa_cons (pe_tup (pa_cons (pe_ix ix_list (pv 3) pe_int (fun _ _ => rfl)) (pa_cons pe_int (pa_cons pe_int (pa_cons pe_int (pa_cons pe_int pa_nil)))))) (pa_cons (pe_tup (pa_cons pe_str (pa_cons pe_int (pa_cons pe_int (pa_cons pe_int (pa_cons pe_int pa_nil)))))) pa_nil)))) (pg_name (i := 7) sc_law.nd rfl (Or.inl rfl)) 
        (pss_one (ps_if (pt_cmpR op_ne (pe_prop (pe_make S.mkC GI (hr.mono (by decide)) rfl S.g_Message bI .nil passL (pa_cons (pe_ix ix_tup (pv 7) pe_int (fun _ _ => rfl)) (pa_cons (pe_ix ix_tup (pv 7) pe_int (fun _ _ => rfl)) (pa_cons (pe_ix ix_tup (pv 7) pe_int (fun _ _ => rfl)) (pa_cons (pe_ix ix_tup (pv 7) pe_int (fun _ _ => rfl)) (pa_cons (pe_ix ix_tup (pv 7) pe_int (fun _ _ => rfl)) pa_nil)))))) S.cls T.p_gap.hp G_gap (hr.mono (by decide)) b_gap .nil pass0 rfl) pe_int (nomark _)) 
          (pss_one (ps_ret pe_bl)) pss_nil))))))))))))))))
    (pss_one (ps_ret pe_bl))), ?_⟩
    refine q_forR1 (n := 5) (j := 1) (ea_cons ev_c ea_nil) ⟨by decide, by decide⟩ (fun i σ' H' => (∃ w1 w2 w3 w4 w5 w6 w7, σ' = [some (.ref a), w1, w2, w3, w4, w5, w6, w7]) ∧ Ex H H')
      (fun H1 e1 => ⟨⟨_, _, _, _, _, _, _, rfl⟩, e1⟩) ?_ ?_
    · rintro i σ' H1 hi5 ⟨⟨w1, w2, w3, w4, w5, w6, w7, rfl⟩, e1⟩
      have hi : i < 5 := by omega
      refine ⟨.ref a, rfl, .int (i : Int), rfl, a, ns, i, rfl, ex_l e1 hS, hl, by omega, fun p d m hp => ?_⟩
      have pu2 : Purse (upd H1 p (.lst [.int d, .int m, .int 0])) p 0 := ⟨d, m, 0, upd_same, by decide, by decide⟩
      have e2 : Ex H1 (upd H1 p (.lst [.int d, .int m, .int 0])) := Ex.new hp
      generalize upd H1 p (.lst [.int d, .int m, .int 0]) = H2 at pu2 e2 ⊢
      refine ⟨.ref p, rfl, p, 0, rfl, pu2, by omega, fun q3 t H3 x g l j la nx dn bx pu3 hq ht => ⟨q3, _, 0, _, rfl, rfl, SqL.of hq, rfl, t, _, rfl, Or.inr (Or.inl (Or.inl ht)), fun rl hrl => ?_⟩⟩
      have rlp : rl ≠ p := pu3.ne hrl
      have e3 : Ex H1 (upd H3 rl (.lst [.str x, .int g, .int l, .int j, .int la])) := (bx_ex e2 hp bx).trans (Ex.new hrl)
      have hr3 : upd H3 rl (.lst [.str x, .int g, .int l, .int j, .int la]) rl = some (.lst (.str x :: [g, l, j, la].map V.int)) := upd_same
      have n1 : H1 rl = none := fresh_back (bx_ex e2 hp bx) hrl
      have pu4 := pu3.upd (o := .lst [.str x, .int g, .int l, .int j, .int la]) hrl
      generalize upd H3 rl (.lst [.str x, .int g, .int l, .int j, .int la]) = H4 at e3 hr3 pu4 ⊢
      have rs0 : RowSt 0 [g, l, j, la] := ⟨rfl, fun i m h => by
        have z1 := dn.g0
        have z2 := dn.g1
        have z3 := dn.l0
        have z4 := dn.l1
        have z5 := dn.j0
        have z6 := dn.j1
        have z7 := dn.a0
        have z8 := dn.a1
        match i, h with
        | 0, h => cases h; exact ⟨by show (1 : Int) ≤ _; omega, by omega⟩
        | 1, h => cases h; exact ⟨by show (1 : Int) ≤ _; omega, by omega⟩
        | 2, h => cases h; exact ⟨by show (0 : Int) ≤ _; omega, by omega⟩
        | 3, h => cases h; exact ⟨by show (1 : Int) ≤ _; omega, by omega⟩⟩
      refine q_forR2 (lo := 1) (n := 5) (j := 4) (ea_cons ev_c (ea_cons ev_c ea_nil)) ⟨by decide, by decide, by decide, by decide⟩
        (fun k σ' H' => (∃ w4 w5 w6 w7, σ' = [some (.ref a), some (.int (i : Int)), some (.ref p), some (.ref rl), w4, w5, w6, w7]) ∧ Ex H1 H' ∧ Purse H' p (8 + 2 * k) ∧ ∃ ns', RowSt k ns' ∧ H' rl = some (.lst (.str x :: ns'.map V.int)))
        (fun H5 e5 => ⟨⟨_, _, _, _, rfl⟩, e3.trans e5, pu4.ex e5, _, rs0, e5 _ _ hr3⟩) ?_ ?_
      · rintro k σ' H5 hk ⟨⟨w4', w5', w6', w7', rfl⟩, e5, pu5, ns', rs, hr5⟩
        have hk4 : k < 4 := by omega
        refine q_draw rfl pu5 (by omega) (by decide) (by decide) fun r H6 r0 r1 bt6 pu6 => ⟨rfl, _, rfl, ?_⟩
        have e6 := bt_ex e5 hp bt6
        have hr6 : H6 rl = some (.lst (.str x :: ns'.map V.int)) := (bt6 rl rlp).trans hr5
        refine ite2 (fun _ => ?_) (fun _ => ?_)
        · obtain ⟨v, hv⟩ : ∃ v, ns'[k]? = some v := ⟨_, List.getElem?_eq_getElem (by rw [rs.len]; exact hk4)⟩
          have ck : (1 : Int) + (k : Int) = ((k + 1 : Nat) : Int) := by omega
          have hat : atI (V.str x :: ns'.map V.int) (1 + (k : Int)) = some (.int v) := by
            rw [ck]
            refine atI_nat' ?_
            rw [List.getElem?_cons_succ, List.getElem?_map, hv]
            rfl
          have hix : ixN (V.str x :: ns'.map V.int).length (1 + (k : Int)) = some (k + 1) := by
            rw [ck]
            exact ixN_nat (by rw [List.length_cons, List.length_map, rs.len]; omega)
          refine ⟨.ref rl, rfl, .int (1 + (k : Int)), rfl, rl, _, 1 + (k : Int), .int v, rfl, rfl, SqL.of hr6, hat, .ref p, rfl, 10, 9, rfl, rfl, ⟨by decide, by decide, by decide⟩, p, _, _, rfl, pu6, by omega, (by show (0 : Int) < 10 ^ (9 : Int).toNat; decide), (by show (10 : Int) ^ (9 : Int).toNat < 1073741824; decide), fun dd H7 d0 d1 bt7 pu7 => ?_⟩
          have e7 := bt_ex e6 hp bt7
          have hr7 : H7 rl = some (.lst (.str x :: ns'.map V.int)) := (bt7 rl rlp).trans hr6
          have d1' : dd < 1000000000 := d1
          refine ⟨10, 11, rfl, rfl, ⟨by decide, by decide, by decide⟩, dd, _, rfl, rfl, Or.inl ⟨by omega, by omega⟩, v, _, rfl, rfl, ?_⟩
          refine ⟨.ref rl, rfl, .int (1 + (k : Int)), rfl, rl, _, 1 + (k : Int), k + 1, rfl, rfl, hr7, hix, ?_⟩
          have ez : (10 : Int) ^ (11 : Int).toNat = 100000000000 := by decide
          refine ⟨⟨_, _, _, _, rfl⟩, fun c o h => (upd_ne (ne_of_none h n1)).trans (e7 _ _ h), ?_, _, rs.put hv (d := dd * 10 ^ (11 : Int).toNat) (by rw [ez]; omega) (by rw [ez]; omega), ?_⟩
          · obtain ⟨d', m', t', h, h0, h1⟩ := pu7
            exact ⟨d', m', t', (upd_ne (Ne.symm rlp)).trans h, h0, by omega⟩
          · rw [upd_same, List.set_cons_succ, map_set]
        · exact ⟨⟨_, _, _, _, rfl⟩, e6, pu6.le (by omega), ns', rs.mono (Nat.le_succ k), hr6⟩
      · rintro σ' H5 ⟨⟨w4', w5', w6', w7', rfl⟩, e5, _, ns', rs, hr5⟩
        clear pu2 e2 hq ht bx pu3 e3 hr3 pu4 dn rs0
        obtain ⟨g, l, j, la, rfl⟩ : ∃ g l j la, ns' = [g, l, j, la] := by
          match ns', rs.len with
          | [g, l, j, la], _ => exact ⟨g, l, j, la, rfl⟩
        have k0 := rs.at_ 0 g rfl
        have k1 := rs.at_ 1 l rfl
        have k2 := rs.at_ 2 j rfl
        have k3 := rs.at_ 3 la rfl
        have g0 : 1 ≤ g := k0.1
        have l0 : 1 ≤ l := k1.1
        have j0 : 0 ≤ j := k2.1
        have a0 : 1 ≤ la := k3.1
        have hrow : H5 rl = some (.lst [.str x, .int g, .int l, .int j, .int la]) := hr5
        have e5 : Ex H H5 := e1.trans e5
        obtain ⟨nx1, nx2, nx3, nx4⟩ := nm_facts nx
        have u0 : g ≤ 20 + 4 * 2 ^ 67 := k0.2
        have u1 : l ≤ 20 + 4 * 2 ^ 67 := k1.2
        have u2 : j ≤ 20 + 4 * 2 ^ 67 := k2.2
        have u3 : la ≤ 20 + 4 * 2 ^ 67 := k3.2
        have ag : g.natAbs < 2 ^ 200 := by omega
        have al : l.natAbs < 2 ^ 200 := by omega
        have aj : j.natAbs < 2 ^ 200 := by omega
        have aa : la.natAbs < 2 ^ 200 := by omega
        have rowok : RowOk [.str x, .int g, .int l, .int j, .int la] := ⟨x, g, l, j, la, rfl, by omega, nx3, ag, al, aj, aa⟩
        have scs : Scs [.str x, .int g, .int l, .int j, .int la] [.str x, .int g, .int l, .int j, .int la] := .cons (sc_str nx3) (.cons (sc_int ag) (.cons (sc_int al) (.cons (sc_int aj) (.cons (sc_int aa) .nil))))
        have bd := scs.b.lst
        have fv : ∀ H', Five K H' (.str x) (.int g) (.int l) (.int j) (.int la) true := fun H' => five_int nx1 (by omega) g0 l0 j0 a0
        have sc : Sc5 (V.str x) (.int g) (.int l) (.int j) (.int la) (.str x) (.int g) (.int l) (.int j) (.int la) := ⟨rfl, rfl, rfl, rfl, rfl⟩
        have ro : ∀ {H'}, Ex H5 H' → SqL K H' rl [.str x, .int g, .int l, .int j, .int la] := fun e => SqL.of (e _ _ hrow)
        refine q_asgM (em_make S (ea5 rfl (ro (Ex.refl _))) (fv _)) fun md H6 nmd e6 hm => ?_
        refine q_when (b := false) (et_is (et_test (ev_op (ev_reprL (el_lst (ea_cons (ev_prop (ev_var rfl) hm mf_name) (ea_cons (ev_prop (ev_var rfl) hm mf_gap) (ea_cons (ev_prop (ev_var rfl) hm mf_length) (ea_cons (ev_prop (ev_var rfl) hm mf_jitter) (ea_cons (ev_prop (ev_var rfl) hm mf_last) ea_nil))))) (by show 5 ≤ 100000; decide)) scs.r bd.s (Nat.le_trans bd.dp (by decide)) (sz4 (Nat.le_trans bd.z (by show 2 + 5 * 252 ≤ 400000; decide))))
          (ev_repr (ev_var rfl) (.lst (ro e6) scs.r) (fun _ z => nomatch z) bd.s (Nat.le_trans bd.dp (by decide)) (sz4 (Nat.le_trans bd.z (by show 2 + 5 * 252 ≤ 400000; decide)))) (rv_ne rfl))) (by simp)) (fun h => absurd h (by decide)) fun _ H7 e7 => ?_
        have f7 := e6.trans e7
        have hm7 := hm.ex e7
        refine q_when (b := false) (et_is (et_or (a := false) (b := false) (et_is (et_test (ev_neM S (ev_var rfl) hm7 (em_make S (ea5 rfl (ro f7)) (fv _)) sc)) (by rw [eq5_same]; rfl)) fun _ => et_test (ev_eqU S (ev_var rfl) hm7 (eu_tof (ev_var rfl) (ro f7)))) rfl) (fun h => absurd h (by decide)) fun _ H8 e8 => ?_
        have f8 := f7.trans e8
        have hm8 := hm7.ex e8
        refine q_when (b := false) (et_test (ev_eq0 S (ev_var rfl) hm8 ev_c)) (fun h => absurd h (by decide)) fun _ H9 e9 => ?_
        have f9 := f8.trans e9
        have hm9 := hm8.ex e9
        refine q_when (b := false) (et_is (et_test (ev_op (ev_eqM S (ev_var rfl) hm9 (em_make S (ea5 rfl (ro f9)) (fv _)) sc) ev_c rv_nb)) (by rw [eq5_same]; rfl)) (fun h => absurd h (by decide)) fun _ H10 e10 => ?_
        have f10 := f9.trans e10
        have hm10 := hm9.ex e10
        refine q_when (b := false) (et_is (et_test (ev_op (ev_neV S (ev_var rfl) hm10 (ev_var rfl) hm10 sc) ev_c rv_nb)) (by rw [eq5_same]; rfl)) (fun h => absurd h (by decide)) fun _ H11 e11 => ?_
        have f11 := f10.trans e11
        have hm11 := hm10.ex e11
        refine q_forR1 (n := 5) (j := 4) (ea_cons ev_c ea_nil) ⟨by decide, by decide⟩ (fun k σ' H' => (∃ w4 w6 w7, σ' = [some (.ref a), some (.int (i : Int)), some (.ref p), some (.ref rl), w4, some (.ref md), w6, w7]) ∧ Ex H11 H')
          (fun H' e' => ⟨⟨_, _, _, rfl⟩, e'⟩) ?_ ?_
        · rintro k σ' H12 hk ⟨⟨w4'', w6'', w7'', rfl⟩, e12⟩
          have hk5 : k < 5 := by omega
          have f12 := f11.trans e12
          refine q_asgL (el_list (ev_var rfl) (ro f12)) fun ol H13 nol e13 hol => ?_
          have f13 := f12.trans e13
          refine ⟨fun σ' H' => ∃ xs' w7, σ' = [some (.ref a), some (.int (i : Int)), some (.ref p), some (.ref rl), some (.int (k : Int)), some (.ref md), some (.ref ol), w7] ∧ Ex H12 H' ∧ H' ol = some (.lst xs') ∧ Oth K x g l j la xs', ?_, ?_⟩
          · refine s_if (b := decide (k = 0)) (et_is (et_test (ev_op (ev_var rfl) ev_c (rv_eq rfl))) ?_) (fun h H14 e14 => ?_) (fun h H14 e14 => ?_)
            · exact decide_eq_decide.mpr ⟨fun z => by injection z with z; omega, fun z => by rw [z]; rfl⟩
            · refine s_setL (j := 0) (e14 _ _ hol) ev_c (ev_var rfl) ev_c (by show 0 < 5; decide) fun H15 e15 => ?_
              exact ⟨_, _, rfl, Ex.mut ((e13.trans e14).trans e15) nol, upd_same, oth_name nx4 g0 l0 j0 a0⟩
            · obtain ⟨v, hv, ho⟩ := oth_num (K := K) nx1 (show x.length ≤ 1000 by omega) g0 l0 j0 a0 hk5 (of_decide_eq_false h)
              refine s_setL (j := k) (v := .int (v + 1)) (e14 _ _ hol) (ev_op (ev_op (ev_var rfl) (ev_var rfl) (rv_ixL (ro (f13.trans e14)) hv)) ev_c rv_I0) (ev_var rfl) (ev_var rfl) (by show k < 5; exact hk5) fun H15 e15 => ?_
              exact ⟨_, _, rfl, Ex.mut ((e13.trans e14).trans e15) nol, upd_same, ho⟩
          · rintro σ' H14 ⟨xs', w7, rfl, e14, hol', n', g', l', j', la', rfl, ff, ss, ee⟩
            have hm14 := hm11.ex (e12.trans e14)
            refine s_when (b := false) (et_is (et_test (ev_eqN S (em_make S (ea5 rfl (SqL.of hol')) (ff _)) (ev_var rfl) hm14 ss)) ee) (fun h => absurd h (by decide)) fun _ H15 e15 => ?_
            exact ⟨⟨_, _, _, rfl⟩, (e12.trans e14).trans e15⟩
        · rintro σ' H12 ⟨⟨w4'', w6'', w7'', rfl⟩, e12⟩
          have f12 := f11.trans e12
          have sv : SpV spOdd ([.ref rl] ++ []) H12 (.bl true) := fun H' e Q' q' _ => ⟨rl, _, rfl, (f12.trans e) _ _ hrow, rowok, q'⟩
          refine q_when (b := false) (et_is (et_not (et_B (ev_call (ea_cons (ev_var rfl) ea_nil) sv))) rfl) (fun h => absurd h (by decide)) fun _ H13 e13 => ?_
          have f13 := f12.trans e13
          refine s_forUU (j := 7) (fun σ' => ∃ w7, σ' = [some (.ref a), some (.int (i : Int)), some (.ref p), some (.ref rl), w4'', some (.ref md), w6'', w7]) ⟨_, rfl⟩
            (eu_tup (vs := [.str x, .int 1, .int 1, .int 0, .int 1]) (ea_cons (ev_op (ev_var rfl) ev_c (rv_ixL (ro f13) rfl)) (ea_cons ev_c (ea_cons ev_c (ea_cons ev_c (ea_cons ev_c ea_nil))))) (by show 5 ≤ 100000; decide))
            (eu_tup (vs := [.str "abcdefgh", .int 1, .int 5, .int 7, .int 1]) (ea_cons ev_c (ea_cons ev_c (ea_cons ev_c (ea_cons ev_c (ea_cons ev_c ea_nil))))) (by show 5 ≤ 100000; decide)) ?_ ?_
          · rintro t1 t2 HL eHL h14 h15 k y σ' H16 hk ⟨w7, rfl⟩ eL
            have go : ∀ (t : Addr) (nm : Str) (b c d : Int), y = .ref t → goodN nm = true → nm.length ≤ 1000 → 1 ≤ b → 0 ≤ c → 1 ≤ d → H16 t = some (.tup [.str nm, .int 1, .int b, .int c, .int d]) →
                EvT (tTest (tOp rNe (tProp S.C (getSp S.C "_gap") [] E0 (tMake S.C (spInit K S.C S.M) [] E0 (tCons (tOp (rIxT K) (tVar 7) (tC (.int 0))) (tCons (tOp (rIxT K) (tVar 7) (tC (.int 1))) (tCons (tOp (rIxT K) (tVar 7) (tC (.int 2))) (tCons (tOp (rIxT K) (tVar 7) (tC (.int 3))) (tCons (tOp (rIxT K) (tVar 7) (tC (.int 4))) tNil))))))) (tC (.int 1))))
                  [some (.ref a), some (.int (i : Int)), some (.ref p), some (.ref rl), w4'', some (.ref md), w6'', some y] H16 false := by
              rintro t nm b c d rfl h1 h2 h3 h4 h5 h6
              exact et_is (et_test (ev_op (ev_propM (em_make S (ea5T rfl (Or.inl (Or.inl h6))) (five_int h1 h2 (by decide) h3 h4 h5)) mf_gap) ev_c (rv_ne rfl))) (by simp)
            have ev : EvT (tTest (tOp rNe (tProp S.C (getSp S.C "_gap") [] E0 (tMake S.C (spInit K S.C S.M) [] E0 (tCons (tOp (rIxT K) (tVar 7) (tC (.int 0))) (tCons (tOp (rIxT K) (tVar 7) (tC (.int 1))) (tCons (tOp (rIxT K) (tVar 7) (tC (.int 2))) (tCons (tOp (rIxT K) (tVar 7) (tC (.int 3))) (tCons (tOp (rIxT K) (tVar 7) (tC (.int 4))) tNil))))))) (tC (.int 1))))
                  [some (.ref a), some (.int (i : Int)), some (.ref p), some (.ref rl), w4'', some (.ref md), w6'', some y] H16 false := by
              match k, hk with
              | 0, hk => exact go t1 x 1 0 1 (Option.some.inj hk).symm nx1 (by omega) (by decide) (by decide) (by decide) (eL _ _ h14)
              | 1, hk => exact go t2 "abcdefgh" 5 7 1 (Option.some.inj hk).symm (by decide +kernel) (by decide +kernel) (by decide) (by decide) (by decide) (eL _ _ h15)
              | k + 2, hk => cases hk
            exact s_when (b := false) ev (fun h => absurd h (by decide)) fun _ H17 e17 => ⟨⟨_, rfl⟩, eL.trans e17⟩
          · rintro HL σ' H16 eHL ⟨w7, rfl⟩ e16
            exact ⟨⟨_, _, _, _, _, _, _, rfl⟩, e5.trans (f13.trans (eHL.trans e16))⟩
    · rintro σ' H1 ⟨_, e1⟩
      exact s_ret (v := .bl true) ev_c fun H2 e2 => q H2
end
end K02
set_option Elab.async false
set_option linter.all false
set_option maxRecDepth 100000
set_option maxHeartbeats 4000000
namespace K02
open PySem PySem.Spec PyProof.Rows L2 Wr
theorem all_mk {l : PySem.W.OpenLaw} {w : World} {K : PySem.W.Frag} {h : Heap} {mg : Str → Option Value} {fa C M Mi W I E : Addr} (X : K.In h) (G : h.Ns mainGlobals mg) (hfa : mg "law" = some (.ref fa))
    (a_C : PySem.W.nsIn K mainGlobals "Message" = some (some (.ref C)))
    (a_M : PySem.W.nsIn K mainGlobals "InvalidMessage" = some (some (.ref M)))
    (a_W : PySem.W.nsIn K mainGlobals "WireRanksError" = some (some (.ref W)))
    (xM : XcF K M Mi)
    (mk1 : PySem.W.makesIn K C = true)
    (mk2 : PySem.W.findIn K (.ref C) "__init__" = some (some (.ref I)))
    (mk3 : PySem.W.isFn K (.ref I) = true)
    (mk4 : PySem.W.keepIn K (.ref C) = true)
    (cl1 : PySem.W.plainGet K C Str.empty = true)
    (cl2 : PySem.W.hasDictIn K C = true)
    (cl3 : PySem.W.plainOver K C = true)
    (cl4 : PySem.W.findIn K (.ref C) "__setattr__" = some (some (.builtin "object.__setattr__")))
    (eqI : PySem.W.findIn K (.ref C) "__eq__" = some (some (.ref E)))
    (eqF : PySem.W.isFn K (.ref E) = true)
    (neI : PySem.W.findIn K (.ref C) "__ne__" = some (some (.builtin "object.__ne__")))
    (mo : PySem.W.mroIn K C (.type "object") = some true)
    (na_name : PySem.W.findIn K (.ref C) "_name" = some none)
    (na_gap : PySem.W.findIn K (.ref C) "_gap" = some none)
    (na_length : PySem.W.findIn K (.ref C) "_length" = some none)
    (na_jitter : PySem.W.findIn K (.ref C) "_jitter" = some none)
    (na_last : PySem.W.findIn K (.ref C) "_last" = some none)
    (cc : PySem.W.findIn K (.ref C) "__class__" = some (some (.builtin "object.__class__")))
    (cw1 : PySem.W.specialIn K (.builtin "object.__class__") "__get__" = some (some (.builtin "getset_descriptor.__get__")))
    (cw2 : PySem.W.takesIn K (.builtin "object.__class__") = some true)
    (kt_m : PySem.W.kitOne K (.ref C) (.ref C) = some true)
    (kt_t : PySem.W.kitOne K (.type "tuple") (.ref C) = some false)
    (kt_n : PySem.W.kitOne K (.type "NoneType") (.ref C) = some false)
    (kt_M : PySem.W.kitOne K (.ref M) (.ref M) = some true)
    (sb_t : PySem.W.subIn K (.type "tuple") (.ref C) = some false)
    (sb_n : PySem.W.subIn K (.type "NoneType") (.ref C) = some false)
    (ex1 : PySem.W.subIn K (.ref W) (.type "BaseException") = some true)
    (ex2 : PySem.W.hasDictIn K W = true)
    (ex3 : PySem.W.typeIn K (.ref W) = some (.type "type"))
    (ex4 : PySem.W.subIn K (.ref M) (.ref W) = some true)
    {tm : Tok}
    (g_most : PySem.W.nsIn K mainGlobals "MOST_SIGNS" = some (some (.int 8 tm)))
    {od_mI an_mI : Option Addr} {sl_mI : Array (Option Value)} {oc_mI kV_mI dc_mI pm_mI cd_mI ct_mI : Value}
    (l_mI : K.lookup I = some ⟨oc_mI, od_mI, .func (PySem.W.fnOf "__init__" "Message.__init__" (defArgs s_init) (defBody s_init) (defScope s_init) .none kV_mI dc_mI pm_mI an_mI cd_mI ct_mI), sl_mI⟩)
    (c_mI : PySem.W.codeIn K cd_mI "Message.__init__" = true)
    (e_mI : PySem.W.keepIn K (.ref I) = true)
    {od_mE an_mE : Option Addr} {sl_mE : Array (Option Value)} {oc_mE kV_mE dc_mE pm_mE cd_mE ct_mE : Value}
    (l_mE : K.lookup E = some ⟨oc_mE, od_mE, .func (PySem.W.fnOf "__eq__" "Message.__eq__" (defArgs s_eq) (defBody s_eq) (defScope s_eq) .none kV_mE dc_mE pm_mE an_mE cd_mE ct_mE), sl_mE⟩)
    (c_mE : PySem.W.codeIn K cd_mE "Message.__eq__" = true)
    (e_mE : PySem.W.keepIn K (.ref E) = true)
    {p_name q_name : Addr} {rest_name : List Value}
    (pa_name : PySem.W.findIn K (.ref C) "name" = some (some (.ref p_name)))
    (pb_name : PySem.W.specialIn K (.ref p_name) "__get__" = some (some (.builtin "property.__get__")))
    (pc_name : PySem.W.takesIn K (.ref p_name) = some true)
    (pd_name : PySem.W.recIn K p_name "property" = some (.ref q_name :: rest_name))
    {od_gname an_gname : Option Addr} {sl_gname : Array (Option Value)} {oc_gname kV_gname dc_gname pm_gname cd_gname ct_gname : Value}
    (l_gname : K.lookup q_name = some ⟨oc_gname, od_gname, .func (PySem.W.fnOf "name" "Message.name" (defArgs s_name) (defBody s_name) (defScope s_name) .none kV_gname dc_gname pm_gname an_gname cd_gname ct_gname), sl_gname⟩)
    (c_gname : PySem.W.codeIn K cd_gname "Message.name" = true)
    (e_gname : PySem.W.keepIn K (.ref q_name) = true)
    {p_gap q_gap : Addr} {rest_gap : List Value}
    (pa_gap : PySem.W.findIn K (.ref C) "gap" = some (some (.ref p_gap)))
    (pb_gap : PySem.W.specialIn K (.ref p_gap) "__get__" = some (some (.builtin "property.__get__")))
    (pc_gap : PySem.W.takesIn K (.ref p_gap) = some true)
    (pd_gap : PySem.W.recIn K p_gap "property" = some (.ref q_gap :: rest_gap))
    {od_ggap an_ggap : Option Addr} {sl_ggap : Array (Option Value)} {oc_ggap kV_ggap dc_ggap pm_ggap cd_ggap ct_ggap : Value}
    (l_ggap : K.lookup q_gap = some ⟨oc_ggap, od_ggap, .func (PySem.W.fnOf "gap" "Message.gap" (defArgs s_gap) (defBody s_gap) (defScope s_gap) .none kV_ggap dc_ggap pm_ggap an_ggap cd_ggap ct_ggap), sl_ggap⟩)
    (c_ggap : PySem.W.codeIn K cd_ggap "Message.gap" = true)
    (e_ggap : PySem.W.keepIn K (.ref q_gap) = true)
    {p_length q_length : Addr} {rest_length : List Value}
    (pa_length : PySem.W.findIn K (.ref C) "length" = some (some (.ref p_length)))
    (pb_length : PySem.W.specialIn K (.ref p_length) "__get__" = some (some (.builtin "property.__get__")))
    (pc_length : PySem.W.takesIn K (.ref p_length) = some true)
    (pd_length : PySem.W.recIn K p_length "property" = some (.ref q_length :: rest_length))
    {od_glength an_glength : Option Addr} {sl_glength : Array (Option Value)} {oc_glength kV_glength dc_glength pm_glength cd_glength ct_glength : Value}
    (l_glength : K.lookup q_length = some ⟨oc_glength, od_glength, .func (PySem.W.fnOf "length" "Message.length" (defArgs s_length) (defBody s_length) (defScope s_length) .none kV_glength dc_glength pm_glength an_glength cd_glength ct_glength), sl_glength⟩)
    (c_glength : PySem.W.codeIn K cd_glength "Message.length" = true)
    (e_glength : PySem.W.keepIn K (.ref q_length) = true)
    {p_jitter q_jitter : Addr} {rest_jitter : List Value}
    (pa_jitter : PySem.W.findIn K (.ref C) "jitter" = some (some (.ref p_jitter)))
    (pb_jitter : PySem.W.specialIn K (.ref p_jitter) "__get__" = some (some (.builtin "property.__get__")))
    (pc_jitter : PySem.W.takesIn K (.ref p_jitter) = some true)
    (pd_jitter : PySem.W.recIn K p_jitter "property" = some (.ref q_jitter :: rest_jitter))
    {od_gjitter an_gjitter : Option Addr} {sl_gjitter : Array (Option Value)} {oc_gjitter kV_gjitter dc_gjitter pm_gjitter cd_gjitter ct_gjitter : Value}
    (l_gjitter : K.lookup q_jitter = some ⟨oc_gjitter, od_gjitter, .func (PySem.W.fnOf "jitter" "Message.jitter" (defArgs s_jitter) (defBody s_jitter) (defScope s_jitter) .none kV_gjitter dc_gjitter pm_gjitter an_gjitter cd_gjitter ct_gjitter), sl_gjitter⟩)
    (c_gjitter : PySem.W.codeIn K cd_gjitter "Message.jitter" = true)
    (e_gjitter : PySem.W.keepIn K (.ref q_jitter) = true)
    {p_last q_last : Addr} {rest_last : List Value}
    (pa_last : PySem.W.findIn K (.ref C) "last" = some (some (.ref p_last)))
    (pb_last : PySem.W.specialIn K (.ref p_last) "__get__" = some (some (.builtin "property.__get__")))
    (pc_last : PySem.W.takesIn K (.ref p_last) = some true)
    (pd_last : PySem.W.recIn K p_last "property" = some (.ref q_last :: rest_last))
    {od_glast an_glast : Option Addr} {sl_glast : Array (Option Value)} {oc_glast kV_glast dc_glast pm_glast cd_glast ct_glast : Value}
    (l_glast : K.lookup q_last = some ⟨oc_glast, od_glast, .func (PySem.W.fnOf "last" "Message.last" (defArgs s_last) (defBody s_last) (defScope s_last) .none kV_glast dc_glast pm_glast an_glast cd_glast ct_glast), sl_glast⟩)
    (c_glast : PySem.W.codeIn K cd_glast "Message.last" = true)
    (e_glast : PySem.W.keepIn K (.ref q_last) = true)
    {f_whole : Addr}
    (g_whole : PySem.W.nsIn K mainGlobals "is_whole" = some (some (.ref f_whole)))
    {od_whole an_whole : Option Addr} {sl_whole : Array (Option Value)} {oc_whole kV_whole dc_whole pm_whole cd_whole ct_whole : Value}
    (l_whole : K.lookup f_whole = some ⟨oc_whole, od_whole, .func (PySem.W.fnOf "is_whole" "is_whole" (defArgs s_is_whole) (defBody s_is_whole) (defScope s_is_whole) .none kV_whole dc_whole pm_whole an_whole cd_whole ct_whole), sl_whole⟩)
    (c_whole : PySem.W.codeIn K cd_whole "is_whole" = true)
    (e_whole : PySem.W.keepIn K (.ref f_whole) = true)
    {f_from : Addr}
    (g_from : PySem.W.nsIn K mainGlobals "is_whole_from" = some (some (.ref f_from)))
    {od_from an_from : Option Addr} {sl_from : Array (Option Value)} {oc_from kV_from dc_from pm_from cd_from ct_from : Value}
    (l_from : K.lookup f_from = some ⟨oc_from, od_from, .func (PySem.W.fnOf "is_whole_from" "is_whole_from" (defArgs s_is_whole_from) (defBody s_is_whole_from) (defScope s_is_whole_from) .none kV_from dc_from pm_from an_from cd_from ct_from), sl_from⟩)
    (c_from : PySem.W.codeIn K cd_from "is_whole_from" = true)
    (e_from : PySem.W.keepIn K (.ref f_from) = true)
    {f_name : Addr}
    (g_name : PySem.W.nsIn K mainGlobals "is_name" = some (some (.ref f_name)))
    {od_name an_name : Option Addr} {sl_name : Array (Option Value)} {oc_name kV_name dc_name pm_name cd_name ct_name : Value}
    (l_name : K.lookup f_name = some ⟨oc_name, od_name, .func (PySem.W.fnOf "is_name" "is_name" (defArgs s_is_name) (defBody s_is_name) (defScope s_is_name) .none kV_name dc_name pm_name an_name cd_name ct_name), sl_name⟩)
    (c_name : PySem.W.codeIn K cd_name "is_name" = true)
    (e_name : PySem.W.keepIn K (.ref f_name) = true)
    {f_msg : Addr}
    (g_msg : PySem.W.nsIn K mainGlobals "_is_message" = some (some (.ref f_msg)))
    {od_msg an_msg : Option Addr} {sl_msg : Array (Option Value)} {oc_msg kV_msg dc_msg pm_msg cd_msg ct_msg : Value}
    (l_msg : K.lookup f_msg = some ⟨oc_msg, od_msg, .func (PySem.W.fnOf "_is_message" "_is_message" (defArgs s__is_message) (defBody s__is_message) (defScope s__is_message) .none kV_msg dc_msg pm_msg an_msg cd_msg ct_msg), sl_msg⟩)
    (c_msg : PySem.W.codeIn K cd_msg "_is_message" = true)
    (e_msg : PySem.W.keepIn K (.ref f_msg) = true)
    {f_purse : Addr}
    (g_purse : PySem.W.nsIn K mainGlobals "_law_purse" = some (some (.ref f_purse)))
    {od_purse an_purse : Option Addr} {sl_purse : Array (Option Value)} {oc_purse kV_purse dc_purse pm_purse cd_purse ct_purse : Value}
    (l_purse : K.lookup f_purse = some ⟨oc_purse, od_purse, .func (PySem.W.fnOf "_law_purse" "_law_purse" (defArgs s__law_purse) (defBody s__law_purse) (defScope s__law_purse) .none kV_purse dc_purse pm_purse an_purse cd_purse ct_purse), sl_purse⟩)
    (c_purse : PySem.W.codeIn K cd_purse "_law_purse" = true)
    (e_purse : PySem.W.keepIn K (.ref f_purse) = true)
    {f_draw : Addr}
    (g_draw : PySem.W.nsIn K mainGlobals "_law_draw" = some (some (.ref f_draw)))
    {od_draw an_draw : Option Addr} {sl_draw : Array (Option Value)} {oc_draw kV_draw dc_draw pm_draw cd_draw ct_draw : Value}
    (l_draw : K.lookup f_draw = some ⟨oc_draw, od_draw, .func (PySem.W.fnOf "_law_draw" "_law_draw" (defArgs s__law_draw) (defBody s__law_draw) (defScope s__law_draw) .none kV_draw dc_draw pm_draw an_draw cd_draw ct_draw), sl_draw⟩)
    (c_draw : PySem.W.codeIn K cd_draw "_law_draw" = true)
    (e_draw : PySem.W.keepIn K (.ref f_draw) = true)
    {f_pick : Addr}
    (g_pick : PySem.W.nsIn K mainGlobals "_law_pick" = some (some (.ref f_pick)))
    {od_pick an_pick : Option Addr} {sl_pick : Array (Option Value)} {oc_pick kV_pick dc_pick pm_pick cd_pick ct_pick : Value}
    (l_pick : K.lookup f_pick = some ⟨oc_pick, od_pick, .func (PySem.W.fnOf "_law_pick" "_law_pick" (defArgs s__law_pick) (defBody s__law_pick) (defScope s__law_pick) .none kV_pick dc_pick pm_pick an_pick cd_pick ct_pick), sl_pick⟩)
    (c_pick : PySem.W.codeIn K cd_pick "_law_pick" = true)
    (e_pick : PySem.W.keepIn K (.ref f_pick) = true)
    {f_names : Addr}
    (g_names : PySem.W.nsIn K mainGlobals "_law_names" = some (some (.ref f_names)))
    {od_names an_names : Option Addr} {sl_names : Array (Option Value)} {oc_names kV_names dc_names pm_names cd_names ct_names : Value}
    (l_names : K.lookup f_names = some ⟨oc_names, od_names, .func (PySem.W.fnOf "_law_names" "_law_names" (defArgs s__law_names) (defBody s__law_names) (defScope s__law_names) .none kV_names dc_names pm_names an_names cd_names ct_names), sl_names⟩)
    (c_names : PySem.W.codeIn K cd_names "_law_names" = true)
    (e_names : PySem.W.keepIn K (.ref f_names) = true)
    {f_rows : Addr}
    (g_rows : PySem.W.nsIn K mainGlobals "_law_rows" = some (some (.ref f_rows)))
    {od_rows an_rows : Option Addr} {sl_rows : Array (Option Value)} {oc_rows kV_rows dc_rows pm_rows cd_rows ct_rows : Value}
    (l_rows : K.lookup f_rows = some ⟨oc_rows, od_rows, .func (PySem.W.fnOf "_law_rows" "_law_rows" (defArgs s__law_rows) (defBody s__law_rows) (defScope s__law_rows) .none kV_rows dc_rows pm_rows an_rows cd_rows ct_rows), sl_rows⟩)
    (c_rows : PySem.W.codeIn K cd_rows "_law_rows" = true)
    (e_rows : PySem.W.keepIn K (.ref f_rows) = true)
    {f_refused : Addr}
    (g_refused : PySem.W.nsIn K mainGlobals "_law_refused" = some (some (.ref f_refused)))
    {od_refused an_refused : Option Addr} {sl_refused : Array (Option Value)} {oc_refused kV_refused dc_refused pm_refused cd_refused ct_refused : Value}
    (l_refused : K.lookup f_refused = some ⟨oc_refused, od_refused, .func (PySem.W.fnOf "_law_refused" "_law_refused" (defArgs s__law_refused) (defBody s__law_refused) (defScope s__law_refused) .none kV_refused dc_refused pm_refused an_refused cd_refused ct_refused), sl_refused⟩)
    (c_refused : PySem.W.codeIn K cd_refused "_law_refused" = true)
    (e_refused : PySem.W.keepIn K (.ref f_refused) = true)
    {f_odd : Addr}
    (g_odd : PySem.W.nsIn K mainGlobals "_law_odd_right" = some (some (.ref f_odd)))
    {od_odd an_odd : Option Addr} {sl_odd : Array (Option Value)} {oc_odd kV_odd dc_odd pm_odd cd_odd ct_odd : Value}
    (l_odd : K.lookup f_odd = some ⟨oc_odd, od_odd, .func (PySem.W.fnOf "_law_odd_right" "_law_odd_right" (defArgs s__law_odd_right) (defBody s__law_odd_right) (defScope s__law_odd_right) .none kV_odd dc_odd pm_odd an_odd cd_odd ct_odd), sl_odd⟩)
    (c_odd : PySem.W.codeIn K cd_odd "_law_odd_right" = true)
    (e_odd : PySem.W.keepIn K (.ref f_odd) = true)
    {f_law : Addr}
    (g_law : PySem.W.nsIn K mainGlobals "law" = some (some (.ref f_law)))
    {od_law an_law : Option Addr} {sl_law : Array (Option Value)} {oc_law kV_law dc_law pm_law cd_law ct_law : Value}
    (l_law : K.lookup f_law = some ⟨oc_law, od_law, .func (PySem.W.fnOf "law" "law" (defArgs s_law) (defBody s_law) (defScope s_law) .none kV_law dc_law pm_law an_law cd_law ct_law), sl_law⟩)
    (c_law : PySem.W.codeIn K cd_law "law" = true)
    (e_law : PySem.W.keepIn K (.ref f_law) = true)
    (z_isinstance : PySem.W.nsIn K mainGlobals "isinstance" = some none)
    (z_int : PySem.W.nsIn K mainGlobals "int" = some none)
    (z_bool : PySem.W.nsIn K mainGlobals "bool" = some none)
    (z_str : PySem.W.nsIn K mainGlobals "str" = some none)
    (z_len : PySem.W.nsIn K mainGlobals "len" = some none)
    (z_all : PySem.W.nsIn K mainGlobals "all" = some none)
    (z_max : PySem.W.nsIn K mainGlobals "max" = some none)
    (z_range : PySem.W.nsIn K mainGlobals "range" = some none)
    (z_repr : PySem.W.nsIn K mainGlobals "repr" = some none)
    (z_tuple : PySem.W.nsIn K mainGlobals "tuple" = some none)
    (z_list : PySem.W.nsIn K mainGlobals "list" = some none) :
    ∃ fd : FuncData, (∀ (s : Shared) (u : Value), BindsTo s fd ⟨[u], []⟩ [("_law_script", u)]) ∧ ∀ base : Heap, K.In base → base.Ns mainGlobals mg → FnG l.prog w K mg base CX0 9 fa fd ["_law_script"] (spLaw K) := by
  have e := hfa.symm.trans (PySem.W.mg_of X G g_law)
  cases e
  let Tk : Tck K mg := { whole := ⟨f_whole, _, PySem.W.mg_of X G g_whole, fun_mk (st := s_is_whole) l_whole c_whole e_whole⟩, from_ := ⟨f_from, _, PySem.W.mg_of X G g_from, fun_mk (st := s_is_whole_from) l_from c_from e_from⟩, name := ⟨f_name, _, PySem.W.mg_of X G g_name, fun_mk (st := s_is_name) l_name c_name e_name⟩, msg := ⟨f_msg, _, PySem.W.mg_of X G g_msg, fun_mk (st := s__is_message) l_msg c_msg e_msg⟩, g_MOST := ⟨tm, PySem.W.mg_of X G g_most⟩, z_isinstance := PySem.W.mg_none_of X G z_isinstance, z_int := PySem.W.mg_none_of X G z_int, z_bool := PySem.W.mg_none_of X G z_bool, z_str := PySem.W.mg_none_of X G z_str, z_len := PySem.W.mg_none_of X G z_len, z_all := PySem.W.mg_none_of X G z_all }
  let Tm : Tms K mg := { T := Tk, C := C, I := I, E := E, dI := _, dE := _, g_Message := PySem.W.mg_of X G a_C, mkC := ⟨mk1, mk2, mk3, mk4⟩, cls := ⟨cl1, cl2, cl3, cl4⟩, FI := fun_mk (st := s_init) l_mI c_mI e_mI, FE := fun_mk (st := s_eq) l_mE c_mE e_mE, eqI := eqI, eqF := eqF, neI := neI, mo := mo, n_name := na_name, n_gap := na_gap, n_length := na_length, n_jitter := na_jitter, n_last := na_last, cc := cc, cw := ⟨cw1, cw2⟩, kit_m := kt_m, kit_t := kt_t, kit_n := kt_n, first_t := sb_t, first_n := sb_n, M := M, Mi := Mi, xM := xM, g_InvalidMessage := PySem.W.mg_of X G a_M }
  let Tr : Tre K mg := { S := Tm, W := W, g_W := PySem.W.mg_of X G a_W, exm := PySem.W.exm_ref ex1 ex2 ex3 ex4, kit_MM := kt_M, refused := ⟨f_refused, _, PySem.W.mg_of X G g_refused, fun_mk (st := s__law_refused) l_refused c_refused e_refused⟩, z_repr := PySem.W.mg_none_of X G z_repr, z_tuple := PySem.W.mg_none_of X G z_tuple, z_list := PySem.W.mg_none_of X G z_list }
  let To : Tod K mg := { R := Tr, odd := ⟨f_odd, _, PySem.W.mg_of X G g_odd, fun_mk (st := s__law_odd_right) l_odd c_odd e_odd⟩, z_range := PySem.W.mg_none_of X G z_range }
  let Tp : Tpu K mg := { purse := ⟨f_purse, _, PySem.W.mg_of X G g_purse, fun_mk (st := s__law_purse) l_purse c_purse e_purse⟩, draw := ⟨f_draw, _, PySem.W.mg_of X G g_draw, fun_mk (st := s__law_draw) l_draw c_draw e_draw⟩, pick := ⟨f_pick, _, PySem.W.mg_of X G g_pick, fun_mk (st := s__law_pick) l_pick c_pick e_pick⟩, z_len := PySem.W.mg_none_of X G z_len, z_max := PySem.W.mg_none_of X G z_max, z_int := PySem.W.mg_none_of X G z_int }
  let Tw : Tro K mg := { T := Tp, names := ⟨f_names, _, PySem.W.mg_of X G g_names, fun_mk (st := s__law_names) l_names c_names e_names⟩, rows := ⟨f_rows, _, PySem.W.mg_of X G g_rows, fun_mk (st := s__law_rows) l_rows c_rows e_rows⟩, z_range := PySem.W.mg_none_of X G z_range }
  let T : Tlw K mg := { O := To, ro := Tw, p_name := ⟨p_name, q_name, _, fun_mk (st := s_name) l_gname c_gname e_gname, ⟨pa_name, pb_name, pc_name, rest_name, pd_name⟩⟩, p_gap := ⟨p_gap, q_gap, _, fun_mk (st := s_gap) l_ggap c_ggap e_ggap, ⟨pa_gap, pb_gap, pc_gap, rest_gap, pd_gap⟩⟩, p_length := ⟨p_length, q_length, _, fun_mk (st := s_length) l_glength c_glength e_glength, ⟨pa_length, pb_length, pc_length, rest_length, pd_length⟩⟩, p_jitter := ⟨p_jitter, q_jitter, _, fun_mk (st := s_jitter) l_gjitter c_gjitter e_gjitter, ⟨pa_jitter, pb_jitter, pc_jitter, rest_jitter, pd_jitter⟩⟩, p_last := ⟨p_last, q_last, _, fun_mk (st := s_last) l_glast c_glast e_glast, ⟨pa_last, pb_last, pc_last, rest_last, pd_last⟩⟩ }
  exact ⟨_, fun s v => .of_eq rfl, fun base _ _ => ok_law T (fun_mk (st := s_law) l_law c_law e_law)⟩
theorem walk {l : PySem.W.OpenLaw} {q : Program} {loose : List Str} {XP : (Str → Option Value) → Heap → Prop} {YP : World → Heap → Prop} {d : DefRec} {K : Params → PySem.W.Frag} (hn : l.most = some 63) (hdf : d.params.defaults = [])
    (hY : ∀ (w : World) (h : Heap), YP w h → (K w.params).In h)
    (F : ∀ (w : World) (mg : Str → Option Value) (fa : Addr) (h : Heap), (K w.params).In h → h.Ns mainGlobals mg → mg d.name = some (.ref fa) →
      ∃ fd : FuncData, (∀ (s : Shared) (u : Value), BindsTo s fd ⟨[u], []⟩ [("_law_script", u)]) ∧ ∀ base : Heap, (K w.params).In base → base.Ns mainGlobals mg → FnG l.prog w (K w.params) mg base CX0 9 fa fd ["_law_script"] (spLaw (K w.params))) :
    PySem.W.WalkO q loose XP YP l.row.toRowW d [] (fun f vs => PySem.call f vs) :=
  walkG (n := 63) (sp := spLaw) hn (by decide) hdf ⟨rfl, by decide, by decide⟩ hY F fun K H a ns hl hS => ⟨a, ns, rfl, hS, hl, fun _ => rfl⟩
end K02
open PySem PySem.W PyProof.Rows
set_option maxRecDepth 100000 in
set_option maxHeartbeats 0 in
theorem PySem.Challenge.cw_wireranks_k02_messages_made_holds : PySem.Challenge.rw_wireranks_k02_messages_made.Holds := by
  w_on; o_law; k_head; (case hw => w_witness2)
  k_fill
  refine K02.walk (l := PySem.Challenge.rw_wireranks_k02_messages_made) rfl rfl (fun w h Y => PySem.W.kIn_of Y) ?F
  case F =>
    intro w mg fa h KX G hmg
    refine' K02.all_mk KX G hmg ?a_C ?a_M ?a_W ?xM ?mk1 ?mk2 ?mk3 ?mk4 ?cl1 ?cl2 ?cl3 ?cl4 ?eqI ?eqF ?neI ?mo ?na_name ?na_gap ?na_length ?na_jitter ?na_last ?cc ?cw1 ?cw2 ?kt_m ?kt_t ?kt_n ?kt_M ?sb_t ?sb_n ?ex1 ?ex2 ?ex3 ?ex4 ?g_most ?l_mI ?c_mI ?e_mI ?l_mE ?c_mE ?e_mE ?pa_name ?pb_name ?pc_name ?pd_name ?l_gname ?c_gname ?e_gname ?pa_gap ?pb_gap ?pc_gap ?pd_gap ?l_ggap ?c_ggap ?e_ggap ?pa_length ?pb_length ?pc_length ?pd_length ?l_glength ?c_glength ?e_glength ?pa_jitter ?pb_jitter ?pc_jitter ?pd_jitter ?l_gjitter ?c_gjitter ?e_gjitter ?pa_last ?pb_last ?pc_last ?pd_last ?l_glast ?c_glast ?e_glast ?g_whole ?l_whole ?c_whole ?e_whole ?g_from ?l_from ?c_from ?e_from ?g_name ?l_name ?c_name ?e_name ?g_msg ?l_msg ?c_msg ?e_msg ?g_purse ?l_purse ?c_purse ?e_purse ?g_draw ?l_draw ?c_draw ?e_draw ?g_pick ?l_pick ?c_pick ?e_pick ?g_names ?l_names ?c_names ?e_names ?g_rows ?l_rows ?c_rows ?e_rows ?g_refused ?l_refused ?c_refused ?e_refused ?g_odd ?l_odd ?c_odd ?e_odd ?g_law ?l_law ?c_law ?e_law ?z_isinstance ?z_int ?z_bool ?z_str ?z_len ?z_all ?z_max ?z_range ?z_repr ?z_tuple ?z_list
    (case a_C => k_is)
    (case a_M => k_is)
    (case a_W => k_is)
    (case xM => (refine' Wr.xcf_mk ?y_xL ?y_hbm ?y_sa ?y_ga ?y_gg ?y_nb ?y_a1 ?y_t1 ?y_l1 ?y_lT ?y_c1 ?y_k1 ?y_kC ?y_eC ?y_tC ?y_hC ?y_cc ?y_mo); (case y_xL => k_is); (case y_hbm => exact Wr.tail_ok); (case y_sa => k_is); (case y_ga => k_is); (case y_gg => k_is); (case y_nb => k_is); (case y_a1 => k_is); (case y_t1 => k_is); (case y_l1 => k_is); (case y_lT => k_is); (case y_c1 => k_is); (case y_k1 => k_is); (case y_kC => k_is); (case y_eC => k_is); (case y_tC => k_is); (case y_hC => k_is); (case y_cc => k_is); (case y_mo => k_is))
    (case mk1 => k_is)
    (case mk2 => k_is)
    (case mk3 => k_is)
    (case mk4 => k_is)
    (case cl1 => k_is)
    (case cl2 => k_is)
    (case cl3 => k_is)
    (case cl4 => k_is)
    (case eqI => k_is)
    (case eqF => k_is)
    (case neI => k_is)
    (case mo => k_is)
    (case na_name => k_is)
    (case na_gap => k_is)
    (case na_length => k_is)
    (case na_jitter => k_is)
    (case na_last => k_is)
    (case cc => k_is)
    (case cw1 => k_is)
    (case cw2 => k_is)
    (case kt_m => kit_is)
    (case kt_t => kit_is)
    (case kt_n => kit_is)
    (case kt_M => kit_is)
    (case sb_t => k_is)
    (case sb_n => k_is)
    (case ex1 => k_is)
    (case ex2 => k_is)
    (case ex3 => k_is)
    (case ex4 => k_is)
    (case g_most => k_is)
    (case l_mI => k_is)
    (case c_mI => k_is)
    (case e_mI => k_is)
    (case l_mE => k_is)
    (case c_mE => k_is)
    (case e_mE => k_is)
    (case pa_name => k_is)
    (case pb_name => k_is)
    (case pc_name => k_is)
    (case pd_name => k_is)
    (case l_gname => k_is)
    (case c_gname => k_is)
    (case e_gname => k_is)
    (case pa_gap => k_is)
    (case pb_gap => k_is)
    (case pc_gap => k_is)
    (case pd_gap => k_is)
    (case l_ggap => k_is)
    (case c_ggap => k_is)
    (case e_ggap => k_is)
    (case pa_length => k_is)
    (case pb_length => k_is)
    (case pc_length => k_is)
    (case pd_length => k_is)
    (case l_glength => k_is)
    (case c_glength => k_is)
    (case e_glength => k_is)
    (case pa_jitter => k_is)
    (case pb_jitter => k_is)
    (case pc_jitter => k_is)
    (case pd_jitter => k_is)
    (case l_gjitter => k_is)
    (case c_gjitter => k_is)
    (case e_gjitter => k_is)
    (case pa_last => k_is)
    (case pb_last => k_is)
    (case pc_last => k_is)
    (case pd_last => k_is)
    (case l_glast => k_is)
    (case c_glast => k_is)
    (case e_glast => k_is)
    (case g_whole => k_is)
    (case l_whole => k_is)
    (case c_whole => k_is)
    (case e_whole => k_is)
    (case g_from => k_is)
    (case l_from => k_is)
    (case c_from => k_is)
    (case e_from => k_is)
    (case g_name => k_is)
    (case l_name => k_is)
    (case c_name => k_is)
    (case e_name => k_is)
    (case g_msg => k_is)
    (case l_msg => k_is)
    (case c_msg => k_is)
    (case e_msg => k_is)
    (case g_purse => k_is)
    (case l_purse => k_is)
    (case c_purse => k_is)
    (case e_purse => k_is)
    (case g_draw => k_is)
    (case l_draw => k_is)
    (case c_draw => k_is)
    (case e_draw => k_is)
    (case g_pick => k_is)
    (case l_pick => k_is)
    (case c_pick => k_is)
    (case e_pick => k_is)
    (case g_names => k_is)
    (case l_names => k_is)
    (case c_names => k_is)
    (case e_names => k_is)
    (case g_rows => k_is)
    (case l_rows => k_is)
    (case c_rows => k_is)
    (case e_rows => k_is)
    (case g_refused => k_is)
    (case l_refused => k_is)
    (case c_refused => k_is)
    (case e_refused => k_is)
    (case g_odd => k_is)
    (case l_odd => k_is)
    (case c_odd => k_is)
    (case e_odd => k_is)
    (case g_law => k_is)
    (case l_law => k_is)
    (case c_law => k_is)
    (case e_law => k_is)
    (case z_isinstance => k_is)
    (case z_int => k_is)
    (case z_bool => k_is)
    (case z_str => k_is)
    (case z_len => k_is)
    (case z_all => k_is)
    (case z_max => k_is)
    (case z_range => k_is)
    (case z_repr => k_is)
    (case z_tuple => k_is)
    (case z_list => k_is)
