import PyProof.Rows.All
import Wide.All
import OpenK.AllK
import Wide.FinOn
import HandS.ForMost
import HandS.ExcInit
import HandS.ExcIs
import HandS.Defaults
import HandS.ExcField
import KE.KExcIs
import HandS.IsInst
import HandS.MakeKw
import HandS.Wide
import PyProof.StrBlock2
import PySem.Challenge.RW_wireranks_k01_errors_made
import HandS.Evl
import KE.RegKIsAll
set_option Elab.async false
set_option linter.all false
set_option maxRecDepth 100000
set_option maxHeartbeats 2000000
namespace Wr
open PySem PySem.Spec PyProof.Rows L2

/-! ### repr of data, with dicts -/
/-- no dict that is read is the table of modules -/
def NoMod (h : Heap) (as : List Addr) : Prop :=
  ∀ a, a ∈ as → ∀ o es n, h.get? a = some o → o.data = .dict es n → (a == sysModules) = false
theorem NoMod.sub {h : Heap} {as bs : List Addr} (x : NoMod h as) (s : ∀ b, b ∈ bs → b ∈ as) : NoMod h bs :=
  fun a m => x a (s a m)
section
variable {prog : Program} {w : World} {g : Heap}
mutual
theorem rk_one : ∀ {v : Value} {d : PyData} {as : List Addr}, Reads g v d as →
    d.showable = true → NoMod g as → d.shown.length ≤ sizeLine →
    ∃ bs, ReadAtMost g d.depth bs ∧ ReprK prog w bs g d.depth v d.shown
  | _, _, _, .none, _, _, _ => by
    refine ⟨[], (fun _ m => nomatch m), ?_⟩
    rw [PyData.shown]
    exact ReprK.of_is ReprIs.none _ _ _
  | _, _, _, .bool b, _, _, _ => by
    refine ⟨[], (fun _ m => nomatch m), ?_⟩
    rw [PyData.shown]
    exact ReprK.of_is (ReprIs.bool b) _ _ _
  | _, _, _, .int i t, hs, _, _ => by
    refine ⟨[], (fun _ m => nomatch m), ?_⟩
    rw [PyData.shown]
    have hi : i.natAbs.log2 < 1920 := by simpa [PyData.showable] using hs
    exact ReprK.of_is (ReprIs.int t hi) _ _ _
  | _, _, _, .str x t, _, _, hz => by
    refine ⟨[], (fun _ m => nomatch m), ?_⟩
    rw [PyData.shown] at hz ⊢
    exact ReprK.of_is (ReprIs.str x t hz) _ _ _
  | _, _, _, .list (a := a) (vs := vs) (xs := xs) e1 e2 e3 e4, hs, hm, hz => by
    rw [PyData.shown] at hz
    have hs' : PyData.showableAll xs = true := by simpa [PyData.showable] using hs
    obtain ⟨bs, hb, hk⟩ := rk_all e4 hs'
      (hm.sub fun b m => List.mem_cons_of_mem _ m) fun t ht => Nat.le_trans (listText_mem_le ht) hz
    have r := Reads.list e1 e2 e3 e4
    have hn : a ∉ bs := not_mem_of_deeper r (by rw [PyData.depth]; omega) hb
    refine ⟨a :: bs, ReadAtMost.cons r (by rw [PyData.depth]; omega) hb, ?_⟩
    rw [PyData.depth, PyData.shown]
    obtain ⟨l⟩ := vs
    match l, xs, e3, e4, hk with
    | [], [], e3, _, _ =>
      rw [PyData.shownAll, listText_nil]
      exact ReprK.listEmpty e1 e2 e3
    | x :: l, xs, e3, _, hk =>
      refine ReprK.list e1 e2 e3 hn ?_ ?_
      · simpa using hk.length_eq
      · intro i y e
        exact hk.item i y (by simpa using e)
  | _, _, _, .tuple (a := a) (xs := xs) e1 e2 e3 e4, hs, hm, hz => by
    rw [PyData.shown] at hz
    have hs' : PyData.showableAll xs = true := by simpa [PyData.showable] using hs
    obtain ⟨bs, hb, hk⟩ := rk_all e4 hs' hm
      fun t ht => Nat.le_trans (tupleText_mem_le ht) hz
    have r := Reads.tuple e1 e2 e3 e4
    have hn : a ∉ bs := not_mem_of_deeper r (by rw [PyData.depth]; omega) hb
    refine ⟨a :: bs, ReadAtMost.cons r (by rw [PyData.depth]; omega) hb, ?_⟩
    rw [PyData.depth, PyData.shown]
    exact ReprK.tuple e1 e2 e3 hn hk
  | _, _, _, .dict (a := a) (es := es) (kvs := kvs) (as := aa) (bs := ab) e1 e2 e3 e4 e5, hs, hm, hz => by
    rw [PyData.shown] at hz
    obtain ⟨s1, s2⟩ := PyData.showableKv_split kvs (by simpa [PyData.showable] using hs)
    obtain ⟨b1, hb1, k1⟩ := rk_all e4 s1
      (hm.sub fun b m => List.mem_cons_of_mem _ (List.mem_append_left _ m)) fun t ht => by
        obtain ⟨p, hp, hl⟩ := PyData.shownKv_key_le kvs t ht
        exact Nat.le_trans hl (Nat.le_trans (dictText_mem_le hp) hz)
    obtain ⟨b2, hb2, k2⟩ := rk_all e5 s2
      (hm.sub fun b m => List.mem_cons_of_mem _ (List.mem_append_right _ m)) fun t ht => by
        obtain ⟨p, hp, hl⟩ := PyData.shownKv_val_le kvs t ht
        exact Nat.le_trans hl (Nat.le_trans (dictText_mem_le hp) hz)
    have r := Reads.dict e1 e2 e3 e4 e5
    have hb : ReadAtMost g (PyData.depthKv kvs) (b1 ++ b2) :=
      (hb1.mono (PyData.depthAll_keys_le kvs)).append (hb2.mono (PyData.depthAll_vals_le kvs))
    have hn : a ∉ b1 ++ b2 := not_mem_of_deeper r (by rw [PyData.depth]; omega) hb
    have hq : (a == sysModules) = false := hm a (List.mem_cons_self ..) _ _ _ e1 e3
    refine ⟨a :: (b1 ++ b2), ReadAtMost.cons r (by rw [PyData.depth]; omega) hb, ?_⟩
    rw [PyData.depth, PyData.shown, PyData.shownKv_eq]
    refine ReprK.dict e1 e2 e3 hq hn (ReprEntriesK.of_two es.toList _ _ ?_ ?_)
    · exact k1.more_le (fun b m => List.mem_append_left _ m) (PyData.depthAll_keys_le kvs)
    · exact k2.more_le (fun b m => List.mem_append_right _ m) (PyData.depthAll_vals_le kvs)
theorem rk_all : ∀ {vs : List Value} {ds : List PyData} {as : List Addr}, ReadsAll g vs ds as →
    PyData.showableAll ds = true → NoMod g as → (∀ t ∈ PyData.shownAll ds, t.length ≤ sizeLine) →
    ∃ bs, ReadAtMost g (PyData.depthAll ds) bs ∧
      ReprAllK prog w bs g (PyData.depthAll ds) vs (PyData.shownAll ds)
  | _, _, _, .nil, _, _, _ => by
    refine ⟨[], (fun _ m => nomatch m), ?_⟩
    rw [PyData.shownAll]
    exact ReprAllK.nil
  | _, _, _, .cons (d := d) (ds := ds) r rs, hs, hm, hz => by
    rw [PyData.shownAll] at hz
    have hs' : d.showable = true ∧ PyData.showableAll ds = true := by simpa [PyData.showableAll] using hs
    obtain ⟨b1, hb1, k1⟩ := rk_one r hs'.1 (hm.sub fun b m => List.mem_append_left _ m)
      (hz _ (List.mem_cons_self ..))
    obtain ⟨b2, hb2, k2⟩ := rk_all rs hs'.2 (hm.sub fun b m => List.mem_append_right _ m)
      fun t ht => hz t (List.mem_cons_of_mem _ ht)
    rw [PyData.depthAll, PyData.shownAll]
    refine ⟨b1 ++ b2, ?_, ?_⟩
    · intro b hm
      rcases List.mem_append.mp hm with q | q
      · exact hb1.mono (Nat.le_max_left _ _) b q
      · exact hb2.mono (Nat.le_max_right _ _) b q
    · refine ReprAllK.cons ?_ ?_
      · exact (k1.more fun b m => List.mem_append_left _ m).level_le (Nat.le_max_left _ _)
      · exact k2.more_le (fun b m => List.mem_append_right _ m) (Nat.le_max_right _ _)
end
end
end Wr
set_option Elab.async false
set_option linter.all false
set_option maxRecDepth 100000
set_option maxHeartbeats 2000000
namespace Wr
open PySem PySem.Spec PyProof.Rows L2

/-! ### data of the abstract heap, dicts too -/
def kD : Key → PyData
  | .inl i => .int i
  | .inr x => .str x
mutual
inductive Dr (K : PySem.W.Frag) (H : Hp) : V → PyData → Prop
  | non : Dr K H .non .none
  | bl (b : Bool) : Dr K H (.bl b) (.bool b)
  | int (i : Int) : Dr K H (.int i) (.int i)
  | str (x : Str) : Dr K H (.str x) (.str x)
  | lst {a : Addr} {xs : List V} {ds : List PyData} : SqL K H a xs → DrAll K H xs ds → Dr K H (.ref a) (.list ds)
  | tup {a : Addr} {xs : List V} {ds : List PyData} : SqT K H a xs → DrAll K H xs ds → Dr K H (.ref a) (.tuple ds)
  | dct {a : Addr} {kvs : List (Key × V)} {ds : List PyData} : H a = some (.dK kvs) → DrAll K H (kvs.map (·.2)) ds →
      Dr K H (.ref a) (.dict ((kvs.map fun p => kD p.1).zip ds))
inductive DrAll (K : PySem.W.Frag) (H : Hp) : List V → List PyData → Prop
  | nil : DrAll K H [] []
  | cons {v : V} {vs : List V} {d : PyData} {ds : List PyData} : Dr K H v d → DrAll K H vs ds → DrAll K H (v :: vs) (d :: ds)
end
theorem DrAll.len {K : PySem.W.Frag} {H : Hp} : ∀ {vs : List V} {ds : List PyData}, DrAll K H vs ds → vs.length = ds.length
  | _, _, .nil => rfl
  | _, _, .cons _ r => congrArg Nat.succ r.len
theorem nomod_list {h : Heap} {a : Addr} {o : Obj} {vs : Array Value} {n : Nat} {as : List Addr} (e : h.get? a = some o)
    (d : o.data = .seq vs n) (x : NoMod h as) : NoMod h (a :: as) := by
  intro b m ob es k eb db
  rcases List.mem_cons.mp m with q | q
  · subst q
    rw [e] at eb
    cases eb
    rw [d] at db
    cases db
  · exact x b q ob es k eb db
theorem nomod_app {h : Heap} {as bs : List Addr} (x : NoMod h as) (y : NoMod h bs) : NoMod h (as ++ bs) := fun a m =>
  (List.mem_append.mp m).elim (x a) (y a)
theorem reads_keys {h : Heap} {P : Program} {w : World} : ∀ {es : List DictEntry} {vs : List (Key × Value)}, Pairs (mixKind P w) es vs →
    ReadsAll h (es.map (·.key)) (vs.map fun p => kD p.1) []
  | _, _, .nil => .nil
  | _, _, .cons hk _ hr => by
    have ih := reads_keys (h := h) hr
    rw [List.map_cons, List.map_cons]
    rcases keyIs_shape hk with ⟨i, t, e1, e2⟩ | ⟨x, t, e1, e2⟩
    · rw [e2, e1]
      exact ReadsAll.cons (as := []) (Reads.int i t) ih
    · rw [e2, e1]
      exact ReadsAll.cons (as := []) (Reads.str x t) ih
theorem pairs_vals {P : Program} {w : World} : ∀ {es : List DictEntry} {vs : List (Key × Value)}, Pairs (mixKind P w) es vs →
    es.map (·.val) = vs.map (·.2)
  | _, _, .nil => rfl
  | _, _, .cons _ hv hr => by
    rw [List.map_cons, List.map_cons, pairs_vals hr, hv]
theorem kv_keys : ∀ {kvs : List (Key × V)} {vs : List (Key × Value)}, KV kvs vs → (kvs.map fun p => kD p.1) = vs.map fun p => kD p.1
  | _, _, .nil => rfl
  | _, _, .cons r t => by
    rw [List.map_cons, List.map_cons, kv_keys t, r.1]
theorem kv_vals : ∀ {kvs : List (Key × V)} {vs : List (Key × Value)}, KV kvs vs → Vals (kvs.map (·.2)) (vs.map (·.2))
  | _, _, .nil => .nil
  | _, _, .cons r t => .cons r.2 (kv_vals t)
theorem map_fst_zip {α β : Type} : ∀ {l : List α} {m : List β}, l.length = m.length → (l.zip m).map (·.1) = l
  | [], _, _ => by simp
  | a :: l, [], h => by simp at h
  | a :: l, b :: m, h => by
    rw [List.zip_cons_cons, List.map_cons, map_fst_zip (Nat.succ.inj h)]
theorem map_snd_zip {α β : Type} : ∀ {l : List α} {m : List β}, l.length = m.length → (l.zip m).map (·.2) = m
  | [], [], _ => rfl
  | [], b :: m, h => by simp at h
  | a :: l, [], h => by simp at h
  | a :: l, b :: m, h => by
    rw [List.zip_cons_cons, List.map_cons, map_snd_zip (Nat.succ.inj h)]
section
variable {X : Cx} {pins : List (Addr × Obj)} {σ : L2.St} {H : Hp} {s : Shared}
mutual
theorem Dr.reads (I : Inv X pins σ H s) : ∀ {v : V} {d : PyData} (u : Value), Dr X.K H v d → RelV v u →
    ∃ as, Reads s.heap u d as ∧ NoMod s.heap as
  | _, _, _, .non, r => by
    cases r
    exact ⟨_, .none, fun _ m => nomatch m⟩
  | _, _, _, .bl b, r => by
    cases r
    exact ⟨_, .bool b, fun _ m => nomatch m⟩
  | _, _, _, .int i, r => by
    obtain ⟨t, rfl⟩ := r
    exact ⟨_, .int i t, fun _ m => nomatch m⟩
  | _, _, _, .str x, r => by
    obtain ⟨t, rfl⟩ := r
    exact ⟨_, .str x t, fun _ m => nomatch m⟩
  | _, _, _, .lst hs ha, r => by
    cases r
    obtain ⟨its, rv, ⟨o, n, ho, hc, _, hd⟩, _⟩ := I.list hs
    obtain ⟨as, q, nm⟩ := DrAll.reads I its ha rv
    exact ⟨_, .list ho hc hd q, nomod_list ho hd nm⟩
  | _, _, _, .tup hs ha, r => by
    cases r
    obtain ⟨its, rv, ⟨o, ho, hc, n, hd⟩, _⟩ := I.tuple hs
    obtain ⟨as, q, nm⟩ := DrAll.reads I its ha rv
    exact ⟨_, .tuple ho hc hd q, nm⟩
  | _, _, _, .dct (a := a) (kvs := kvs) (ds := ds) e ha, r => by
    cases r
    obtain ⟨_, hsys, vs, rel, o, es, ep, ho, hx, hd, _, hp, _⟩ := dk_of I.hok e
    obtain ⟨bs, q, nm⟩ := DrAll.reads I (vs.map (·.2)) ha (kv_vals rel)
    have hl : (kvs.map fun p => kD p.1).length = ds.length := by
      rw [List.length_map, ← ha.len, List.length_map]
    have rk : ReadsAll s.heap (es.toList.map (·.key)) (((kvs.map fun p => kD p.1).zip ds).map (·.1)) [] := by
      rw [map_fst_zip hl, kv_keys rel]
      exact reads_keys hp
    have rd : ReadsAll s.heap (es.toList.map (·.val)) (((kvs.map fun p => kD p.1).zip ds).map (·.2)) bs := by
      rw [map_snd_zip hl, pairs_vals hp]
      exact q
    refine ⟨_, .dict ho hx.1 hd rk rd, ?_⟩
    intro b m ob es' k eb db
    rcases List.mem_cons.mp m with z | z
    · rw [z]
      exact hsys
    · exact nm b z ob es' k eb db
theorem DrAll.reads (I : Inv X pins σ H s) : ∀ {vs : List V} {ds : List PyData} (us : List Value), DrAll X.K H vs ds → Vals vs us →
    ∃ as, ReadsAll s.heap us ds as ∧ NoMod s.heap as
  | _, _, _, .nil, r => by
    cases r
    exact ⟨_, .nil, fun _ m => nomatch m⟩
  | _, _, _, .cons h1 h2, r => by
    cases r with
    | cons r1 r2 =>
      obtain ⟨as, q1, n1⟩ := Dr.reads I _ h1 r1
      obtain ⟨bs, q2, n2⟩ := DrAll.reads I _ h2 r2
      exact ⟨_, .cons q1 q2, nomod_app n1 n2⟩
end
/-- repr of a list or a tuple -/
theorem repr_run {A : Around} {E : Value → Shared → Prop} {Q : Value → Shared → Prop} {a : Addr} {d : PyData} {as : List Addr} {prog : Program} {w : World}
    (r : Reads s.heap (.ref a) d as) (nm : NoMod s.heap as) (nd : ∀ kvs, d ≠ .dict kvs) (hs : d.showable = true) (hg : A.guards = some []) (hu : A.units + (d.depth + 1) < cLine)
    (hz : d.shown.length ≤ sizeLine)
    (hQ : ∀ h' u tk, (∀ b o, s.heap.get? b = some o → h'.get? b = some o) → Q (.str d.shown u) { s with heap := h', toks := tk }) :
    wpAny (model prog w) A (call (.builtin "repr") [.ref a]) Q E s := by
  have hg1 : A.in1.guards = some [] := hg
  cases r with
  | @list _ o vs n xs as' e1 e2 e3 e4 =>
    rw [PyData.shown] at hz hQ
    rw [PyData.depth] at hu
    have hs' : PyData.showableAll xs = true := by simpa [PyData.showable] using hs
    obtain ⟨bs, hb, hk⟩ := rk_all (prog := prog) (w := w) e4 hs' (nm.sub fun b m => List.mem_cons_of_mem _ m)
      fun t ht => Nat.le_trans (listText_mem_le ht) hz
    have hn : a ∉ bs := not_mem_of_deeper (Reads.list e1 e2 e3 e4) (by rw [PyData.depth]; omega) hb
    refine call_repr_slot (by omega) ⟨o, e1, e2⟩ F.slot_list_repr.toG ?_
    obtain ⟨l⟩ := vs
    match l, xs, e3, e4, hk with
    | [], [], e3, _, _ =>
      rw [PyData.shownAll, listText_nil] at hQ
      exact call_list_repr_empty ⟨o, e1, e2⟩ e1 e3 ⟨_, _, rfl, hQ s.heap _ _ fun _ _ z => z⟩
    | x :: l, xs, e3, _, hk =>
      refine call_list_reprK e1 e2 e3 hn (by simpa using hk.length_eq) (fun i y e => hk.item i y (by simpa using e)) hg1
        (fun b _ => Clear.nil b) (by show A.units + 1 + _ < cLine; omega) (fun _ _ z => z) (fun h' u tk k => ⟨_, _, rfl, hQ h' u tk k⟩) hz
  | @tuple _ o vs n xs _ e1 e2 e3 e4 =>
    rw [PyData.shown] at hz hQ
    rw [PyData.depth] at hu
    have hs' : PyData.showableAll xs = true := by simpa [PyData.showable] using hs
    obtain ⟨bs, hb, hk⟩ := rk_all (prog := prog) (w := w) e4 hs' nm fun t ht => Nat.le_trans (tupleText_mem_le ht) hz
    have hn : a ∉ bs := not_mem_of_deeper (Reads.tuple e1 e2 e3 e4) (by rw [PyData.depth]; omega) hb
    refine call_repr_slot (by omega) ⟨o, e1, e2⟩ F.slot_tuple_repr ?_
    exact call_tuple_reprK e1 e2 e3 hn hk hg1 (fun b _ => Clear.nil b) (by show A.units + 1 + _ < cLine; omega)
      (fun _ _ z => z) (fun h' u tk k => ⟨_, _, rfl, hQ h' u tk k⟩) hz
  | dict e1 e2 e3 e4 e5 => exact absurd rfl (nd _)
end
/-- repr(x), x a list or a tuple of data -/
def rRepr (K : PySem.W.Frag) : List V → Hp → VK → Prop := fun xs H Q => ∃ (a : Addr) (d : PyData), xs = [.ref a] ∧ Dr K H (.ref a) d ∧
  (∀ kvs, d ≠ .dict kvs) ∧ d.showable = true ∧ d.depth ≤ 60 ∧ d.shown.length ≤ sizeLine ∧ Q (.str d.shown) H
theorem call_repr {X : Cx} (hg : X.A.guards = some []) (hu : X.A.units + 64 < cLine) : CallR X (.builtin "repr") (rRepr X.K) := by
  intro pins s σ H xs us Q I r h
  obtain ⟨a, d, rfl, hd, nd, hs, hp, hz, q⟩ := h
  obtain ⟨u, rfl, r1⟩ := vals1 r
  obtain ⟨as, rd, nm⟩ := hd.reads I u r1
  obtain rfl : u = Value.ref a := r1
  exact repr_run rd nm nd hs hg (by omega) hz fun h' t tk k => ⟨.str d.shown, H, I.kept k, ⟨t, rfl⟩, q⟩

/-! ### defs whose callers leave no guard -/
structure FnG (P : Program) (w : World) (K : PySem.W.Frag) (mg : Str → Option Value) (base : Heap) (CX : CXT) (k : Nat) (f : Addr)
    (fd : FuncData) (ps : List Str) (sp : Sp) : Prop where
  len : ∀ vs H Q E, sp vs H Q E → vs.length = ps.length
  run : ∀ (A : Around) (outer : List Env) (s : Shared) (H : Hp) (args : Args) (us : List Value) (vs : List V) (Q : VK) (E : XK),
    A.guards = some [] → Room k A → Env0 P w K mg base A outer s H → BindsTo s fd args (ps.zip us) → Vals vs us → sp vs H Q E →
    codeAny (model P w) A (.call (.ref f) args) (CR CX outer P w H s Q E) s
section
variable {CX : CXT} {P : Program} {w : World} {K : PySem.W.Frag} {mg : Str → Option Value} {base : Heap} {k : Nat} {f : Addr} {sp : Sp}
theorem FnG.mono {j : Nat} {fd : FuncData} {ps : List Str} (F : FnG P w K mg base CX j f fd ps sp) (h : j ≤ k) : FnG P w K mg base CX k f fd ps sp :=
  ⟨F.len, fun A o s H a us vs Q E g r => F.run A o s H a us vs Q E g (r.mono h)⟩
theorem _root_.L2.FnOk.toG {fd : FuncData} {ps : List Str} (F : FnOk P w K mg base CX k f fd ps sp) : FnG P w K mg base CX k f fd ps sp :=
  ⟨F.len, fun A o s H a us vs Q E _ r => F.run A o s H a us vs Q E r⟩
/-- a def by its body -/
theorem fnG_of {name qual : Str} {params : Arguments} {body : List Stmt} {scope : Scope} {dV kV doc pm cdv ct oc : Value} {an od : Option Addr} {osl : Array (Option Value)} {N ps : List Str}
    (lk : K.lookup f = some ⟨oc, od, .func (PySem.W.fnOf name qual params body scope dV kV doc pm an cdv ct), osl⟩)
    (hcd : PySem.W.codeIn K cdv qual = true) (S : FnScope N ps scope) (len : ∀ vs H Q E, sp vs H Q E → vs.length = ps.length)
    (hbody : ∀ (A : Around) (outer : List Env) (s : Shared) (H : Hp) (vs : List V) (Q : VK) (E : XK), A.guards = some [] →
      Room k (A.deeper (envOfC qual scope s.heap.objs.size f cdv)) → sp vs H Q E →
      ∃ t, PSs (cxOf CX P w K mg base N qual scope f cdv A outer s H E) body t ∧ t { nx := fun _ H' => Q .non H', rt := Q } (start N vs) H) :
    FnG P w K mg base CX (k + 1) f (PySem.W.fnOf name qual params body scope dV kV doc pm an cdv ct) ps sp := by
  refine ⟨len, ?_⟩
  intro A outer s H args us vs Q E hg hr e0 hb r hsp
  have hl : vs.length = ps.length := len vs H Q E hsp
  have kin : K.In s.heap := e0.mod.kin.keeps fun b o e => (e0.bs b o e).1
  have hlim : s.heap.NoLimit := e0.mod.nolimit.keeps fun b o e => (e0.bs b o e).1
  refine codeAny_call_function hr.depth (kin f _ lk) rfl S.co S.gen rfl (PySem.W.codeRec_of kin hcd) ?_
  refine hb _ _ _ _ ?_
  refine wpAny_newFunctionEnv_cells S.kind ?_ ?_
  · rintro ⟨n, v⟩ hy
    rcases S.par n (List.of_mem_zip hy).1 with q | q
    · exact Or.inl q
    · exact Or.inr ⟨q, PySem.W.cellsFrom_some _ _ _ (Or.inl q)⟩
  · rintro env rfl s1 x
    refine ⟨hlim.keeps x.toInCall.keep, codeAny_func ?_⟩
    obtain ⟨t, ht, hq⟩ := hbody A outer s H vs Q E hg (hr.deeper _) hsp
    have I0 : Inv (cxOf CX P w K mg base N qual scope f cdv A outer s H E) [] (start N vs) H s1 := inv_start S hr.hd e0 hl r x
    refine wpAny_mono (ht.run [] s1 (start N vs) H _ I0 hq) ?_ (fun _ _ z => z)
    intro fl s2 hs
    match fl, hs with
    | .ret u, ⟨v, σ2, H2, J, rv, q⟩ => exact ⟨v, H2, J.os, J.bare, J.base, J.hok, rv, q⟩
    | .next, ⟨σ2, H2, J, q⟩ => exact ⟨.non, H2, J.os, J.bare, J.base, J.hok, rfl, q⟩
    | .brk, ⟨_, _, _, q⟩ => exact False.elim q
    | .cont, ⟨_, _, _, q⟩ => exact False.elim q
theorem fun_okG {x qual : Str} {st : Stmt} {fd : FuncData} {N ps : List Str} (F : Fun K x qual st f fd) (S : FnScope N ps (defScope st)) (len : ∀ vs H Q E, sp vs H Q E → vs.length = ps.length)
    (hbody : ∀ (cdv : Value) (A : Around) (outer : List Env) (s : Shared) (H : Hp) (vs : List V) (Q : VK) (E : XK), A.guards = some [] →
      Room k (A.deeper (envOfC qual (defScope st) s.heap.objs.size f cdv)) → sp vs H Q E →
      ∃ t, PSs (cxOf CX0 P w K mg base N qual (defScope st) f cdv A outer s H E).nox (defBody st) t ∧ t { nx := fun _ H' => Q .non H', rt := Q } (start N vs) H) :
    FnG P w K mg base CX0 (k + 1) f fd ps sp := by
  obtain ⟨oc, od, kV, doc, pm, an, cdv, ct, osl, rfl, lk, hcd⟩ := F.ex
  refine fnG_of lk hcd S len fun A outer s H vs Q E hg hr hsp => ?_
  obtain ⟨t, h, q⟩ := hbody cdv A outer s H vs Q E hg hr hsp
  exact ⟨t, h.nox, q⟩
end
section
variable {X : Cx} {CX : CXT} {k : Nat} {f : Addr} {fd : FuncData} {ps : List Str} {sp : Sp} {dvs : List V} {ds : List Value} {E : XK} {x : Str} {p pos : Pos} {e : Expr} {es : List Expr} {t : TA}
theorem runG {pins : List (Addr × Obj)} {σ : L2.St} {H : Hp} {s : Shared} {Q : VK} {us : List Value} {vs : List V} (F : FnG X.prog X.w X.K X.mg X.base CX k f fd ps sp) (hg : X.A.guards = some []) (hr : Room k X.A)
    (hb : Binds X.K fd ps ds) (hd : Vals dvs ds) (hx : Passes CX X E) (I : Inv X pins σ H s) (r : Vals vs us) (h : sp (vs ++ dvs) H Q E) :
    wpAny (model X.prog X.w) X.A (call (.ref f) us) (EP X pins σ Q) X.xe s := by
  have r2 := Vals.append r hd
  have hl : (us ++ ds).length = ps.length := r2.length.symm.trans (F.len _ _ _ _ h)
  refine wpAny_call (codeAny_mono (F.run X.A X.stack s H ⟨us, []⟩ (us ++ ds) (vs ++ dvs) Q E hg hr I.env0 (hb s us I.kIn hl) r2 h) ?_)
  intro r' s' hq
  match r', hq with
  | .error er, hq => exact hx pins σ H s er s' I hq
  | .ok (.ret u), hq => exact I.after hq
  | .ok .next, hq => exact False.elim hq
  | .ok .brk, hq => exact False.elim hq
  | .ok .cont, hq => exact False.elim hq
/-- f(e, ..) -/
theorem pe_callG (F : FnG X.prog X.w X.K X.mg X.base CX k f fd ps sp) (hgd : X.A.guards = some []) (hr : Room k X.A) (hg : Gl X x) (hm : X.mg x = some (.ref f)) (hk : PySem.W.keepIn X.K (.ref f) = true) (hb : Binds X.K fd ps ds) (hd : Vals dvs ds) (hx : Passes CX X E)
    (ha : PA X (e :: es) t) (hdb : (x == ("__debug__" : Str)) = false := by decide) (he : starEach (e :: es) X.env = (false, eval e X.env) :: starEach es X.env := by rfl) (hpl : (backTo pos (starEach es X.env)).any (·.1) = false := by rfl) :
    PE X (.Call (.Name x p) (e :: es) [] pos) (tCall sp dvs E t) := by
  refine ⟨fun pins s σ H Q I h => wpAny_Call_Name_kw (ld_glob I hg hm ?_ hdb)⟩
  refine PySem.W.callWith_K (h₀ := X.base) I.ok.mod.kin hk (thn (ha.run pos pins s σ H _ I h) ?_) he hpl
  rintro us s1 ⟨vs, H1, I1, r1, q1⟩
  exact ⟨I1.kIn, runG F hgd hr hb hd hx I1 r1 q1⟩
end
end Wr
set_option Elab.async false
set_option linter.all false
set_option maxRecDepth 100000
set_option maxHeartbeats 4000000
namespace Wr
open PySem PySem.HandSPX
open PySem.Builtin PySem.Builtin.ObjectAttr
section
variable {M : Model} {A : Around} {E : Value → Shared → Prop} {h : Heap} {g : Array GenState} {d : Drawn} {t : Nat} {os : OsState}
variable {nm q : Str} {C N : Addr} {bs bm bmB : List Value} {hdct : Bool} {sn : List Str} {sub : List Value} {ab : Bool} {col : Option Bool} {dd : Option Addr} {k0 k1 k2 k3 k5 : Option Value} {B newId initId : String}
theorem newK_check (F : ExcBaseFacts B newId initId bmB) (hT : ∀ X : String, bm.contains (.type X) = bmB.contains (.type X)) {rest : List Value} {kw : List (Str × Value)} {Q : Unit → Shared → Prop}
    (hC : h.get? C = some (excClassObj nm q C N bs bm hdct sn sub ab col dd k0 k1 k2 k3 k5 newId)) (hq : Q () ⟨h, g, d, t, os⟩) :
    wpAny M A (checkBuiltinCall newId ⟨.ref C :: rest, kw⟩) Q E ⟨h, g, d, t, os⟩ := by
  have c1 : (Value.ref C :: bm).contains (.type B) = true := by
    rw [List.contains_cons, hT, F.hasB, Bool.or_true]
  have c2 := F.noStar
  simp only [checkBuiltinCall, F.newKind, F.newSplit, F.newRow]
  repeat (first
    | refine wpAny_loadPart_at hC ?_
    | (refine wpAny_isSubtype_exc hC ?_; rw [c1])
    | refine wpAny_staticBase_exc hC ?_
    | refine wpAny_madeBy_exc hC ?_
    | simp only [bne_self_eq_false, Bool.false_eq_true, if_false]
    | wp_step)
  exact hq
theorem typeK_check {rest : List Value} {kw : List (Str × Value)} {Q : Unit → Shared → Prop} (hC : h.get? C = some (excClassObj nm q C N bs bm hdct sn sub ab col dd k0 k1 k2 k3 k5 newId))
    (hq : Q () ⟨h, g, d, t, os⟩) : wpAny M A (checkBuiltinCall "type.__call__" ⟨.ref C :: rest, kw⟩) Q E ⟨h, g, d, t, os⟩ := by
  have f3 := tc_sub
  have hT : (⟨h, g, d, t, os⟩ : Shared).TypeIs (.ref C) "type" := ⟨_, hC, rfl⟩
  simp only [checkBuiltinCall, tc_kind, tc_split]
  repeat (any_goals (first
    | assumption
    | with_reducible refine wpAny_loadPart_at hC ?_
    | with_reducible refine wpAny_onRaise ?_
    | with_reducible refine wpAny_map ?_
    | wp_step))
end
section
variable {prog : Program} {w : World} {A : Around} {E : Value → Shared → Prop} {R : Result → Shared → Prop} {h : Heap} {g : Array GenState} {d : Drawn} {t : Nat} {os : OsState}
variable {nm q : Str} {C N : Addr} {bs bm bmB : List Value} {hdct : Bool} {sn : List Str} {sub : List Value} {ab : Bool} {col : Option Bool} {dd : Option Addr} {k0 k1 k2 k3 k5 : Option Value} {B newId initId : String}
theorem newK_run (F : ExcBaseFacts B newId initId bmB) (hT : ∀ X : String, bm.contains (.type X) = bmB.contains (.type X)) {rest : List Value} {kw : List (Str × Value)}
    (hC : h.get? C = some (excClassObj nm q C N bs bm hdct sn sub ab col dd k0 k1 k2 k3 k5 newId))
    (hq : R (.ok (.ret (.ref (h.objs.size + 1)))) ⟨(h.push (W.kdv_tup rest)).push (excO C h.objs.size), g, d, t, os⟩) (hrest : rest.length ≤ sizeLine) :
    codeAny (model prog w) A (.builtin newId ⟨.ref C :: rest, kw⟩) R ⟨h, g, d, t, os⟩ := by
  have hends := F.ends
  have c1 : (Value.ref C :: bm).contains (.type B) = true := by
    rw [List.contains_cons, hT, F.hasB, Bool.or_true]
  have c2 : (Value.ref C :: bm).contains (.type "AttributeError") = false := by
    rw [List.contains_cons, hT, F.noAttr]
    rfl
  have c3 : (Value.ref C :: bm).contains (.type "NameError") = false := by
    rw [List.contains_cons, hT, F.noName]
    rfl
  refine codeAny_builtinAt F.entry ?_
  unfold Builtin.«BaseException.__new__»
  refine wpAt_bind ?_
  show wpAt _ _ _ (stack >>= _) _ _ _
  refine wpAt_bind (wpAt_stack fun p below => ?_)
  refine wpAt_of_wpAny ?_
  wp_walk
  refine wpAt_of_wpAny ?_
  rw [F.owner]
  repeat (first
    | with_reducible refine wpAny_madeHere_exc F.canon hC ?_
    | with_reducible refine wpAny_loadPart_at hC ?_
    | (with_reducible refine wpAny_isSubtype_exc hC ?_; first | rw [c1] | rw [c2] | rw [c3])
    | wp_step)
  show R _ _
  rw [Heap.size_push]
  exact hq
theorem typeK_run (F : ExcBaseFacts B newId initId bmB) (hT : ∀ X : String, bm.contains (.type X) = bmB.contains (.type X)) {rest : List Value} {kw : List (Str × Value)} {fI : Addr} {Q : Fin → Shared → Prop}
    (hC : h.get? C = some (excClassObj nm q C N bs bm hdct sn sub ab col dd k0 k1 k2 k3 k5 newId))
    (hi : W.Looks (model prog w) h (typeLookup (.ref C) "__init__") (some (.ref fI))) (hb : ∀ self, W.Looks (model prog w) h (bindSpecial (.ref fI) self) (.ref fI, [self])) (hrest : rest.length ≤ sizeLine)
    (hq : codeAny (model prog w) A (.call (.ref fI) ⟨.ref (h.objs.size + 1) :: rest, kw⟩)
      (fun r s' => match r with | .ok (.ret v) => v = .none ∧ Q (.done (.ret (.ref (h.objs.size + 1)))) s' | .ok _ => False | .error e => E e s')
      ⟨(h.push (W.kdv_tup rest)).push (excO C h.objs.size), g, d, t, os⟩) :
    wpAny (model prog w) A (Builtin.«type.__call__» ⟨.ref C :: rest, kw⟩) Q E ⟨h, g, d, t, os⟩ := by
  repeat (first
    | with_reducible refine wpAny_loadPart_at hC ?_
    | with_reducible refine wpAny_madeBy_exc hC ?_
    | wp_step)
  refine codeAny_call_builtin_code (Code.quiet_builtin _ F.quiet) (newK_check F hT hC ?_)
  refine newK_run F hT hC ?_ hrest
  show wpAny _ _ _ _ _ _
  have k : ∀ b o, h.get? b = some o → ((h.push (W.kdv_tup rest)).push (excO C h.objs.size)).get? b = some o :=
    fun b o e => Heap.get?_push_of_some _ (Heap.get?_push_of_some _ e)
  have hC1 := k _ _ hC
  have hgt : ((h.push (W.kdv_tup rest)).push (excO C h.objs.size)).get? (h.objs.size + 1) = some (excO C h.objs.size) := by heap_get
  have cc : (Value.ref C :: bm).contains (.ref C) = true := by simp
  have i1 := hi.keeps k
  have b1 := (hb (.ref (h.objs.size + 1))).keeps k
  unfold isInstance
  repeat (first
    | with_reducible refine wpAny_loadPart_at hgt ?_
    | (with_reducible refine wpAny_isSubtype_exc hC1 ?_; rw [cc])
    | wp_step)
  show wpAny _ _ (typeLookup (.ref C) _) _ _ _
  refine i1.at (wpAny_holding (wpAny_bind (b1.at ?_)))
  refine wpAny_bind (wpAny_call (codeAny_mono hq fun r s' z => ?_))
  match r, z with
  | .error e, z => exact z
  | .ok (.ret v), z =>
    obtain ⟨rfl, z⟩ := z
    first
      | exact wpAny_pure (wpAny_pure z)
      | (wp_walk; exact z)
  | .ok .next, z => exact z.elim
  | .ok .brk, z => exact z.elim
  | .ok .cont, z => exact z.elim
theorem callK_run (F : ExcBaseFacts B newId initId bmB) (hT : ∀ X : String, bm.contains (.type X) = bmB.contains (.type X)) {rest : List Value} {kw : List (Str × Value)} {fI : Addr}
    (hC : h.get? C = some (excClassObj nm q C N bs bm hdct sn sub ab col dd k0 k1 k2 k3 k5 newId))
    (hi : W.Looks (model prog w) h (typeLookup (.ref C) "__init__") (some (.ref fI))) (hb : ∀ self, W.Looks (model prog w) h (bindSpecial (.ref fI) self) (.ref fI, [self])) (hrest : rest.length ≤ sizeLine)
    (hq : codeAny (model prog w) (A.under (.builtin "type.__call__" ⟨.ref C :: rest, kw⟩)) (.call (.ref fI) ⟨.ref (h.objs.size + 1) :: rest, kw⟩) (W.InitBack (h.objs.size + 1) R)
      ⟨(h.push (W.kdv_tup rest)).push (excO C h.objs.size), g, d, t, os⟩) :
    codeAny (model prog w) A (.call (.ref C) ⟨rest, kw⟩) R ⟨h, g, d, t, os⟩ := by
  have f1 := tc_lookup
  have f2 := tc_bind (.ref C)
  have hTy : (⟨h, g, d, t, os⟩ : Shared).TypeIs (.ref C) "type" := ⟨_, hC, rfl⟩
  refine codeAny_of_tree ?_
  show wpAny _ _ (callAny (.ref C) _) _ _ _
  repeat (any_goals (first
    | assumption
    | with_reducible refine wpAny_loadPart_at hC ?_
    | wp_step))
  refine ⟨rfl, ?_⟩
  refine codeAny_call_builtin_at (Code.quiet_builtin _ (by decide +kernel)) entry_typeCall (typeK_check hC (typeK_run F hT hC hi hb hrest ?_))
  refine codeAny_mono hq fun r s' z => ?_
  match r, z with
  | .error e, z => exact z
  | .ok (.ret v), z => exact z
  | .ok .next, z => exact z
  | .ok .brk, z => exact z
  | .ok .cont, z => exact z
end
end Wr
set_option Elab.async false
set_option linter.all false
set_option maxRecDepth 100000
set_option maxHeartbeats 2000000
namespace Wr
open PySem PySem.Spec PyProof.Rows L2

/-! ### own error classes whose instances are held as values -/
/-- what is known of such a class at C, whose __init__ stands at fI and sets the one field value -/
structure XcT (K : PySem.W.Frag) (C fI : Addr) : Prop where
  oex : OexC K C
  iC : PySem.W.findIn K (.ref C) "__init__" = some (some (.ref fI))
  tI : PySem.W.typeIn K (.ref fI) = some (.type "function")
  no : PySem.W.findIn K (.ref C) "value" = some none
  ga : PySem.W.findIn K (.ref C) "__getattribute__" = some (some (.builtin "BaseException.__getattribute__"))
  gg : PySem.W.findIn K (.ref C) "__getattr__" = some none
  hd : PySem.W.hasDictIn K C = true
  cc : PySem.W.findIn K (.ref C) "__class__" = some (some (.builtin "object.__class__"))
  mo : PySem.W.mroIn K C (.type "object") = some true
/-- the words that isinstance reads off any object -/
structure ClW (K : PySem.W.Frag) : Prop where
  hn : PySem.W.specialIn K (.builtin "object.__class__") "__get__" = some (some (.builtin "getset_descriptor.__get__"))
  tk : PySem.W.takesIn K (.builtin "object.__class__") = some true
/-- an error of the class at C stands at a, its value is v -/
def ExV (H : Hp) (C a : Addr) (v : V) : Prop := ∃ d : Addr, H a = some (exo a C (some d)) ∧ H d = some (exd d [(("value" : Str), v)])
/-- the heap with a new error -/
def mkX (H : Hp) (C a d : Addr) (v : V) : Hp := upd (upd H d (exd d [(("value" : Str), v)])) a (exo a C (some d))
theorem mkX_at {H : Hp} {C a d : Addr} {v : V} (h : d ≠ a) : ExV (mkX H C a d v) C a v :=
  ⟨d, upd_same, (upd_ne h).trans upd_same⟩
theorem mkX_same {H : Hp} {C a d : Addr} {v : V} (ha : H a = none) (hd : H d = none) : Same H (mkX H C a d v) := fun b o e => by
  unfold mkX
  rw [upd_ne (ne_of_none e ha), upd_ne (ne_of_none e hd)]
  exact e
theorem ExV.same {H H' : Hp} {C a : Addr} {v : V} (s : Same H H') (x : ExV H C a v) : ExV H' C a v :=
  let ⟨d, h1, h2⟩ := x
  ⟨d, s _ _ h1, s _ _ h2⟩
/-- the promise of __init__(self, value) -/
def spXi (C : Addr) : Sp := fun vs H Q _ => ∃ (a : Addr) (v : V), vs = [.ref a, v] ∧ H a = some (exo a C none) ∧
  ∀ d, H d = none → d ≠ a → Q .non (mkX H C a d v)
def xiB (p1 p2 p3 p4 : Pos) : List Stmt := [.Assign [.Attribute (.Name "self" p1) "value" p2] (.Name "value" p3) p4]
def xiS : Scope := { kind := .function, names := [(PySem.Str.ofString "self", .local), (PySem.Str.ofString "value", .local)], isGenerator := false, isCoroutine := false, more := [] }
theorem xi_sc : FnScope ["self", "value"] ["self", "value"] xiS := ⟨rfl, rfl, rfl, by decide +kernel, rfl, by decide +kernel, by decide +kernel⟩
section
variable {P : Program} {w : World} {K : PySem.W.Frag} {mg : Str → Option Value} {base : Heap}
theorem xi_ok {qual : Str} {params : Arguments} {dvs : List V} {kws : List (Str × V)} {C fI : Addr} {fd : FuncData} {p1 p2 p3 p4 : Pos} (F : FunD K "__init__" qual params (xiB p1 p2 p3 p4) xiS dvs kws fI fd)
    (T : XcT K C fI) : FnOk P w K mg base CX0 1 fI fd ["self", "value"] (spXi C) := by
  refine F.ok xi_sc ?_ ?_
  · rintro vs H Q E ⟨a, v, rfl, _⟩
    rfl
  · rintro cdv A outer s H vs Q E hr ⟨a, v, rfl, ha, k⟩
    refine ⟨_, (pss_one (ps_ost (pv 0) (pv 1))).nox, ?_⟩
    exact ⟨v, rfl, .ref a, rfl, a, C, rfl, T.oex, T.no, Or.inl ⟨ha, fun d hd hn => k d hd hn⟩⟩
end
/-- C(..) as a value: n values, then keywords; gV puts all in the parameters' order -/
def tMkX (C : Addr) (n m : Nat) (gV : List V → List V → List V) (t tk : TA) : TE := fun σ H Q => t σ H fun vs H1 => tk σ H1 fun zs H2 => vs.length = n ∧ zs.length = m ∧
  ∃ v, (∀ a, gV (.ref a :: vs) zs = [.ref a, v]) ∧ ∀ a d, H2 a = none → H2 d = none → d ≠ a → Q (.ref a) (mkX H2 C a d v)
section
variable {X : Cx} {C fI : Addr} {fd : FuncData} {n k : Nat} {ks : List Str} {g : List Value → List Value → List Value} {gV : List V → List V → List V}
theorem runX {pins : List (Addr × Obj)} {σ : L2.St} {H : Hp} {s : Shared} {Q : VK} {us ws : List Value} {vs zs : List V} {v : V} (T : XcT X.K C fI) (F : FnOk X.prog X.w X.K X.mg X.base CX0 k fI fd ["self", "value"] (spXi C)) (hr : Room (k + 1) X.A)
    (hb : KBn X.K fd ["self", "value"] (n + 1) ks g gV) (I : Inv X pins σ H s) (r : Vals vs us) (rz : Vals zs ws) (l1 : vs.length = n) (l2 : zs.length = ks.length) (hn : n ≤ 10)
    (hv : ∀ a, gV (.ref a :: vs) zs = [.ref a, v]) (h : ∀ a d, H a = none → H d = none → d ≠ a → Q (.ref a) (mkX H C a d v)) :
    wpAny (model X.prog X.w) X.A (call (.ref C) us (ks.zip ws)) (EP X pins σ Q) X.xe s := by
  obtain ⟨nm, q, N, bs, bm, sn, sub, ab, col, dd, k0, k1, k2, k3, k5, hC, hbm⟩ := T.oex.cls
  obtain ⟨hp, ge, dr, tk, os⟩ := s
  have hsz : hp.objs.size ≤ hp.objs.size + 1 := Nat.le_succ _
  have ha : H (hp.objs.size + 1) = none := I.hok.fresh hsz
  have kk : ∀ b o, hp.get? b = some o → ((hp.push (PySem.W.kdv_tup us)).push (HandSPX.excO C hp.objs.size)).get? b = some o :=
    fun b o e => Heap.get?_push_of_some _ (Heap.get?_push_of_some _ e)
  have hgt : ((hp.push (PySem.W.kdv_tup us)).push (HandSPX.excO C hp.objs.size)).get? (hp.objs.size + 1) = some (HandSPX.excO C hp.objs.size) := by heap_get
  have I2 : Inv X pins σ (upd H (hp.objs.size + 1) (exo (hp.objs.size + 1) C none)) ⟨(hp.push (PySem.W.kdv_tup us)).push (HandSPX.excO C hp.objs.size), ge, dr, tk, os⟩ :=
    I.laid (t' := tk) (h' := (hp.push (PySem.W.kdv_tup us)).push (HandSPX.excO C hp.objs.size)) kk hsz (exo_ok hgt)
  have r1 : Vals (V.ref (hp.objs.size + 1) :: vs) (Value.ref (hp.objs.size + 1) :: us) := .cons rfl r
  have r2 := hb.rel r1 rz
  have e1 : (Value.ref (hp.objs.size + 1) :: us).length = n + 1 := r1.length.symm.trans (congrArg Nat.succ l1)
  have e2 : ws.length = ks.length := rz.length.symm.trans l2
  have hus : us.length ≤ sizeLine := by
    rw [← r.length, sizeLine_eq]
    omega
  have hq : spXi C (gV (V.ref (hp.objs.size + 1) :: vs) zs) (upd H (hp.objs.size + 1) (exo (hp.objs.size + 1) C none))
      (fun y H2 => y = .non ∧ Q (.ref (hp.objs.size + 1)) H2) (fun _ _ _ => False) := by
    refine ⟨hp.objs.size + 1, v, hv _, upd_same, fun d hd hne => ⟨rfl, ?_⟩⟩
    have hd' : H d = none := by
      rw [upd_ne hne] at hd
      exact hd
    have z := h _ d ha hd' hne
    have e : mkX (upd H (hp.objs.size + 1) (exo (hp.objs.size + 1) C none)) C (hp.objs.size + 1) d v = mkX H C (hp.objs.size + 1) d v := by
      funext b
      unfold mkX
      by_cases hb1 : b = hp.objs.size + 1
      · rw [hb1, upd_same, upd_same]
      · rw [upd_ne hb1, upd_ne hb1]
        by_cases hb2 : b = d
        · rw [hb2, upd_same, upd_same]
        · rw [upd_ne hb2, upd_ne hb2, upd_ne hb1]
    rw [e]
    exact z
  refine wpAny_call (callK_run PySem.F.excBase_ValueError (fun Y => HandSPX.refsVE_contains Y bm hbm) (I.kIn _ _ hC) (PySem.W.looks_findIn I.kIn T.iC) (fun self => PySem.W.bind_fn I.kIn self T.tI) hus ?_)
  refine codeAny_mono (F.run _ X.stack _ _ ⟨Value.ref (hp.objs.size + 1) :: us, ks.zip ws⟩ (g (Value.ref (hp.objs.size + 1) :: us) ws) _ _ (fun _ _ _ => False)
    (hr.make C us (ks.zip ws)) (I2.env0.make C us (ks.zip ws)) (hb.to _ (Value.ref (hp.objs.size + 1) :: us) ws I2.kIn e1 e2) r2 hq) fun r s' hq' => ?_
  match r, hq' with
  | .ok (.ret u), hq' =>
    obtain ⟨y, H', I3, rv, ev, q3⟩ := I2.after hq'
    subst ev
    exact ⟨rv, .ref (hp.objs.size + 1), H', I3, rfl, q3⟩
  | .error e, hq' => exact False.elim hq'
  | .ok .next, hq' => exact False.elim hq'
  | .ok .brk, hq' => exact False.elim hq'
  | .ok .cont, hq' => exact False.elim hq'
variable {x : Str} {p pos : Pos} {e : Expr} {es : List Expr} {kws : List Keyword} {t tk : TA}
/-- C(e) -/
theorem pe_X1 (T : XcT X.K C fI) (F : FnOk X.prog X.w X.K X.mg X.base CX0 k fI fd ["self", "value"] (spXi C)) (hr : Room (k + 1) X.A) (hg : Gl X x) (hm : X.mg x = some (.ref C))
    (hb : KBn X.K fd ["self", "value"] (n + 1) [] g gV) (hn : n ≤ 10) (ha : PA X (e :: es) t)
    (hdb : (x == ("__debug__" : Str)) = false := by decide) (he : starEach (e :: es) X.env = (false, eval e X.env) :: starEach es X.env := by rfl)
    (hpl : (backTo pos (starEach es X.env)).any (·.1) = false := by rfl) :
    PE X (.Call (.Name x p) (e :: es) [] pos) (tMkX C n 0 gV t tNil) := by
  refine ⟨fun pins s σ H Q I h => wpAny_Call_Name_kw (ld_glob I hg hm ?_ hdb)⟩
  refine PySem.W.callWith_K (h₀ := X.base) I.ok.mod.kin T.oex.kC (thn (ha.run pos pins s σ H _ I h) ?_) he hpl
  rintro us s1 ⟨vs, H1, I1, r1, l1, l2, v, hv, q⟩
  exact ⟨I1.kIn, runX (ws := []) T F hr hb I1 r1 .nil l1 l2 hn hv q⟩
/-- C(k = e) -/
theorem pe_X2 (T : XcT X.K C fI) (F : FnOk X.prog X.w X.K X.mg X.base CX0 k fI fd ["self", "value"] (spXi C)) (hr : Room (k + 1) X.A) (hg : Gl X x) (hm : X.mg x = some (.ref C))
    (hb : KBn X.K fd ["self", "value"] (0 + 1) ks g gV) (hkw : PK X kws tk)
    (hdb : (x == ("__debug__" : Str)) = false := by decide) (hks : (backToKw pos (keywordEach kws X.env)).filterMap (·.1) = ks := by rfl) (hall : (backToKw pos (keywordEach kws X.env)).all (·.1.isSome) = true := by rfl)
    (hpl : ((backTo pos (starEach [] X.env)).any (·.1) || (backToKw pos (keywordEach kws X.env)).any (·.1.isNone)) = false := by rfl) :
    PE X (.Call (.Name x p) [] kws pos) (tMkX C 0 ks.length gV tNil tk) := by
  refine ⟨fun pins s σ H Q I h => wpAny_Call_Name_kw (ld_glob I hg hm ?_ hdb)⟩
  refine PySem.W.callWith_KW0 (h₀ := X.base) I.ok.mod.kin T.oex.kC hall (thn (hkw.run pos pins s σ H _ I h) ?_) hpl
  rintro ws s1 ⟨zs, H1, I1, rz, l1, l2, v, hv, q⟩
  refine ⟨I1.kIn, ?_⟩
  rw [hks]
  exact runX (us := []) T F hr hb I1 .nil rz l1 l2 (Nat.zero_le _) hv q
/-- C() -/
theorem pe_X0 (T : XcT X.K C fI) (F : FnOk X.prog X.w X.K X.mg X.base CX0 k fI fd ["self", "value"] (spXi C)) (hr : Room (k + 1) X.A) (hg : Gl X x) (hm : X.mg x = some (.ref C))
    (hb : KBn X.K fd ["self", "value"] (0 + 1) [] g gV) (hdb : (x == ("__debug__" : Str)) = false := by decide) :
    PE X (.Call (.Name x p) [] [] pos) (tMkX C 0 0 gV tNil tNil) := by
  refine ⟨fun pins s σ H Q I h => wpAny_Call_Name_kw (ld_glob I hg hm ?_ hdb)⟩
  obtain ⟨l1, l2, v, hv, q⟩ := h
  exact PySem.W.callWith_K0 I.kIn T.oex.kC (runX (us := []) (ws := []) T F hr hb I .nil .nil l1 l2 (Nat.zero_le _) hv q)
end
/-- e.value -/
def tXv (K : PySem.W.Frag) (te : TE) : TE := fun σ H Q => te σ H fun x H1 => ∃ a C fI v, x = .ref a ∧ XcT K C fI ∧ ExV H1 C a v ∧ Q v H1
section
variable {X : Cx}
theorem inst_at {pins : List (Addr × Obj)} {σ : L2.St} {H : Hp} {s : Shared} {C a : Addr} {v : V} (I : Inv X pins σ H s) (x : ExV H C a v) :
    ∃ (ox od : Obj) (mA : Str → Option Value), PySem.W.InstAt s.heap a ox C (some od) ∧ PySem.W.lookIn ("value" : Str) od = some (mA ("value" : Str)) ∧ RelO (some v) (mA ("value" : Str)) := by
  obtain ⟨d, e1, e2⟩ := x
  obtain ⟨t1, ho⟩ := exo_at I.hok e1
  obtain ⟨mA, hns, hr⟩ := exd_at I.hok e2
  obtain ⟨od, hod, hl⟩ := lookIn_ns hns
  have z := hr ("value" : Str)
  have q : List.lookup ("value" : Str) [(("value" : Str), v)] = some v := by simp [List.lookup]
  rw [q] at z
  exact ⟨_, od, mA, ⟨ho, rfl, rfl, hod⟩, hl _, z⟩
theorem pe_xv {e : Expr} {te : TE} {pos : Pos} (he : PE X e te) (hb : attributeBase e "value" X.env (eval e X.env) = eval e X.env := by rfl) :
    PE X (.Attribute e "value" pos) (tXv X.K te) := by
  refine ⟨fun pins s σ H Q I h => attr_of hb (thn (he.run pins s σ H _ I h) ?_)⟩
  rintro u s1 ⟨x, H1, I1, rx, a, C, fI, v, rfl, T, xv, q⟩
  obtain rfl : u = Value.ref a := rx
  obtain ⟨ox, od, mA, J, hl, hv⟩ := inst_at I1 xv
  obtain ⟨u2, hu, ru⟩ := RelO.some_of hv
  refine HandSPX.exc_get I1.kIn J T.ga T.gg T.oex.exC (PySem.W.findObj_own T.hd T.no rfl (by rw [hl, hu])) (handed_of ru) ⟨v, H1, I1.tok _, ru, q⟩
/-- isinstance(e, c), e such an error -/
def rIsX (K : PySem.W.Frag) : List V → Hp → VK → Prop := fun xs H Q => ∃ (a C fI : Addr) (v c : V) (cv : Value) (b : Bool), xs = [.ref a, c] ∧ XcT K C fI ∧ ClW K ∧ ExV H C a v ∧
  ClsV c cv ∧ PySem.W.kitOne K (.ref C) cv = some b ∧ Q (.bl b) H
theorem call_isX : CallR X (.builtin "isinstance") (rIsX X.K) := by
  intro pins s σ H xs us Q I r h
  obtain ⟨a, C, fI, v, c, cv, b, rfl, T, W, xv, hc, e, q⟩ := h
  obtain ⟨u1, u2, rfl, r1, r2⟩ := vals2 r
  obtain rfl : u1 = Value.ref a := r1
  obtain rfl := hc.eq r2
  obtain ⟨ox, od, mA, J, _, _⟩ := inst_at I xv
  have hcl : (PySem.W.clsIn X.K C).isSome = true := by
    obtain ⟨cd, hcd, _⟩ := PySem.W.any_some T.hd
    rw [hcd]
    all_goals rfl
  exact PySem.W.kia_one (PySem.W.kitx_exc (od := some od) (ox := ox) hcl T.ga T.gg T.oex.exC T.cc W.hn W.tk T.mo) I.kIn J e (fun z => nomatch z)
    fun tk => ⟨.bl b, H, I.tok tk, rfl, q⟩
end
end Wr
set_option Elab.async false
set_option linter.all false
set_option maxRecDepth 100000
set_option maxHeartbeats 2000000
namespace Wr
open PySem PySem.Spec PyProof.Rows L2
def xiA (p1 p2 p3 : Pos) : Arguments := { posonlyargs := [], args := [{ arg := "self", annotation := none, pos := p1 }, { arg := "value", annotation := none, pos := p2 }], vararg := none, kwonlyargs := [], kw_defaults := [], kwarg := none, defaults := [.Constant .none 0 p3] }
section
variable {K : PySem.W.Frag} {qual : Str} {q1 q2 q3 p1 p2 p3 p4 : Pos} {f : Addr} {fd : FuncData}
theorem xi_b1 (F : FunD K "__init__" qual (xiA q1 q2 q3) (xiB p1 p2 p3 p4) xiS [.non] [] f fd) :
    ∃ its : List Value, KBn K fd ["self", "value"] (1 + 1) [] (fun us ws => (fun {α : Type} (a b c : List α) => a) us its ws) (fun vs zs => (fun {α : Type} (a b c : List α) => a) vs [V.non] zs) :=
  F.kbindsD 2 [] (fun {α : Type} (a b c : List α) => a) (by simp) (fun h _ _ => h) fun T kV doc pm an cdv ct us its ws l1 l2 l3 =>
    match us, its, ws, l1, l2, l3 with
    | [_, _], [_], [], _, _, _ => ⟨_, rfl, rfl⟩
theorem xi_b2 (F : FunD K "__init__" qual (xiA q1 q2 q3) (xiB p1 p2 p3 p4) xiS [.non] [] f fd) :
    ∃ its : List Value, KBn K fd ["self", "value"] (0 + 1) ["value"] (fun us ws => (fun {α : Type} (a b c : List α) => a ++ c) us its ws) (fun vs zs => (fun {α : Type} (a b c : List α) => a ++ c) vs [V.non] zs) :=
  F.kbindsD 1 ["value"] (fun {α : Type} (a b c : List α) => a ++ c) (by simp) (fun h _ k => h.append k) fun T kV doc pm an cdv ct us its ws l1 l2 l3 =>
    match us, its, ws, l1, l2, l3 with
    | [_], [_], [_], _, _, _ => ⟨_, rfl, rfl⟩
theorem xi_b0 (F : FunD K "__init__" qual (xiA q1 q2 q3) (xiB p1 p2 p3 p4) xiS [.non] [] f fd) :
    ∃ its : List Value, KBn K fd ["self", "value"] (0 + 1) [] (fun us ws => (fun {α : Type} (a b c : List α) => a ++ b) us its ws) (fun vs zs => (fun {α : Type} (a b c : List α) => a ++ b) vs [V.non] zs) :=
  F.kbindsD 1 [] (fun {α : Type} (a b c : List α) => a ++ b) (by simp) (fun h k _ => h.append k) fun T kV doc pm an cdv ct us its ws l1 l2 l3 =>
    match us, its, ws, l1, l2, l3 with
    | [_], [_], [], _, _, _ => ⟨_, rfl, rfl⟩
end
end Wr
set_option Elab.async false
set_option linter.all false
set_option maxRecDepth 100000
set_option maxHeartbeats 2000000
namespace Wr
open PySem PySem.Spec PyProof.Rows L2
/-! ### operations of great numbers, a text times a number -/
def CPowB (i j : Int) : Prop := 0 ≤ j ∧ (Builtin.Int.intBits i : Int) * j ≤ 2 ^ 27
/-- 'x' * n -/
def rMulS : R2 := fun x y H Q => ∃ (z : Str) (n : Int), x = .str z ∧ y = .int n ∧ MulOk z n ∧ Q (.str (Txt.mul z n)) H
section
variable {X : Cx}
theorem op_powB : OpR X (binaryOp .Pow) (rI CPowB fun i j => .int (i ^ j.toNat)) := opI fun _ _ _ _ _ _ _ hc q => pow_int hc.1 hc.2 q
theorem op_mulS : OpR X (binaryOp .Mult) rMulS := by
  intro pins s σ H x y v u Q I rx ry h
  obtain ⟨z, n, rfl, rfl, ok, q⟩ := h
  obtain ⟨t, rfl⟩ := rx
  obtain ⟨t2, rfl⟩ := ry
  exact PySem.SB.mul ok fun t' k => ⟨.str (Txt.mul z n), H, I.tok k, ⟨t', rfl⟩, q⟩
end
theorem ten40 : CPowB 10 40 := ⟨by decide, by decide +kernel⟩
theorem ten400 : CPowB (10 ^ (40 : Int).toNat) 10 := ⟨by decide, by decide +kernel⟩
theorem mul_small {z : Str} {n : Int} (h0 : 0 ≤ n) (h1 : n ≤ 1000) (hz : z.length = 1) : MulOk z n := by
  refine ⟨?_, ?_, ?_⟩
  · have e1 : ¬ n < -(2 ^ 63 : Int) := by omega
    have e2 : ¬ n ≥ 2 ^ 63 := by omega
    rw [decide_eq_false e1, decide_eq_false e2]
    rfl
  · intro h _
    rw [hz]
    have e : (1 : Int) ≤ (2 ^ 63 - 1) / n := Int.le_ediv_of_mul_le (by omega) (by omega)
    omega
  · intro h _
    rw [hz]
    show decide (_ > sizeLine) = false
    rw [decide_eq_false]
    rw [sizeLine_eq]
    omega

/-! ### the purse of draws -/
/-- all but what stands at p is as it was -/
def But (p : Addr) (H H' : Hp) : Prop := ∀ b, b ≠ p → H' b = H b
theorem But.refl {p : Addr} {H : Hp} : But p H H := fun _ _ => rfl
theorem But.trans {p : Addr} {H H1 H2 : Hp} (x : But p H H1) (y : But p H1 H2) : But p H H2 := fun b h => (y b h).trans (x b h)
theorem But.upd {p : Addr} {H : Hp} {o : HO} : But p H (upd H p o) := fun _ h => upd_ne h
/-- at p a purse, from which at most n draws were mixed -/
def Purse (H : Hp) (p : Addr) (n : Nat) : Prop := ∃ d m t : Int, H p = some (.lst [.int d, .int m, .int t]) ∧ 0 ≤ t ∧ t ≤ n
theorem Purse.le {H : Hp} {p : Addr} {n k : Nat} (x : Purse H p n) (h : n ≤ k) : Purse H p k :=
  let ⟨d, m, t, e, h0, h1⟩ := x
  ⟨d, m, t, e, h0, by omega⟩
def spPurse (K : PySem.W.Frag) : Sp := fun vs H Q _ => ∃ (a : Addr) (ns : List Int) (i : Nat), vs = [.ref a, .int i] ∧ SqL K H a (ns.map V.int) ∧ ns.length ≤ 63 ∧ i ≤ 1000 ∧
  ∀ p d m, H p = none → Q (.ref p) (upd H p (.lst [.int d, .int m, .int 0]))
def spDraw : Sp := fun vs H Q _ => ∃ (p : Addr) (n : Nat) (k : Int), vs = [.ref p, .int k] ∧ Purse H p n ∧ n ≤ 1000000 ∧ 0 < k ∧ k < 1073741824 ∧
  ∀ r H', 0 ≤ r → r < k → But p H H' → Purse H' p (n + 1) → Q (.int r) H'
def spPick (K : PySem.W.Frag) : Sp := fun vs H Q _ => ∃ (p l : Addr) (n : Nat) (xs : List V), vs = [.ref p, .ref l] ∧ Purse H p n ∧ n ≤ 1000000 ∧ l ≠ p ∧ SqL K H l xs ∧ (∀ H', But p H H' → SqL K H' l xs) ∧
  0 < xs.length ∧ xs.length < 1000000 ∧ ∀ x H', x ∈ xs → But p H H' → Purse H' p (n + 1) → Q x H'
theorem atI_mem {xs : List V} {r : Int} (h0 : 0 ≤ r) (h1 : r < xs.length) : ∃ x, atI xs r = some x ∧ x ∈ xs := by
  obtain ⟨k, rfl⟩ : ∃ k : Nat, r = k := ⟨r.toNat, by omega⟩
  have hk : k < xs.length := by omega
  refine ⟨xs[k], ?_, List.getElem_mem hk⟩
  unfold atI ixN
  rw [if_pos h0, if_pos h1]
  show xs[(k : Int).toNat]? = _
  rw [Int.toNat_natCast]
  exact List.getElem?_eq_getElem hk
theorem atI_nat' {α : Type} {xs : List α} {k : Nat} {v : α} (h : xs[k]? = some v) : atI xs (k : Int) = some v := by
  have hk := (List.getElem?_eq_some_iff.mp h).1
  unfold atI ixN
  rw [if_pos (by omega), if_pos (by omega)]
  show xs[(k : Int).toNat]? = _
  rw [Int.toNat_natCast]
  exact h
end Wr
set_option Elab.async false
set_option linter.all false
set_option maxRecDepth 100000
set_option maxHeartbeats 2000000
namespace K01
open PySem PySem.Spec PyProof.Rows L2 Wr
def top (i : Nat) : Stmt := PySem.Challenge.pw_wireranks_k01_errors_made.main.body.getD i (.Pass ⟨0, 0, 0, 0⟩)
abbrev s__law_purse : Stmt := top 10
theorem sc__law_purse : FnScope ["_law_script", "_law_at", "_law_cell"] ["_law_script", "_law_at"] (defScope s__law_purse) := ⟨rfl, rfl, rfl, by decide +kernel, rfl, by decide +kernel, by decide +kernel⟩
abbrev s__law_draw : Stmt := top 11
theorem sc__law_draw : FnScope ["_law_purse_here", "_law_many", "_law_drawn", "_law_turn", "_law_number"] ["_law_purse_here", "_law_many"] (defScope s__law_draw) := ⟨rfl, rfl, rfl, by decide +kernel, rfl, by decide +kernel, by decide +kernel⟩
abbrev s__law_pick : Stmt := top 12
theorem sc__law_pick : FnScope ["_law_purse_here", "_law_items"] ["_law_purse_here", "_law_items"] (defScope s__law_pick) := ⟨rfl, rfl, rfl, by decide +kernel, rfl, by decide +kernel, by decide +kernel⟩
/-- a def as it stands behind the top -/
structure Df (K : PySem.W.Frag) (mg : Str → Option Value) (x : Str) (st : Stmt) where
  a : Addr
  d : FuncData
  g : mg x = some (.ref a)
  F : Fun K x x st a d
structure Txt (K : PySem.W.Frag) (mg : Str → Option Value) where
  purse : Df K mg "_law_purse" s__law_purse
  draw : Df K mg "_law_draw" s__law_draw
  pick : Df K mg "_law_pick" s__law_pick
  z_len : mg "len" = none
  z_max : mg "max" = none
  z_int : mg "int" = none
section
variable {P : Program} {w : World} {K : PySem.W.Frag} {mg : Str → Option Value} {base : Heap}
theorem Txt.b2 {x : Str} {st : Stmt} (D : Df K mg x st) {ps : List Str}
    (h : ∀ (kV doc pm : Value) (an : Option Addr) (cdv ct : Value) (us : List Value), us.length = ps.length → bindArgs (PySem.W.fnOf x x (defArgs st) (defBody st) (defScope st) .none kV doc pm an cdv ct) ⟨us, []⟩ = pure (ps.zip us)) :
    Binds K D.d ps [] := D.F.binds h
theorem ok_purse (T : Txt K mg) : FnOk P w K mg base CX0 1 T.purse.a T.purse.d ["_law_script", "_law_at"] (spPurse K) := by
  refine T.purse.F.ok sc__law_purse ?_ ?_
  · rintro vs H Q E ⟨a, ns, i, rfl, _⟩
    rfl
  · rintro cdv A outer s H vs Q E hr ⟨a, ns, i, rfl, hS, hl, hi, k⟩
    refine ⟨_, (pss_cons (ps_set (i := 2) sc__law_purse.nd rfl (Or.inl rfl) pe_int)
      (pss_cons (ps_if (pt_cmpR op_lt (pv 1) (pe_callB call_len_seq (by rfl) T.z_len (by decide +kernel) (pa_cons (pv 0) pa_nil)) (nomark _)) 
        (pss_one (ps_set (i := 2) sc__law_purse.nd rfl (Or.inl rfl) (pe_ix ix_list (pv 0) (pv 1) (fun _ _ => rfl)))) pss_nil)
      (pss_one (ps_ret (pe_lst (pa_cons (pe_op op_mod (pe_callTy call_int1 (by rfl) T.z_int (by decide +kernel) (pa_cons (pe_callB (call_max2 rfl) (by rfl) T.z_max (by decide +kernel) (pa_cons (pe_op op_sub (pv 2) (pe_op op_pow pe_int pe_int)) (pa_cons pe_int pa_nil))) pa_nil)) (pe_op op_powB (pe_op op_pow pe_int pe_int) pe_int)) (pa_cons (pe_op op_mod (pe_callTy call_int1 (by rfl) T.z_int (by decide +kernel) (pa_cons (pe_op op_add (pv 2) (pe_op op_mul pe_int (pv 1))) pa_nil)) pe_int) (pa_cons pe_int pa_nil)))))))), ?_⟩
    refine ⟨_, rfl, _, rfl, a, _, rfl, Or.inl hS, _, _, rfl, rfl, _, rfl, ?_⟩
    refine ite2 (fun hc => ?_) (fun _ => ?_)
    · have hlt : i < ns.length := by
        have h := of_decide_eq_true hc
        rw [List.length_map] at h
        omega
      obtain ⟨z, hz⟩ : ∃ z, ns[i]? = some z := ⟨_, List.getElem?_eq_getElem hlt⟩
      have hv : (ns.map V.int)[i]? = some (V.int z) := by
        rw [List.getElem?_map, hz]
        rfl
      refine ⟨_, rfl, _, rfl, a, _, _, _, rfl, rfl, hS, atI_nat' hv, ?_⟩
      refine ⟨_, rfl, _, _, rfl, rfl, ⟨by decide, by decide, by decide⟩, _, _, rfl, rfl, _, _, rfl, Or.inl ⟨_, rfl, ?_⟩⟩
      refine ⟨_, _, rfl, rfl, ⟨by decide, by decide, by decide⟩, _, _, rfl, rfl, ten400, _, _, rfl, rfl, (by show (0 : Int) < (10 ^ (40 : Int).toNat) ^ (10 : Int).toNat; decide +kernel), ?_⟩
      refine ⟨_, rfl, _, rfl, _, _, rfl, rfl, Or.inl ⟨by decide, by decide⟩, _, _, rfl, rfl, Or.inl ⟨_, rfl, _, _, rfl, rfl, (by show (0 : Int) < 2147483629; decide), ?_⟩⟩
      exact ⟨by show 3 ≤ sizeLine; decide, fun p hp => k p _ _ hp⟩
    · refine ⟨_, rfl, _, _, rfl, rfl, ⟨by decide, by decide, by decide⟩, _, _, rfl, rfl, _, _, rfl, Or.inl ⟨_, rfl, ?_⟩⟩
      refine ⟨_, _, rfl, rfl, ⟨by decide, by decide, by decide⟩, _, _, rfl, rfl, ten400, _, _, rfl, rfl, (by show (0 : Int) < (10 ^ (40 : Int).toNat) ^ (10 : Int).toNat; decide +kernel), ?_⟩
      refine ⟨_, rfl, _, rfl, _, _, rfl, rfl, Or.inl ⟨by decide, by decide⟩, _, _, rfl, rfl, Or.inl ⟨_, rfl, _, _, rfl, rfl, (by show (0 : Int) < 2147483629; decide), ?_⟩⟩
      exact ⟨by show 3 ≤ sizeLine; decide, fun p hp => k p _ _ hp⟩
theorem ok_draw (T : Txt K mg) : FnOk P w K mg base CX0 1 T.draw.a T.draw.d ["_law_purse_here", "_law_many"] spDraw := by
  refine T.draw.F.ok sc__law_draw ?_ ?_
  · rintro vs H Q E ⟨p, n, k, rfl, _⟩
    rfl
  · rintro cdv A outer s H vs Q E hr ⟨p, n, k, rfl, ⟨d, m, t, hp, t0, t1⟩, hn, k0, k1, q⟩
    refine ⟨_, (pss_cons (ps_if (pt_cmpR op_gt (pe_ix ix_list (pv 0) pe_int (fun _ _ => rfl)) pe_int (nomark _)) 
      (pss_cons (ps_set (i := 2) sc__law_draw.nd rfl (Or.inl rfl) (pe_op op_mod (pe_callTy call_int1 (by rfl) T.z_int (by decide +kernel) (pa_cons (pe_ix ix_list (pv 0) pe_int (fun _ _ => rfl)) pa_nil)) (pv 1)))
      (pss_cons (ps_asg (pe_op op_fdiv (pe_ix ix_list (pv 0) pe_int (fun _ _ => rfl)) (pv 1)) (pg_sub (pv 0) pe_int set_list))
      (pss_one (ps_ret (pv 2))))) pss_nil)
    (pss_cons (ps_set (i := 3) sc__law_draw.nd rfl (Or.inl rfl) (pe_op op_add (pe_ix ix_list (pv 0) pe_int (fun _ _ => rfl)) pe_int))
    (pss_cons (ps_asg (pv 3) (pg_sub (pv 0) pe_int set_list))
    (pss_cons (ps_set (i := 4) sc__law_draw.nd rfl (Or.inl rfl) (pe_op op_mod (pe_callTy call_int1 (by rfl) T.z_int (by decide +kernel) (pa_cons (pe_op op_mul (pe_op op_add (pe_ix ix_list (pv 0) pe_int (fun _ _ => rfl)) (pe_op op_mul pe_int (pv 3))) (pe_op op_add (pe_op op_mul (pv 3) (pv 3)) pe_int)) pa_nil)) pe_int))
    (pss_cons (ps_set (i := 4) sc__law_draw.nd rfl (Or.inl rfl) (pe_op op_mod (pe_callTy call_int1 (by rfl) T.z_int (by decide +kernel) (pa_cons (pe_op op_add (pe_op op_mul (pv 4) (pv 4)) (pv 3)) pa_nil)) pe_int))
    (pss_one (ps_ret (pe_op op_mod (pe_op op_fdiv (pe_op op_mod (pe_callTy call_int1 (by rfl) T.z_int (by decide +kernel) (pa_cons (pe_op op_mul (pv 4) pe_int) pa_nil)) pe_int) pe_int) (pv 1))))))))), ?_⟩
    have hL : SqL K H p [.int d, .int m, .int t] := SqL.of hp
    refine ⟨_, rfl, p, _, 0, _, rfl, rfl, hL, rfl, _, _, rfl, rfl, _, rfl, ?_⟩
    refine ite2 (fun hc => ?_) (fun _ => ?_)
    · refine ⟨_, rfl, p, _, 0, _, rfl, rfl, hL, rfl, Or.inl ⟨_, rfl, _, rfl, _, _, rfl, rfl, k0, ?_⟩⟩
      refine ⟨_, rfl, p, _, 0, _, rfl, rfl, hL, rfl, _, rfl, _, _, rfl, rfl, ⟨k0, k1⟩, ?_⟩
      refine ⟨_, rfl, p, _, 0, 0, rfl, rfl, hp, rfl, ?_⟩
      refine ⟨_, rfl, ?_⟩
      refine q _ _ (Int.emod_nonneg _ (by omega)) (Int.emod_lt_of_pos _ k0) But.upd ⟨_, _, _, upd_same, t0, by omega⟩
    · refine ⟨_, rfl, p, _, 2, _, rfl, rfl, hL, rfl, _, _, rfl, rfl, ?_⟩
      refine ⟨_, rfl, _, rfl, p, _, 2, 2, rfl, rfl, hp, rfl, ?_⟩
      have hp2 : upd H p (.lst ([V.int d, .int m, .int t].set 2 (.int (t + 1)))) p = some (.lst [.int d, .int m, .int (t + 1)]) := upd_same
      refine ⟨_, rfl, p, _, 1, _, rfl, rfl, SqL.of hp2, rfl, _, rfl, _, _, rfl, rfl, Or.inl ⟨by decide, by decide⟩, _, _, rfl, rfl, ?_⟩
      have b1 : -(2 ^ 64) < t + 1 ∧ t + 1 < 2 ^ 64 := by omega
      have b2 : -(2 ^ 64) < (t + 1) * (t + 1) + 7919 ∧ (t + 1) * (t + 1) + 7919 < 2 ^ 64 := by
        have h1 : 0 ≤ (t + 1) * (t + 1) := Int.mul_nonneg (by omega) (by omega)
        have h2 : (t + 1) * (t + 1) ≤ 1000001 * 1000001 := Int.mul_le_mul (by omega) (by omega) (by omega) (by omega)
        omega
      refine ⟨_, rfl, _, rfl, _, _, rfl, rfl, Or.inl b1, _, _, rfl, rfl, _, _, rfl, rfl, Or.inr b2, Or.inl ⟨_, rfl, _, _, rfl, rfl, (by show (0 : Int) < 2147483629; decide), ?_⟩⟩
      have z0 := Int.emod_nonneg ((m + 104729 * (t + 1)) * ((t + 1) * (t + 1) + 7919)) (show (2147483629 : Int) ≠ 0 by decide)
      have z1 := Int.emod_lt_of_pos ((m + 104729 * (t + 1)) * ((t + 1) * (t + 1) + 7919)) (show (0 : Int) < 2147483629 by decide)
      generalize ((m + 104729 * (t + 1)) * ((t + 1) * (t + 1) + 7919)) % 2147483629 = z at z0 z1 ⊢
      refine ⟨_, rfl, _, rfl, _, _, rfl, rfl, Or.inl ⟨by omega, by omega⟩, _, rfl, _, _, rfl, rfl, Or.inl ⟨_, rfl, _, _, rfl, rfl, (by show (0 : Int) < 2147483587; decide), ?_⟩⟩
      have y0 := Int.emod_nonneg (z * z + (t + 1)) (show (2147483587 : Int) ≠ 0 by decide)
      have y1 := Int.emod_lt_of_pos (z * z + (t + 1)) (show (0 : Int) < 2147483587 by decide)
      generalize (z * z + (t + 1)) % 2147483587 = y at y0 y1 ⊢
      refine ⟨_, rfl, _, _, rfl, rfl, Or.inl ⟨by omega, by omega⟩, Or.inl ⟨_, rfl, _, _, rfl, rfl, (by show (0 : Int) < 2147483647; decide), ?_⟩⟩
      refine ⟨_, _, rfl, rfl, ⟨by decide, by decide⟩, _, rfl, _, _, rfl, rfl, k0, ?_⟩
      exact q _ _ (Int.emod_nonneg _ (by omega)) (Int.emod_lt_of_pos _ k0) But.upd ⟨_, _, _, upd_same, by omega, by omega⟩
theorem ok_pick (T : Txt K mg) : FnOk P w K mg base CX0 2 T.pick.a T.pick.d ["_law_purse_here", "_law_items"] (spPick K) := by
  have G__law_draw := ok_draw (P := P) (w := w) (base := base) T
  have b__law_draw : Binds K T.draw.d ["_law_purse_here", "_law_many"] [] := Txt.b2 T.draw fun _ _ _ _ _ _ us hl => match us, hl with | [_, _], _ => rfl
  refine T.pick.F.ok sc__law_pick ?_ ?_
  · rintro vs H Q E ⟨p, l, n, xs, rfl, _⟩
    rfl
  · rintro cdv A outer s H vs Q E hr ⟨p, l, n, xs, rfl, hp, hn, hlp, hL, hB, h0, h1, q⟩
    refine ⟨_, (pss_one (ps_ret (pe_ix ix_list (pv 1) (pe_call G__law_draw (hr.mono (by decide)) rfl T.draw.g T.draw.F.kp b__law_draw .nil pass0 (pa_cons (pv 0) (pa_cons (pe_callB call_len_seq (by rfl) T.z_len (by decide +kernel) (pa_cons (pv 1) pa_nil)) pa_nil))) (fun _ _ => rfl)))), ?_⟩
    refine ⟨_, rfl, _, rfl, _, rfl, l, xs, rfl, Or.inl hL, p, n, _, rfl, hp, hn, by omega, by omega, ?_⟩
    intro r H' r0 r1 hb hp'
    obtain ⟨x, hx, hm⟩ := atI_mem (xs := xs) r0 r1
    exact ⟨l, xs, r, x, rfl, rfl, hB H' hb, hx, q x H' hm hb hp'⟩
end
end K01
set_option Elab.async false
set_option linter.all false
set_option maxRecDepth 100000
set_option maxHeartbeats 2000000
namespace Wr
open PySem PySem.Spec PyProof.Rows L2 Evl
/-! ### data stays -/
mutual
theorem Dr.ex {K : PySem.W.Frag} {H H' : Hp} (s : Ex H H') : ∀ {v : V} {d : PyData}, Dr K H v d → Dr K H' v d
  | _, _, .non => .non
  | _, _, .bl b => .bl b
  | _, _, .int i => .int i
  | _, _, .str x => .str x
  | _, _, .lst h r => .lst (ex_l s h) (DrAll.ex s r)
  | _, _, .tup h r => .tup (ex_t s h) (DrAll.ex s r)
  | _, _, .dct h r => .dct (s _ _ h) (DrAll.ex s r)
theorem DrAll.ex {K : PySem.W.Frag} {H H' : Hp} (s : Ex H H') : ∀ {v : List V} {d : List PyData}, DrAll K H v d → DrAll K H' v d
  | _, _, .nil => .nil
  | _, _, .cons h r => .cons (Dr.ex s h) (DrAll.ex s r)
end
mutual
theorem dp_ex {K : PySem.W.Frag} {H H' : Hp} (s : Ex H H') : ∀ {v : V} {d : PyData}, Dp K H v d → Dp K H' v d
  | _, _, .non => .non
  | _, _, .bl b => .bl b
  | _, _, .int i => .int i
  | _, _, .str x => .str x
  | _, _, .lst h r => .lst (ex_l s h) (dpAll_ex s r)
  | _, _, .tup h r => .tup (ex_t s h) (dpAll_ex s r)
theorem dpAll_ex {K : PySem.W.Frag} {H H' : Hp} (s : Ex H H') : ∀ {v : List V} {d : List PyData}, DpAll K H v d → DpAll K H' v d
  | _, _, .nil => .nil
  | _, _, .cons h r => .cons (dp_ex s h) (dpAll_ex s r)
end
theorem DrAll.rep {K : PySem.W.Frag} {H : Hp} {v : V} {d : PyData} (h : Dr K H v d) : ∀ n, DrAll K H (List.replicate n v) (List.replicate n d)
  | 0 => .nil
  | n + 1 => .cons h (DrAll.rep h n)
theorem DrAll.app {K : PySem.W.Frag} {H : Hp} : ∀ {vs ws : List V} {ds es : List PyData}, DrAll K H vs ds → DrAll K H ws es → DrAll K H (vs ++ ws) (ds ++ es)
  | _, _, _, _, .nil, h => h
  | _, _, _, _, .cons x r, h => .cons x (DrAll.app r h)
/-- told by what holds of each place -/
theorem dpAll_of {K : PySem.W.Frag} {H : Hp} : ∀ {ys : List V} {ds : List PyData}, ys.length = ds.length →
    (∀ (i : Nat) (y : V) (d : PyData), ys[i]? = some y → ds[i]? = some d → Dp K H y d) → DpAll K H ys ds
  | [], [], _, _ => .nil
  | [], _ :: _, h, _ => by cases h
  | _ :: _, [], h, _ => by cases h
  | y :: ys, d :: ds, h, k => .cons (k 0 y d rfl rfl) (dpAll_of (Nat.succ.inj h) fun i y' d' h1 h2 => k (i + 1) y' d' h1 h2)

/-! ### what evaluates to something of which P holds -/
def EvP (te : TE) (σ : L2.St) (H : Hp) (P : V → Hp → Prop) : Prop := ∀ H1, Ex H H1 → ∀ Q : VK, (∀ v H2, Ex H1 H2 → P v H2 → Q v H2) → te σ H1 Q
def Stays (P : V → Hp → Prop) : Prop := ∀ v H H', Ex H H' → P v H → P v H'
section
variable {K : PySem.W.Frag} {σ : L2.St} {H H' : Hp} {ta tb te tc : TE} {x y z v : V} {P P2 : V → Hp → Prop} {r : R2}
theorem EvP.mono (e : Ex H H') (h : EvP te σ H P) : EvP te σ H' P := fun H1 a Q q => h H1 (e.trans a) Q q
theorem Ev.p (h : Ev te σ H v) (hp : ∀ H1, Ex H H1 → P v H1) : EvP te σ H P := fun H1 e Q q => h H1 e Q fun H2 e2 => q v H2 e2 (hp H2 (e.trans e2))
theorem ev_opP (ha : EvP ta σ H P) (hb : EvP tb σ H P2) (st : Stays P) (hr : ∀ x y H1, Ex H H1 → P x H1 → P2 y H1 → RV r x y H1 z) : Ev (tOp r ta tb) σ H z := fun H1 e Q q =>
  ha H1 e _ fun x H2 e2 hx => hb H2 (e.trans e2) _ fun y H3 e3 hy =>
    hr x y H3 ((e.trans e2).trans e3) (st _ _ _ e3 hx) hy H3 (Ex.refl _) Q fun H4 e4 => q H4 ((e2.trans e3).trans e4)
end
/-- te makes a new object o -/
def EvN (te : TE) (σ : L2.St) (H : Hp) (o : HO) : Prop := ∀ H1, Ex H H1 → ∀ Q : VK, (∀ p H2, H1 p = none → Ex H1 H2 → H2 p = some o → Q (.ref p) H2) → te σ H1 Q
theorem EvN.mono {te : TE} {σ : L2.St} {H H' : Hp} {o : HO} (e : Ex H H') (h : EvN te σ H o) : EvN te σ H' o := fun H1 a Q q => h H1 (e.trans a) Q q
/-- v: a list whose places are objects, the i-th one o i -/
def LstN (n : Nat) (o : Nat → HO) (v : V) (H : Hp) : Prop := ∃ (p : Addr) (as : List Addr), v = .ref p ∧ as.length = n ∧ H p = some (.lst (as.map V.ref)) ∧ ∀ (i : Nat) a, as[i]? = some a → H a = some (o i)
theorem LstN.stays {n : Nat} {o : Nat → HO} : Stays (LstN n o) := fun _ _ _ s ⟨p, as, e, l, hp, h⟩ => ⟨p, as, e, l, s _ _ hp, fun i a ha => s _ _ (h i a ha)⟩
/-- .. while it is made at D -/
def CwN (H : Hp) (o : Nat → HO) (D : Addr) (i : Nat) (H' : Hp) : Prop := H D = none ∧ Ex H H' ∧ ∃ as : List Addr, as.length = i ∧ H' D = some (.lst (as.map V.ref)) ∧ ∀ (k : Nat) a, as[k]? = some a → a ≠ D ∧ H' a = some (o k)
theorem cwN_turn {te : TE} {H H' : Hp} {o : Nat → HO} {D : Addr} {i : Nat} {σ2 : L2.St} (p : CwN H o D i H') (hi : i < 50000) (he : EvN te σ2 H (o i)) :
    te σ2 H' fun y H4 => ∃ acc, H4 D = some (.lst acc) ∧ acc.length < sizeLine ∧ CwN H o D (i + 1) (upd H4 D (.lst (acc ++ [y]))) := by
  obtain ⟨p1, p2, as, l, hD, h⟩ := p
  refine he H' p2 _ fun a H4 ha e4 h4 => ⟨as.map V.ref, e4 _ _ hD, by rw [List.length_map, l]; exact sz_lt (by omega), p1, Ex.mut (p2.trans e4) p1, as ++ [a], ?_, ?_, ?_⟩
  · rw [List.length_append, l]
    rfl
  · rw [upd_same, List.map_append]
    rfl
  · have aD : a ≠ D := fun z => by
      rw [z, hD] at ha
      cases ha
    intro k b hb
    by_cases hk : k < as.length
    · rw [List.getElem?_append_left hk] at hb
      obtain ⟨h1, h2⟩ := h k b hb
      exact ⟨h1, (upd_ne h1).trans (e4 _ _ h2)⟩
    · rw [List.getElem?_append_right (by omega)] at hb
      have hk2 : k = i := by
        have := (List.getElem?_eq_some_iff.mp hb).1
        simp only [List.length_singleton] at this
        omega
      subst hk2
      rw [l, Nat.sub_self] at hb
      have : a = b := Option.some.inj hb
      subst this
      exact ⟨aD, (upd_ne aD).trans h4⟩
section
variable {K : PySem.W.Frag} {σ : L2.St} {H H' : Hp} {ta tb te tc tl : TE} {x y z v : V}
theorem en_lcL {a : Addr} {xs : List V} {j : Nat} {vs : List Nat} (o : Nat → HO) (h : Ev tl σ H (.ref a)) (hx : SqL K H a xs) (hz : xs.length ≤ 40000) (hw : ∀ x, wipe ((wipe σ vs).set j (some x)) vs = wipe σ vs)
    (he : ∀ (i : Nat) (x : V) H1, Ex H H1 → xs[i]? = some x → EvN te ((wipe σ vs).set j (some x)) H1 (o i)) :
    EvP (tLc (iList K tl) (gName j) tYes te vs) σ H (LstN xs.length o) := fun H0 e Q q => h H0 e _ fun H1 e1 => ⟨a, rfl, ⟨xs, ex_l (e.trans e1) hx⟩, fun D hD =>
  lc_list (xs := xs) (CwN H1 o D) ⟨hD, Ex.new hD, [], rfl, upd_same, fun k a z => by simp at z⟩ (fun i H' _ p => ex_l ((e.trans e1).trans p.2.1) hx)
    (fun i x H' hi p => ⟨hw x, cwN_turn p (by have := (List.getElem?_eq_some_iff.mp hi).1; omega) (he i x H1 (e.trans e1) hi)⟩)
    (fun H' ⟨p1, p2, as, l, h1, h2⟩ => q _ H' (e1.trans p2) ⟨D, as, rfl, l, h1, fun i a ha => (h2 i a ha).2⟩)⟩
theorem en_lcR1 {ta : TA} {j : Nat} {vs : List Nat} {n : Nat} (o : Nat → HO) (h : EvA ta σ H [.int (n : Int)]) (hn : n ≤ 40000) (hw : ∀ x, wipe ((wipe σ vs).set j (some x)) vs = wipe σ vs)
    (he : ∀ (i : Nat) H1, Ex H H1 → i < n → EvN te ((wipe σ vs).set j (some (.int (i : Int)))) H1 (o i)) :
    EvP (tLc (iRng1 ta) (gName j) tYes te vs) σ H (LstN n o) := fun H0 e Q q => h H0 e _ fun H1 e1 => ⟨(n : Int), rfl, by omega, by omega, fun D hD =>
  lc_range (lo := 0) (n := (n : Int).toNat) (CwN H1 o D) ⟨hD, Ex.new hD, [], rfl, upd_same, fun k a z => by simp at z⟩
    (fun i H' hi p => by
      have e0 : (0 : Int) + (i : Int) = (i : Int) := Int.zero_add _
      have hi' : i < n := by omega
      show wipe ((wipe σ vs).set j (some (.int ((0 : Int) + (i : Int))))) vs = wipe σ vs ∧ te ((wipe σ vs).set j (some (.int ((0 : Int) + (i : Int))))) H' fun y H4 => ∃ acc, H4 D = some (.lst acc) ∧ acc.length < sizeLine ∧ CwN H1 o D (i + 1) (upd H4 D (.lst (acc ++ [y])))
      rw [e0]
      exact ⟨hw _, cwN_turn p (by omega) (he i H1 (e.trans e1) hi')⟩)
    (fun H' ⟨p1, p2, as, l, h1, h2⟩ => q _ H' (e1.trans p2) ⟨D, as, rfl, by rw [l]; omega, h1, fun i a ha => (h2 i a ha).2⟩)⟩
/-- e.value -/
theorem ev_xv {C a fI : Addr} (he : Ev te σ H (.ref a)) (T : XcT K C fI) (x : ExV H C a v) : Ev (tXv K te) σ H v := fun H1 e Q q =>
  he H1 e _ fun H2 e2 => ⟨a, C, fI, v, rfl, T, x.same (e.trans e2), q H2 e2⟩
/-- repr(..) -/
theorem ev_repr {a : Addr} {d : PyData} (he : Ev te σ H (.ref a)) (hd : Dr K H (.ref a) d) (nd : ∀ kvs, d ≠ .dict kvs) (hs : d.showable = true) (hp : d.depth ≤ 60) (hz : d.shown.length ≤ sizeLine) :
    Ev (tCB (rRepr K) (tCons te tNil)) σ H (.str d.shown) := fun H1 e Q q => he H1 e _ fun H2 e2 => ⟨a, d, rfl, hd.ex (e.trans e2), nd, hs, hp, hz, q H2 e2⟩
theorem ev_reprL {xs : List V} {ds : List PyData} (he : EvL te σ H xs) (hd : DrAll K H xs ds) (hs : (PyData.list ds).showable = true) (hp : (PyData.list ds).depth ≤ 60) (hz : (PyData.list ds).shown.length ≤ sizeLine) :
    Ev (tCB (rRepr K) (tCons te tNil)) σ H (.str (PyData.list ds).shown) := fun H1 e Q q =>
  he H1 e _ fun p H2 _ e2 h2 => ⟨p, .list ds, rfl, .lst (SqL.of h2) (hd.ex (e.trans e2)), (fun _ z => nomatch z), hs, hp, hz, q H2 e2⟩
theorem el_rep {xs : List V} {n : Nat} (ha : EvL ta σ H xs) (hb : Ev tb σ H (.int (n : Int))) (hn : xs.length * n ≤ 100000) (h1 : n < 1000000) : EvL (tOp rRep ta tb) σ H (List.replicate n xs).flatten := fun H1 e Q q =>
  ha H1 e _ fun l H2 n2 e2 h2 => hb H2 (e.trans e2) _ fun H3 e3 => ⟨l, (n : Int), xs, rfl, rfl, e3 _ _ h2, by omega, by omega, sz_of hn, fun p hp =>
    q p _ (fresh_back (e2.trans e3) hp) ((e2.trans e3).trans (Ex.new hp)) upd_same⟩
theorem rv_eqD {d e : PyData} (h1 : Dp K H x d) (h2 : Dp K H y e) (s1 : SeqAt.shaped d = true) (s2 : SeqAt.shaped e = true) : RV (rEqD K) x y H (.bl (PyData.eqv d e)) := fun H1 ex Q q =>
  ⟨d, e, dp_ex ex h1, dp_ex ex h2, s1, s2, q H1 (Ex.refl _)⟩
end
/-- data: repeated, of few nodes -/
theorem flat_one (n : Nat) (v : V) : (List.replicate n [v]).flatten = List.replicate n v := by
  induction n with
  | zero => rfl
  | succ n ih =>
    rw [List.replicate_succ, List.flatten_cons, ih]
    rfl
theorem depth_rep {d : PyData} {k : Nat} (h : d.depth ≤ k) : ∀ n, PyData.depthAll (List.replicate n d) ≤ k
  | 0 => by rw [List.replicate_zero, PyData.depthAll]; exact Nat.zero_le _
  | n + 1 => by
    rw [List.replicate_succ, PyData.depthAll]
    exact Nat.max_le.mpr ⟨h, depth_rep h n⟩
theorem showable_rep {d : PyData} (h : d.showable = true) : ∀ n, PyData.showableAll (List.replicate n d) = true
  | 0 => by rw [List.replicate_zero, PyData.showableAll]
  | n + 1 => by rw [List.replicate_succ, PyData.showableAll, h, showable_rep h n]; rfl
theorem textFrom_rep {x : Str} : ∀ (n k : Nat) (acc : Str), (textFrom k acc (List.replicate n x)).length ≤ acc.length + n * (x.length + 2)
  | 0, k, acc => by
    rw [List.replicate_zero]
    show acc.length ≤ _
    omega
  | n + 1, k, acc => by
    rw [List.replicate_succ]
    have ih := textFrom_rep (x := x) n (k + 1) (acc ++ (if k > 0 then ", " else "" : String) ++ x)
    show (textFrom (k + 1) (acc ++ (if k > 0 then ", " else "" : String) ++ x) (List.replicate n x)).length ≤ _
    rw [strLen_append, strLen_append] at ih
    have h2 : ((if k > 0 then ", " else "" : String) : Str).length ≤ 2 := by
      split
      · decide +kernel
      · decide +kernel
    rw [Nat.succ_mul]
    omega
theorem shownAll_rep (d : PyData) : ∀ n, PyData.shownAll (List.replicate n d) = List.replicate n d.shown
  | 0 => by rw [List.replicate_zero, PyData.shownAll, List.replicate_zero]
  | n + 1 => by rw [List.replicate_succ, PyData.shownAll, shownAll_rep d n, List.replicate_succ]
theorem shown_rep {d : PyData} {k n : Nat} (h : d.shown.length ≤ k) : (PyData.list (List.replicate n d)).shown.length ≤ 2 + n * (k + 2) := by
  rw [PyData.shown, shownAll_rep]
  show (textFrom 0 "[" (List.replicate n d.shown) ++ "]").length ≤ _
  rw [strLen_append]
  have h1 := textFrom_rep (x := d.shown) n 0 "["
  have h2 : n * (d.shown.length + 2) ≤ n * (k + 2) := Nat.mul_le_mul_left _ (by omega)
  have h3 : ("[" : Str).length = 1 := by decide +kernel
  have h4 : ("]" : Str).length = 1 := by decide +kernel
  omega
end Wr
set_option Elab.async false
set_option linter.all false
set_option maxRecDepth 100000
set_option maxHeartbeats 2000000
namespace Wr
open PySem PySem.Spec PyProof.Rows L2 Evl
section
variable {K : PySem.W.Frag} {σ : L2.St} {H H' : Hp} {ta tb te tc : TE} {x y z v : V}
theorem el_cat {l : Addr} {xs zs : List V} (ha : Ev ta σ H (.ref l)) (hl : H l = some (.lst xs)) (hb : EvL tb σ H zs)
    (hz : xs.length + zs.length ≤ 100000) : EvL (tOp rCat ta tb) σ H (xs ++ zs) := fun H1 e Q q =>
  ha H1 e _ fun H2 e2 => hb H2 (e.trans e2) _ fun b H3 _ e3 h3 =>
    ⟨l, b, xs, zs, rfl, rfl, e3 l _ (e2 l _ (e l _ hl)), h3, sz_of hz, fun p hp =>
      q p _ (fresh_back (e2.trans e3) hp) ((e2.trans e3).trans (Ex.new hp)) upd_same⟩
theorem ExV.ex {C a : Addr} (s : Ex H H') (x : ExV H C a v) : ExV H' C a v := x.same s
theorem ev_isX {a C fI : Addr} {c : V} {cv : Value} {b : Bool} (ha : Ev te σ H (.ref a)) (hc : Ev tc σ H c) (T : XcT K C fI) (W : ClW K) (xv : ExV H C a v)
    (k : ClsV c cv) (e : PySem.W.kitOne K (.ref C) cv = some b) : Ev (tCB (rIsX K) (tCons te (tCons tc tNil))) σ H (.bl b) :=
  ev_cb (ea_cons ha (ea_cons hc ea_nil)) fun H1 ex Q q => ⟨a, C, fI, v, c, cv, b, rfl, T, W, xv.ex ex, k, e, q H1 (Ex.refl _)⟩
end
theorem ev_lenS {K : PySem.W.Frag} {σ : L2.St} {H : Hp} {te : TE} {p : Addr} {xs : List V} (ha : Ev te σ H (.ref p)) (h : H p = some (.lst xs)) :
    Ev (tCB (rLenS K) (tCons te tNil)) σ H (.int (xs.length : Int)) := ev_len ha (SqL.of h)
/-- an error class of the program: its words, its __init__ -/
structure XcF (K : PySem.W.Frag) (C fI : Addr) : Prop where
  x : XcT K C fI
  D : ∃ (qual : Str) (fd : FuncData) (q1 q2 q3 p1 p2 p3 p4 : Pos), FunD K "__init__" qual (xiA q1 q2 q3) (xiB p1 p2 p3 p4) xiS [.non] [] fI fd
def gvA (vs zs : List V) : List V := vs
def gvB (vs zs : List V) : List V := vs ++ zs
def gvC (vs zs : List V) : List V := vs ++ [V.non]
theorem XcF.use {K : PySem.W.Frag} {C fI : Addr} (X : XcF K C fI) (P : Program) (w : World) (mg : Str → Option Value) (base : Heap) :
    ∃ (fd : FuncData) (g1 g2 g0 : List Value → List Value → List Value), FnOk P w K mg base CX0 1 fI fd ["self", "value"] (spXi C) ∧
      KBn K fd ["self", "value"] (1 + 1) [] g1 gvA ∧ KBn K fd ["self", "value"] (0 + 1) ["value"] g2 gvB ∧ KBn K fd ["self", "value"] (0 + 1) [] g0 gvC := by
  obtain ⟨qual, fd, q1, q2, q3, p1, p2, p3, p4, D⟩ := X.D
  obtain ⟨_, h1⟩ := xi_b1 D
  obtain ⟨_, h2⟩ := xi_b2 D
  obtain ⟨_, h0⟩ := xi_b0 D
  exact ⟨fd, _, _, _, xi_ok D X.x, h1, h2, h0⟩
end Wr
namespace K01
open PySem PySem.Spec PyProof.Rows L2 Wr Evl
abbrev s__law_classes : Stmt := top 13
theorem sc__law_classes : FnScope ["_law_error", "_law_some", "_law_at"] ["_law_error"] (defScope s__law_classes) := ⟨rfl, rfl, rfl, by decide +kernel, rfl, by decide +kernel, by decide +kernel⟩
abbrev s__law_right : Stmt := top 14
theorem sc__law_right : FnScope ["_law_errors", "_law_given", "_law_told", "_law_error", "_law_at"] ["_law_errors", "_law_given"] (defScope s__law_right) := ⟨rfl, rfl, rfl, by decide +kernel, rfl, by decide +kernel, by decide +kernel⟩
/-- the program's words: the eight classes -/
structure Txc (K : PySem.W.Frag) (mg : Str → Option Value) where
  T : Txt K mg
  c : Nat → Addr
  f : Nat → Addr
  x : ∀ i, i < 8 → XcF K (c i) (f i)
  g_InvalidMessage : mg "InvalidMessage" = some (.ref (c 0))
  g_InvalidMessages : mg "InvalidMessages" = some (.ref (c 1))
  g_InvalidName : mg "InvalidName" = some (.ref (c 2))
  g_InvalidCalls : mg "InvalidCalls" = some (.ref (c 3))
  g_InvalidPause : mg "InvalidPause" = some (.ref (c 4))
  g_InvalidTime : mg "InvalidTime" = some (.ref (c 5))
  g_InvalidNumber : mg "InvalidNumber" = some (.ref (c 6))
  g_WireRanksError : mg "WireRanksError" = some (.ref (c 7))
  kit : ∀ i j, i < 7 → j < 7 → PySem.W.kitOne K (.ref (c i)) (.ref (c j)) = some (decide (i = j))
  kitB : ∀ i, i < 8 → PySem.W.kitOne K (.ref (c i)) (.ref (c 7)) = some true
  kitV : ∀ i, i < 8 → PySem.W.kitOne K (.ref (c i)) (.type "ValueError") = some true
  cw : ClW K
  classes : Df K mg "_law_classes" s__law_classes
  right : Df K mg "_law_right" s__law_right
  z_isinstance : mg "isinstance" = none
  z_ValueError : mg "ValueError" = none
  z_range : mg "range" = none
  z_repr : mg "repr" = none
  z_list : mg "list" = none
  z_dict : mg "dict" = none
section
variable {P : Program} {w : World} {K : PySem.W.Frag} {mg : Str → Option Value} {base : Heap}
/-- _law_classes(error), the error one of the i-th class -/
def spClasses (c : Nat → Addr) : Sp := fun vs H Q _ => ∃ (a : Addr) (i : Nat) (v : V), vs = [.ref a] ∧ i < 7 ∧ ExV H (c i) a v ∧
  ∀ p H', H p = none → Ex H H' → H' p = some (.lst [.int (i : Int)]) → Q (.ref p) H'
theorem given_one {i : Nat} (hi : i < 7) {g : Nat → Bool} (hg : ∀ j, j < 7 → g j = decide (i = j)) : given 7 g (fun j => V.int (j : Int)) = [.int (i : Int)] := by
  have e : given 7 g (fun j => V.int (j : Int)) = given 7 (fun j => decide (i = j)) (fun j => V.int (j : Int)) := by
    unfold given
    rw [List.filter_congr fun j hj => hg j (List.mem_range.mp hj)]
  rw [e]
  match i, hi with
  | 0, _ => rfl
  | 1, _ => rfl
  | 2, _ => rfl
  | 3, _ => rfl
  | 4, _ => rfl
  | 5, _ => rfl
  | 6, _ => rfl
theorem ok_classes (T : Txc K mg) : FnOk P w K mg base CX0 1 T.classes.a T.classes.d ["_law_error"] (spClasses T.c) := by
  refine T.classes.F.ok sc__law_classes ?_ ?_
  · rintro vs H Q E ⟨a, i, v, rfl, _⟩
    rfl
  · rintro cdv A outer s H vs Q E hr ⟨a, i, v, rfl, hi, xv, q⟩
    refine ⟨_, (pss_cons (ps_set (i := 1) sc__law_classes.nd rfl (Or.inr rfl) (pe_lst (pa_cons (pe_callB call_isX (by rfl) T.z_isinstance (by decide +kernel) (pa_cons (pv 0) (pa_cons (pe_glob (v := .ref _) rfl T.g_InvalidMessage rfl) pa_nil))) (pa_cons (pe_callB call_isX (by rfl) T.z_isinstance (by decide +kernel) (pa_cons (pv 0) (pa_cons (pe_glob (v := .ref _) rfl T.g_InvalidMessages rfl) pa_nil))) pa_nil))))
    (pss_cons (ps_set (i := 1) sc__law_classes.nd rfl (Or.inr rfl) (pe_op op_cat (pv 1) (pe_lst (pa_cons (pe_callB call_isX (by rfl) T.z_isinstance (by decide +kernel) (pa_cons (pv 0) (pa_cons (pe_glob (v := .ref _) rfl T.g_InvalidName rfl) pa_nil))) pa_nil))))
    (pss_cons (ps_set (i := 1) sc__law_classes.nd rfl (Or.inr rfl) (pe_op op_cat (pv 1) (pe_lst (pa_cons (pe_callB call_isX (by rfl) T.z_isinstance (by decide +kernel) (pa_cons (pv 0) (pa_cons (pe_glob (v := .ref _) rfl T.g_InvalidCalls rfl) pa_nil))) (pa_cons (pe_callB call_isX (by rfl) T.z_isinstance (by decide +kernel) (pa_cons (pv 0) (pa_cons (pe_glob (v := .ref _) rfl T.g_InvalidPause rfl) pa_nil))) pa_nil)))))
    (pss_cons (ps_set (i := 1) sc__law_classes.nd rfl (Or.inr rfl) (pe_op op_cat (pv 1) (pe_lst (pa_cons (pe_callB call_isX (by rfl) T.z_isinstance (by decide +kernel) (pa_cons (pv 0) (pa_cons (pe_glob (v := .ref _) rfl T.g_InvalidTime rfl) pa_nil))) pa_nil))))
    (pss_cons (ps_expr (pe_bm PySem.F.plainAttrs_list PySem.F.slot_list_append PySem.F.type_list_append mt_append (pv 1) (pa_cons (pe_callB call_isX (by rfl) T.z_isinstance (by decide +kernel) (pa_cons (pv 0) (pa_cons (pe_glob (v := .ref _) rfl T.g_InvalidNumber rfl) pa_nil))) pa_nil)))
    (pss_cons (ps_if (PW.pt (pw_or (pt_not (pt_val (pe_callB call_isX (by rfl) T.z_isinstance (by decide +kernel) (pa_cons (pv 0) (pa_cons (pe_glob (v := .ref _) rfl T.g_WireRanksError rfl) pa_nil))))) (pw_or1 (pt_not (pt_val (pe_callB call_isX (by rfl) T.z_isinstance (by decide +kernel) (pa_cons (pv 0) (pa_cons (pe_bltn (v := .ty "ValueError") (by rfl) T.z_ValueError (by decide +kernel) rfl) pa_nil)))))))) 
      (pss_one (ps_ret (pe_lst pa_nil))) pss_nil)
    (pss_one (ps_ret (pe_lc (own := [("_law_at", 2)])  rfl sc__law_classes.nd (pi_range1 rfl T.z_range (pa_cons (pe_callB call_len_seq (by rfl) T.T.z_len (by decide +kernel) (pa_cons (pv 1) pa_nil)) pa_nil)) (blkOk_by (N := ["_law_error", "_law_some", "_law_at"]) (sc := defScope s__law_classes) (by decide +kernel)) (fun _ _ _ _ _ => pg_name (i := 2) sc__law_classes.nd rfl (Or.inl rfl)) (fun _ _ _ _ _ => (pts_one (pt_val (pe_ix (r := rIxL K) ix_list (pv 1) (pv 2) (fun _ _ => rfl))))) (fun _ _ _ _ _ => (pv 2))))))))))), ?_⟩
    have isx : ∀ (σ : L2.St) (H1 : Hp) (j : Nat), Ex H H1 → j < 7 → σ[0]? = some (some (.ref a)) → Ev (tCB (rIsX K) (tCons (tVar 0) (tCons (tC (.ref (T.c j))) tNil))) σ H1 (.bl (decide (i = j))) :=
      fun σ H1 j e hj h0 => ev_isX (ev_var h0) ev_c (T.x i (by omega)).x T.cw (xv.ex e) (.own _) (T.kit i j hi hj)
    refine q_asgL (el_lst (ea_cons (isx _ _ 0 (Ex.refl _) (by decide) rfl) (ea_cons (isx _ _ 1 (Ex.refl _) (by decide) rfl) ea_nil)) (by show 2 ≤ 100000; decide)) fun p1 H1 n1 e1 l1 => ?_
    refine q_asgL (el_cat (ev_var rfl) l1 (el_lst (ea_cons (isx _ _ 2 e1 (by decide) rfl) ea_nil) (by show 1 ≤ 100000; decide)) (by show 3 ≤ 100000; decide)) fun p2 H2 n2 e2 l2 => ?_
    have f2 := e1.trans e2
    refine q_asgL (el_cat (ev_var rfl) l2 (el_lst (ea_cons (isx _ _ 3 f2 (by decide) rfl) (ea_cons (isx _ _ 4 f2 (by decide) rfl) ea_nil)) (by show 2 ≤ 100000; decide)) (by show 5 ≤ 100000; decide)) fun p3 H3 n3 e3 l3 => ?_
    have f3 := f2.trans e3
    refine q_asgL (el_cat (ev_var rfl) l3 (el_lst (ea_cons (isx _ _ 5 f3 (by decide) rfl) ea_nil) (by show 1 ≤ 100000; decide)) (by show 6 ≤ 100000; decide)) fun p4 H4 n4 e4 l4 => ?_
    have f4 := f3.trans e4
    refine q_app l4 (ev_var rfl) (isx _ _ 6 f4 (by decide) rfl) (by show 6 < 100000; decide) fun H5 e5 => ?_
    have h4 : H p4 = none := fresh_back f3 n4
    have f5 : Ex H (upd H5 p4 (.lst [.bl (decide (i = 0)), .bl (decide (i = 1)), .bl (decide (i = 2)), .bl (decide (i = 3)), .bl (decide (i = 4)), .bl (decide (i = 5)), .bl (decide (i = 6))])) := Ex.mut (f4.trans e5) h4
    generalize hG : upd H5 p4 (.lst [.bl (decide (i = 0)), .bl (decide (i = 1)), .bl (decide (i = 2)), .bl (decide (i = 3)), .bl (decide (i = 4)), .bl (decide (i = 5)), .bl (decide (i = 6))]) = G at f5
    have l6 : G p4 = some (.lst [.bl (decide (i = 0)), .bl (decide (i = 1)), .bl (decide (i = 2)), .bl (decide (i = 3)), .bl (decide (i = 4)), .bl (decide (i = 5)), .bl (decide (i = 6))]) := by
      rw [← hG]
      exact upd_same
    show tSeq _ _ _ _ (upd H5 p4 (.lst [.bl (decide (i = 0)), .bl (decide (i = 1)), .bl (decide (i = 2)), .bl (decide (i = 3)), .bl (decide (i = 4)), .bl (decide (i = 5)), .bl (decide (i = 6))]))
    rw [hG]
    have t1 : EvT (tNot (tB (tCB (rIsX K) (tCons (tVar 0) (tCons (tC (.ref (T.c 7))) tNil))))) [some (.ref a), some (.ref p4), none] G false :=
      et_not (a := true) (et_B (ev_isX (ev_var rfl) ev_c (T.x i (by omega)).x T.cw (xv.ex f5) (.own _) (T.kitB i (by omega))))
    have t2 : EvT (tNot (tB (tCB (rIsX K) (tCons (tVar 0) (tCons (tC (.ty "ValueError")) tNil))))) [some (.ref a), some (.ref p4), none] G false :=
      et_not (a := true) (et_B (ev_isX (ev_var rfl) ev_c (T.x i (by omega)).x T.cw (xv.ex f5) (.ty _) (T.kitV i (by omega))))
    refine q_when (et_or t1 fun _ => t2) (fun h => absurd h (by decide)) fun _ H6 e6 => ?_
    have l7 := e6 _ _ l6
    refine s_retL (el_lcR1 (fun j => decide (i = j)) (fun j => V.int (j : Int)) (n := 7) (ea_cons (ev_is (w := .int 7) (ev_lenS (ev_var rfl) l7) rfl) ea_nil) ⟨by decide, by decide⟩ (fun _ => rfl) ?_ ?_) ?_
    · intro j H7 e7 hj
      refine et_B (ev_op (ev_var rfl) (ev_var rfl) (rv_ixL (SqL.of (e7 _ _ l7)) (atI_nat' ?_)))
      have hj7 : j < 7 := by omega
      match j, hj7 with
      | 0, _ => rfl
      | 1, _ => rfl
      | 2, _ => rfl
      | 3, _ => rfl
      | 4, _ => rfl
      | 5, _ => rfl
      | 6, _ => rfl
    · intro j H7 e7 hj _
      exact ev_var rfl
    · intro p H7 hp e7 hl
      refine q p H7 (fresh_back (f5.trans e6) hp) ((f5.trans e6).trans e7) ?_
      rw [hl]
      exact congrArg (fun z => some (HO.lst z)) (given_one hi fun _ _ => rfl)
end
end K01
set_option Elab.async false
set_option linter.all false
set_option maxRecDepth 100000
set_option maxHeartbeats 2000000
namespace Wr
open PySem PySem.Spec PyProof.Rows L2 Evl
theorem pe_xvK {X : Cx} {K : PySem.W.Frag} {e : Expr} {te : TE} {pos : Pos} (he : PE X e te) (hK : X.K = K := by rfl) (hb : attributeBase e "value" X.env (eval e X.env) = eval e X.env := by rfl) :
    PE X (.Attribute e "value" pos) (tXv K te) := by
  subst hK
  exact pe_xv he hb
theorem et_yes {σ : L2.St} {H : Hp} : EvT tYes σ H true := fun H1 _ Q q => q H1 (Ex.refl _)
end Wr
namespace K01
open PySem PySem.Spec PyProof.Rows L2 Wr Evl
section
variable {P : Program} {w : World} {K : PySem.W.Frag} {mg : Str → Option Value} {base : Heap}
/-- the seven errors, each with the value g -/
structure Errs (c : Nat → Addr) (H : Hp) (es : List V) (g : V) : Prop where
  len : es.length = 7
  at_ : ∀ i, i < 7 → ∃ a, es[i]? = some (.ref a) ∧ ExV H (c i) a g
theorem Errs.ex {c : Nat → Addr} {H H' : Hp} {es : List V} {g : V} (s : Ex H H') (x : Errs c H es g) : Errs c H' es g :=
  ⟨x.len, fun i hi => let ⟨a, h1, h2⟩ := x.at_ i hi; ⟨a, h1, h2.same s⟩⟩
def spRight (K : PySem.W.Frag) (c : Nat → Addr) : Sp := fun vs H Q _ => ∃ (l : Addr) (es : List V) (g : V) (d : PyData), vs = [.ref l, g] ∧ SqL K H l es ∧ Errs c H es g ∧
  Dr K H g d ∧ d.showable = true ∧ d.depth ≤ 20 ∧ d.shown.length ≤ 100000 ∧ ∀ H', Ex H H' → Q (.bl true) H'
theorem ok_right (T : Txc K mg) : FnG P w K mg base CX0 2 T.right.a T.right.d ["_law_errors", "_law_given"] (spRight K T.c) := by
  have G__law_classes := ok_classes (P := P) (w := w) (base := base) T
  have b__law_classes : Binds K T.classes.d ["_law_error"] [] := Txt.b2 T.classes fun _ _ _ _ _ _ us hl => match us, hl with | [_], _ => rfl
  refine fun_okG T.right.F sc__law_right ?_ ?_
  · rintro vs H Q E ⟨l, es, g, d, rfl, _⟩
    rfl
  · rintro cdv A outer s H vs Q E gd hr ⟨l, es, g, d, rfl, hl, he, hd, hs, hp, hz, q⟩
    refine ⟨_, (pss_cons (ps_setLc (i := 2) (own := [("_law_error", 3)]) rfl sc__law_right.nd rfl rfl (sw_true rfl rfl rfl (by decide +kernel)) (pi_list (pv 0)) (blkOk_by (N := ["_law_errors", "_law_given", "_law_told", "_law_error", "_law_at"]) (sc := defScope s__law_right) (by decide +kernel)) (fun _ _ _ _ _ => pg_name (i := 3) sc__law_right.nd rfl (Or.inl rfl)) (fun _ _ _ _ _ => pts_nil) (fun _ _ _ _ _ => (pe_xvK (pv 3))))
      (pss_cons (ps_if (pt_cmpR op_ne (pe_callB (call_repr gd hr.units) (by rfl) T.z_repr (by decide +kernel) (pa_cons (pv 2) pa_nil)) (pe_callB (call_repr gd hr.units) (by rfl) T.z_repr (by decide +kernel) (pa_cons (pe_op op_rep (pe_lst (pa_cons (pv 1) pa_nil)) (pe_callB call_len_seq (by rfl) T.T.z_len (by decide +kernel) (pa_cons (pv 0) pa_nil))) pa_nil)) (nomark _)) 
        (pss_one (ps_ret pe_bl)) pss_nil)
      (pss_one (ps_ret (pe_cmpR (op_eqD hr.units) (pe_lc (own := [("_law_error", 3)]) rfl sc__law_right.nd (pi_list (pv 0)) (blkOk_by (N := ["_law_errors", "_law_given", "_law_told", "_law_error", "_law_at"]) (sc := defScope s__law_right) (by decide +kernel)) (fun _ _ _ _ _ => pg_name (i := 3) sc__law_right.nd rfl (Or.inl rfl)) (fun _ _ _ _ _ => pts_nil) (fun _ _ _ _ _ => (pe_call G__law_classes (hr.mono (by decide)) rfl T.classes.g T.classes.F.kp b__law_classes .nil pass0 (pa_cons (pv 3) pa_nil)))) (pe_lc (own := [("_law_at", 4)]) rfl sc__law_right.nd (pi_range1 rfl T.z_range (pa_cons (pe_callB call_len_seq (by rfl) T.T.z_len (by decide +kernel) (pa_cons (pv 0) pa_nil)) pa_nil)) (blkOk_by (N := ["_law_errors", "_law_given", "_law_told", "_law_error", "_law_at"]) (sc := defScope s__law_right) (by decide +kernel)) (fun _ _ _ _ _ => pg_name (i := 4) sc__law_right.nd rfl (Or.inl rfl)) (fun _ _ _ _ _ => pts_nil) (fun _ _ _ _ _ => (pe_lst (pa_cons (pv 4) pa_nil)))) (nomark _)))))), ?_⟩
    have ex_at : ∀ (i : Nat) (x : V), es[i]? = some x → ∃ a, x = .ref a ∧ ExV H (T.c i) a g ∧ i < 7 := by
      intro i x hx
      have h7 : i < 7 := by
        have h := (List.getElem?_eq_some_iff.mp hx).1
        rw [he.len] at h
        exact h
      obtain ⟨a, h1, h2⟩ := he.at_ i h7
      rw [h1] at hx
      exact ⟨a, (Option.some.inj hx).symm, h2, h7⟩
    have told : given es.length (fun _ => true) (fun _ => g) = List.replicate 7 g := by
      rw [he.len]
      rfl
    have l1 := el_lcL (K := K) (σ := [some (.ref l), some g, none, none, none]) (H := H) (t := tYes) (te := tXv K (tVar 3)) (tl := tVar 0) (j := 3) (vs := [3]) (fun _ => true) (fun _ => g) (ev_var rfl) hl (by rw [he.len]; decide) (fun _ => rfl)
      (fun _ _ _ _ _ => et_yes) (fun i x H1 e1 hx _ => by
        obtain ⟨a, rfl, xv, h7⟩ := ex_at i x hx
        exact ev_xv (ev_var rfl) (T.x i (by omega)).x (xv.same e1))
    rw [told] at l1
    refine q_asgL l1 fun p1 H1 n1 e1 h1 => ?_
    have s2 : (PyData.list (List.replicate 7 d)).showable = true := by
      rw [PyData.showable]
      exact showable_rep hs 7
    have d2 : (PyData.list (List.replicate 7 d)).depth ≤ 60 := by
      rw [PyData.depth]
      have := depth_rep hp 7
      omega
    have z2 : (PyData.list (List.replicate 7 d)).shown.length ≤ sizeLine := by
      have := shown_rep (n := 7) hz
      rw [sizeLine_eq]
      omega
    have hd1 := hd.ex e1
    have r1 : Ev (tCB (rRepr K) (tCons (tVar 2) tNil)) [some (.ref l), some g, some (.ref p1), none, none] H1 (.str (PyData.list (List.replicate 7 d)).shown) :=
      ev_repr (ev_var rfl) (.lst (SqL.of h1) (DrAll.rep hd1 7)) (fun _ z => nomatch z) s2 d2 z2
    have r2 : EvL (tOp rRep (tLst (tCons (tVar 1) tNil)) (tCB (rLenS K) (tCons (tVar 0) tNil))) [some (.ref l), some g, some (.ref p1), none, none] H1 (List.replicate 7 g) := by
      have := el_rep (n := 7) (el_lst (σ := [some (.ref l), some g, some (.ref p1), none, none]) (H := H1) (ea_cons (ev_var (i := 1) (v := g) rfl) ea_nil) (by show 1 ≤ 100000; decide)) (ev_is (w := .int ((7 : Nat) : Int)) (ev_len (ev_var (i := 0) rfl) (ex_l e1 hl)) (by rw [he.len])) (by show 1 * 7 ≤ 100000; decide) (by decide)
      rw [flat_one] at this
      exact this
    have r3 := ev_reprL r2 (DrAll.rep hd1 7) s2 d2 z2
    refine q_when (b := false) (et_is (et_test (ev_op r1 r3 (rv_ne rfl))) (by rw [decide_eq_true rfl]; rfl)) (fun z => nomatch z) fun _ H2 e2 => ?_
    have e02 := e1.trans e2
    have c1 := en_lcL (K := K) (σ := [some (.ref l), some g, some (.ref p1), none, none]) (H := H2) (te := tCall (spClasses T.c) [] E0 (tCons (tVar 3) tNil)) (tl := tVar 0) (j := 3) (vs := [3])
      (fun i => .lst [.int (i : Int)]) (ev_var rfl) (ex_l e02 hl) (by rw [he.len]; decide) (fun _ => rfl) (fun i x H3 e3 hx => by
        obtain ⟨a, rfl, xv, h7⟩ := ex_at i x hx
        intro H4 e4 Q4 q4
        exact ⟨_, rfl, a, i, g, rfl, h7, xv.same (e02.trans (e3.trans e4)), fun p H5 n5 e5 h5 => q4 p H5 n5 e5 h5⟩)
    have c2 := en_lcR1 (σ := [some (.ref l), some g, some (.ref p1), none, none]) (H := H2) (ta := tCons (tCB (rLenS K) (tCons (tVar 0) tNil)) tNil) (te := tLst (tCons (tVar 4) tNil)) (j := 4) (vs := [4]) (n := 7)
      (fun i => .lst [.int (i : Int)]) (ea_cons (ev_is (w := .int ((7 : Nat) : Int)) (ev_len (ev_var (i := 0) rfl) (ex_l e02 hl)) (by rw [he.len])) ea_nil) (by decide) (fun _ => rfl)
      (fun i H3 e3 hi => el_lst (ea_cons (ev_var rfl) ea_nil) (by show 1 ≤ 100000; decide))
    rw [he.len] at c1
    have dpl : ∀ v H3, LstN 7 (fun i => .lst [.int (i : Int)]) v H3 → Dp K H3 v (.list ((List.range 7).map fun (i : Nat) => PyData.list [.int (i : Int)])) := by
      rintro v H3 ⟨p, as, rfl, la, hpa, ha⟩
      refine .lst (SqL.of hpa) (dpAll_of (by rw [List.length_map, la]; rfl) ?_)
      intro i y dd hy hdd
      rw [List.getElem?_map] at hy hdd
      obtain ⟨a, ha1, rfl⟩ := Option.map_eq_some_iff.mp hy
      obtain ⟨k, hk1, rfl⟩ := Option.map_eq_some_iff.mp hdd
      have hk : k = i := by
        obtain ⟨hlt, hk2⟩ := List.getElem?_eq_some_iff.mp hk1
        rw [List.getElem_range] at hk2
        exact hk2.symm
      subst hk
      exact .lst (SqL.of (ha _ _ ha1)) (.cons (.int _) .nil)
    refine s_ret (ev_opP c1 c2 LstN.stays fun x y H3 e3 hx hy => rv_eqD (dpl _ _ hx) (dpl _ _ hy) (by decide +kernel) (by decide +kernel)) fun H3 e3 => ?_
    have eq1 : PyData.eqv (.list ((List.range 7).map fun (i : Nat) => PyData.list [.int (i : Int)])) (.list ((List.range 7).map fun (i : Nat) => PyData.list [.int (i : Int)])) = true := by decide +kernel
    rw [eq1]
    exact q _ (e02.trans e3)
end
end K01
set_option Elab.async false
set_option linter.all false
set_option maxRecDepth 100000
set_option maxHeartbeats 2000000
namespace Wr
open PySem PySem.Spec PyProof.Rows L2 Evl
/-! ### new errors, lists of them -/
/-- te makes an error of the class at C with the value v -/
def EvE (te : TE) (σ : L2.St) (H : Hp) (C : Addr) (v : V) : Prop := ∀ H1, Ex H H1 → ∀ Q : VK, (∀ a H2, H1 a = none → Ex H1 H2 → ExV H2 C a v → Q (.ref a) H2) → te σ H1 Q
theorem mkX_ex {H : Hp} {C a d : Addr} {v : V} (ha : H a = none) (hd : H d = none) : Ex H (mkX H C a d v) := mkX_same ha hd
section
variable {K : PySem.W.Frag} {σ : L2.St} {H H' : Hp} {ta tb te tc tl : TE} {tr tk : TA} {x y z v : V} {C : Addr}
theorem EvE.mono (e : Ex H H') (h : EvE te σ H C v) : EvE te σ H' C v := fun H1 a Q q => h H1 (e.trans a) Q q
theorem ee_X {n m : Nat} {gV : List V → List V → List V} {vs zs : List V} (h : EvA tr σ H vs) (hk : EvA tk σ H zs) (l1 : vs.length = n) (l2 : zs.length = m) (hv : ∀ a, gV (.ref a :: vs) zs = [.ref a, v]) :
    EvE (tMkX C n m gV tr tk) σ H C v := fun H1 e Q q => h H1 e _ fun H2 e2 => hk H2 (e.trans e2) _ fun H3 e3 =>
  ⟨l1, l2, v, hv, fun a d ha hd hn => q a _ (fresh_back (e2.trans e3) ha) ((e2.trans e3).trans (mkX_ex ha hd)) (mkX_at hn)⟩
/-- errors of the classes c i, c (i + 1), .. -/
def ErrsAt (c : Nat → Addr) (H : Hp) (g : V) : Nat → List V → Prop
  | _, [] => True
  | i, x :: xs => (∃ a, x = .ref a ∧ ExV H (c i) a g) ∧ ErrsAt c H g (i + 1) xs
theorem ErrsAt.ex {c : Nat → Addr} {g : V} (s : Ex H H') : ∀ {xs : List V} {i : Nat}, ErrsAt c H g i xs → ErrsAt c H' g i xs
  | [], _, h => h
  | _ :: _, _, ⟨⟨a, e, xv⟩, r⟩ => ⟨⟨a, e, xv.same s⟩, r.ex s⟩
theorem ErrsAt.app {c : Nat → Addr} {g : V} : ∀ {xs ys : List V} {i : Nat}, ErrsAt c H g i xs → ErrsAt c H g (i + xs.length) ys → ErrsAt c H g i (xs ++ ys)
  | [], _, _, _, h => by simpa using h
  | x :: xs, ys, i, ⟨h1, h2⟩, h => ⟨h1, h2.app (by rw [List.length_cons] at h; rw [show i + 1 + xs.length = i + (xs.length + 1) by omega]; exact h)⟩
theorem ErrsAt.get {c : Nat → Addr} {g : V} : ∀ {xs : List V} {i k : Nat}, ErrsAt c H g i xs → k < xs.length → ∃ a, xs[k]? = some (.ref a) ∧ ExV H (c (i + k)) a g
  | [], _, _, _, h => absurd h (by simp)
  | _ :: _, i, 0, ⟨⟨a, e, xv⟩, _⟩, _ => ⟨a, by rw [e]; rfl, xv⟩
  | _ :: xs, i, k + 1, ⟨_, r⟩, h => by
    obtain ⟨a, e, xv⟩ := r.get (k := k) (by simpa using h)
    exact ⟨a, e, by rw [show i + (k + 1) = i + 1 + k by omega]; exact xv⟩
/-- arguments that make n such errors -/
def EvEs (tr : TA) (σ : L2.St) (H : Hp) (c : Nat → Addr) (g : V) (i n : Nat) : Prop := ∀ H1, Ex H H1 → ∀ Q : List V → Hp → Prop, (∀ xs H2, Ex H1 H2 → ErrsAt c H2 g i xs → xs.length = n → Q xs H2) → tr σ H1 Q
theorem ees_nil {c : Nat → Addr} {g : V} {i : Nat} : EvEs tNil σ H c g i 0 := fun H1 _ Q q => q [] H1 (Ex.refl _) True.intro rfl
theorem ees_cons {c : Nat → Addr} {g : V} {i n : Nat} (h : EvE te σ H (c i) g) (r : EvEs tr σ H c g (i + 1) n) : EvEs (tCons te tr) σ H c g i (n + 1) := fun H1 e Q q =>
  h H1 e _ fun a H2 _ e2 xv => r H2 (e.trans e2) _ fun xs H3 e3 hx hl => q _ H3 (e2.trans e3) ⟨⟨a, rfl, xv.same e3⟩, hx⟩ (congrArg Nat.succ hl)
/-- te makes a new list of n such errors -/
def EvEL (te : TE) (σ : L2.St) (H : Hp) (c : Nat → Addr) (g : V) (i n : Nat) : Prop := ∀ H1, Ex H H1 → ∀ Q : VK, (∀ p xs H2, H1 p = none → Ex H1 H2 → H2 p = some (.lst xs) → ErrsAt c H2 g i xs → xs.length = n → Q (.ref p) H2) → te σ H1 Q
theorem eel_lst {c : Nat → Addr} {g : V} {i n : Nat} (r : EvEs tr σ H c g i n) (hn : n ≤ 1000) : EvEL (tLst tr) σ H c g i n := fun H1 e Q q =>
  r H1 e _ fun xs H2 e2 hx hl => ⟨by rw [hl]; exact sz_of (by omega), fun p hp => q p xs _ (fresh_back e2 hp) (e2.trans (Ex.new hp)) upd_same (hx.ex (Ex.new hp)) hl⟩
theorem eel_cat {c : Nat → Addr} {g : V} {i n m : Nat} {l : Addr} {xs : List V} (ha : Ev ta σ H (.ref l)) (hl : H l = some (.lst xs)) (hx : ErrsAt c H g i xs) (hn : xs.length = n) (hb : EvEL tb σ H c g (i + n) m) (hz : n + m ≤ 1000) :
    EvEL (tOp rCat ta tb) σ H c g i (n + m) := fun H1 e Q q => ha H1 e _ fun H2 e2 => hb H2 (e.trans e2) _ fun b zs H3 _ e3 h3 hz3 lz =>
  ⟨l, b, xs, zs, rfl, rfl, e3 l _ (e2 l _ (e l _ hl)), h3, sz_of (by omega), fun p hp => q p _ _ (fresh_back (e2.trans e3) hp) ((e2.trans e3).trans (Ex.new hp)) upd_same
    (((hx.ex ((e.trans e2).trans e3)).app (by rw [hn]; exact hz3)).ex (Ex.new hp)) (by rw [List.length_append, hn, lz])⟩
/-- isinstance(C(..), c) -/
theorem ev_isE {fI : Addr} {c : V} {cv : Value} {b : Bool} (h : EvE te σ H C v) (hc : Ev tc σ H c) (T : XcT K C fI) (W : ClW K) (k : ClsV c cv) (e : PySem.W.kitOne K (.ref C) cv = some b) :
    Ev (tCB (rIsX K) (tCons te (tCons tc tNil))) σ H (.bl b) := fun H1 ex Q q =>
  h H1 ex _ fun a H2 _ e2 xv => hc H2 (ex.trans e2) _ fun H3 e3 => ⟨a, C, fI, v, c, cv, b, rfl, T, W, xv.same e3, k, e, q H3 (e2.trans e3)⟩
variable {D : Ends} {tz : TS}
theorem q_asgEL {c : Nat → Addr} {g : V} {i j n : Nat} (h : EvEL te σ H c g i n) (k : ∀ p xs H1, H p = none → Ex H H1 → H1 p = some (.lst xs) → ErrsAt c H1 g i xs → xs.length = n → tz D (σ.set j (some (.ref p))) H1) :
    tSeq (tAsg te (gName j)) tz D σ H := h H (Ex.refl H) _ fun p xs H1 hp e h1 h2 h3 => k p xs H1 hp e h1 h2 h3
/-- xs.append(C(..)) -/
theorem q_appE {l : Addr} {xs : List V} (hl : H l = some (.lst xs)) (ha : Ev ta σ H (.ref l)) (h : EvE te σ H C v) (hz : xs.length < 100000) (k : ∀ a H1, Ex H H1 → H1 a ≠ none → ExV H1 C a v → tz D σ (upd H1 l (.lst (xs ++ [.ref a])))) :
    tSeq (tDrop (tBM K "list" rAppend ta (tCons te tNil))) tz D σ H := ha H (Ex.refl H) _ fun H1 e1 =>
  ⟨Or.inl ⟨rfl, xs, sq_of (e1 l _ hl)⟩, h H1 e1 _ fun a H2 hp e2 h2 => ⟨l, xs, .ref a, rfl, rfl, e2 l _ (e1 l _ hl), sz_lt hz, k a H2 (e1.trans e2) (by obtain ⟨d, z, _⟩ := h2; rw [z]; exact fun y => nomatch y) h2⟩⟩
end
/-- an error is another thing than a list, a dict -/
theorem ExV.upd {H : Hp} {C a b : Addr} {v : V} {o u : HO} (x : ExV H C a v) (h : H b = some u) (hu : (∃ xs, u = .lst xs) ∨ ∃ kvs, u = .dK kvs) : ExV (upd H b o) C a v := by
  obtain ⟨d, h1, h2⟩ := x
  have n1 : a ≠ b := ne_of h1 h (by
    rcases hu with ⟨xs, rfl⟩ | ⟨kvs, rfl⟩
    · exact fun z => nomatch (show HO.ext _ = HO.lst xs from z)
    · exact fun z => nomatch (show HO.ext _ = HO.dK kvs from z))
  have n2 : d ≠ b := ne_of h2 h (by
    rcases hu with ⟨xs, rfl⟩ | ⟨kvs, rfl⟩
    · exact fun z => nomatch (show HO.ext _ = HO.lst xs from z)
    · exact fun z => nomatch (show HO.ext _ = HO.dK kvs from z))
  exact ⟨d, (upd_ne n1).trans h1, (upd_ne n2).trans h2⟩
theorem ErrsAt.upd {c : Nat → Addr} {H : Hp} {g : V} {b : Addr} {o u : HO} (h : H b = some u) (hu : (∃ xs, u = .lst xs) ∨ ∃ kvs, u = .dK kvs) : ∀ {xs : List V} {i : Nat}, ErrsAt c H g i xs → ErrsAt c (upd H b o) g i xs
  | [], _, x => x
  | _ :: _, _, ⟨⟨a, e, xv⟩, r⟩ => ⟨⟨a, e, xv.upd h hu⟩, r.upd h hu⟩
end Wr
set_option Elab.async false
set_option linter.all false
set_option maxRecDepth 100000
set_option maxHeartbeats 4000000
namespace K01
open PySem PySem.Spec PyProof.Rows L2 Wr Evl
abbrev s_law : Stmt := top 15
theorem sc_law : FnScope ["_law_script", "_law_purse_here", "_law_number", "_law_given", "_law_placed", "_law_named", "_law_bare"] ["_law_script"] (defScope s_law) := ⟨rfl, rfl, rfl, by decide +kernel, rfl, by decide +kernel, by decide +kernel⟩
/-- data that repr tells within its bounds -/
def Fine (d : PyData) : Prop := d.showable = true ∧ d.depth ≤ 20 ∧ d.shown.length ≤ 100000
theorem log_small {z : Int} (h : z.natAbs < 2 ^ 200) : z.natAbs.log2 < 200 := by
  by_cases h0 : z.natAbs = 0
  · rw [h0]
    decide
  · exact (Nat.log2_lt h0).mpr h
theorem len_int {z : Int} (h : z.natAbs < 2 ^ 200) : ((toString z : String) : Str).length ≤ 201 := by
  have e := int_text_length_le (k := 200) (by decide) (log_small h)
  rw [PySem.ofString_length]
  omega
theorem fine_int {z : Int} (h : z.natAbs < 2 ^ 200) : Fine (.int z) := by
  have h1 := log_small h
  have h2 := len_int h
  refine ⟨?_, ?_, ?_⟩
  · rw [PyData.showable]
    exact decide_eq_true (by omega)
  · rw [PyData.depth]
    exact Nat.zero_le _
  · rw [PyData.shown]
    omega
theorem fine_ints {z : Int} (h : z.natAbs < 2 ^ 200) : Fine (.list [.int z]) := by
  have h1 := log_small h
  have h2 := len_int h
  refine ⟨?_, ?_, ?_⟩
  · simp only [PyData.showable, PyData.showableAll, Bool.and_true]
    exact decide_eq_true (by omega)
  · simp only [PyData.depth, PyData.depthAll]
    decide
  · have h3 := shown_rep (d := .int z) (n := 1) (k := 201) (by rw [PyData.shown]; exact h2)
    have e : List.replicate 1 (PyData.int z) = [.int z] := rfl
    rw [e] at h3
    omega
theorem fine_intm {z : Int} (h : z.natAbs < 2 ^ 200) : Fine (.list [.int z, .str "more"]) := by
  have h1 := log_small h
  have h2 := len_int h
  refine ⟨?_, ?_, ?_⟩
  · simp only [PyData.showable, PyData.showableAll, Bool.and_true]
    exact decide_eq_true (by omega)
  · simp only [PyData.depth, PyData.depthAll]
    decide
  · simp only [PyData.shown, PyData.shownAll]
    show ((("[" : Str) ++ ("" : String) ++ ((toString z : String) : Str)) ++ (", " : String) ++ reprText "more" ++ "]").length ≤ 100000
    rw [strLen_append, strLen_append, strLen_append, strLen_append, strLen_append]
    have e1 : ("[" : Str).length = 1 := by decide +kernel
    have e2 : ((("" : String) : Str)).length = 0 := by decide +kernel
    have e3 : (((", " : String) : Str)).length = 2 := by decide +kernel
    have e4 : (reprText "more").length = 6 := by decide +kernel
    have e5 : ("]" : Str).length = 1 := by decide +kernel
    omega
theorem fine_x {r : Int} (h0 : 0 ≤ r) (h1 : r < 9) : Fine (.str (Txt.mul "x" r)) := by
  have h : r = 0 ∨ r = 1 ∨ r = 2 ∨ r = 3 ∨ r = 4 ∨ r = 5 ∨ r = 6 ∨ r = 7 ∨ r = 8 := by omega
  rcases h with rfl | rfl | rfl | rfl | rfl | rfl | rfl | rfl | rfl <;> exact ⟨by decide +kernel, by decide +kernel, by decide +kernel⟩
/-- the heap without p -/
def hide (p : Addr) (H : Hp) : Hp := fun b => if b = p then none else H b
theorem hide_p {p : Addr} {H : Hp} : hide p H p = none := if_pos rfl
theorem hide_ne {p b : Addr} {H : Hp} (h : b ≠ p) : hide p H b = H b := if_neg h
theorem hide_ex {p : Addr} {H H' : Hp} (e : Ex H H') : Ex (hide p H) (hide p H') := fun a o h => by
  by_cases ha : a = p
  · rw [ha, hide_p] at h
    cases h
  · rw [hide_ne ha] at h ⊢
    exact e _ _ h
theorem hide_but {p : Addr} {H H' : Hp} (e : But p H H') : Ex (hide p H) H' := fun a o h => by
  by_cases ha : a = p
  · rw [ha, hide_p] at h
    cases h
  · rw [hide_ne ha] at h
    rw [e a ha]
    exact h
def GivenOk (K : PySem.W.Frag) (B : Hp) (g : V) : Prop := ∃ d : PyData, Dr K B g d ∧ Fine d ∧
  ((∀ H', Ex B H' → ∃ t : String, TyX K H' g (.type t) ∧ kitB t "list" = some false ∧ kitB t "dict" = some false) ∨
   (∃ (a : Addr) (xs : List V) (ds : List PyData) (B2 : Hp), g = .ref a ∧ B a = some (.lst xs) ∧ d = .list ds ∧ B2 a = none ∧ Ex B2 B ∧ DrAll K B2 xs ds ∧ xs.length ≤ 10 ∧ Fine (.list (ds ++ [.str "more"]))) ∨
   (∃ a : Addr, g = .ref a ∧ B a = some (.dK [])))
def spLaw (K : PySem.W.Frag) : Sp := fun vs H Q _ => ∃ (a : Addr) (ns : List Int), vs = [.ref a] ∧ SqL K H a (ns.map V.int) ∧ ns.length ≤ 63 ∧ ∀ H', Q (.bl true) H'
section
variable {P : Program} {w : World} {K : PySem.W.Frag} {mg : Str → Option Value} {base : Heap}
theorem ok_law (T : Txc K mg) {f : Addr} {fd : FuncData} (F : Fun K "law" "law" s_law f fd) : FnG P w K mg base CX0 5 f fd ["_law_script"] (spLaw K) := by
  have G__law_purse := ok_purse (P := P) (w := w) (base := base) T.T
  have G__law_draw := ok_draw (P := P) (w := w) (base := base) T.T
  have G__law_pick := ok_pick (P := P) (w := w) (base := base) T.T
  have G__law_right := ok_right (P := P) (w := w) (base := base) T
  have b__law_purse : Binds K T.T.purse.d ["_law_script", "_law_at"] [] := Txt.b2 T.T.purse fun _ _ _ _ _ _ us hl => match us, hl with | [_, _], _ => rfl
  have b__law_draw : Binds K T.T.draw.d ["_law_purse_here", "_law_many"] [] := Txt.b2 T.T.draw fun _ _ _ _ _ _ us hl => match us, hl with | [_, _], _ => rfl
  have b__law_pick : Binds K T.T.pick.d ["_law_purse_here", "_law_items"] [] := Txt.b2 T.T.pick fun _ _ _ _ _ _ us hl => match us, hl with | [_, _], _ => rfl
  have b__law_right : Binds K T.right.d ["_law_errors", "_law_given"] [] := Txt.b2 T.right fun _ _ _ _ _ _ us hl => match us, hl with | [_, _], _ => rfl
  obtain ⟨fd0, g1_0, g2_0, g0_0, I0, B10, B20, B00⟩ := (T.x 0 (by decide)).use P w mg base
  obtain ⟨fd1, g1_1, g2_1, g0_1, I1, B11, B21, B01⟩ := (T.x 1 (by decide)).use P w mg base
  obtain ⟨fd2, g1_2, g2_2, g0_2, I2, B12, B22, B02⟩ := (T.x 2 (by decide)).use P w mg base
  obtain ⟨fd3, g1_3, g2_3, g0_3, I3, B13, B23, B03⟩ := (T.x 3 (by decide)).use P w mg base
  obtain ⟨fd4, g1_4, g2_4, g0_4, I4, B14, B24, B04⟩ := (T.x 4 (by decide)).use P w mg base
  obtain ⟨fd5, g1_5, g2_5, g0_5, I5, B15, B25, B05⟩ := (T.x 5 (by decide)).use P w mg base
  obtain ⟨fd6, g1_6, g2_6, g0_6, I6, B16, B26, B06⟩ := (T.x 6 (by decide)).use P w mg base
  obtain ⟨fd7, g1_7, g2_7, g0_7, I7, B17, B27, B07⟩ := (T.x 7 (by decide)).use P w mg base
  refine fun_okG F sc_law ?_ ?_
  · rintro vs H Q E ⟨a, ns, rfl, _⟩
    rfl
  · rintro cdv A outer s H vs Q E gd hr ⟨a, ns, rfl, hS, hl, q⟩
    refine ⟨_, (pss_cons (ps_set (i := 1) sc_law.nd rfl (Or.inl rfl) (pe_call G__law_purse (hr.mono (by decide)) rfl T.T.purse.g T.T.purse.F.kp b__law_purse .nil pass0 (pa_cons (pv 0) (pa_cons pe_int pa_nil))))
      (pss_cons (ps_set (i := 2) sc_law.nd rfl (Or.inl rfl) (pe_op op_add (pe_op op_mul (pe_call G__law_draw (hr.mono (by decide)) rfl T.T.draw.g T.T.draw.F.kp b__law_draw .nil pass0 (pa_cons (pv 1) (pa_cons (pe_op op_pow pe_int pe_int) pa_nil))) (pe_op op_pow pe_int pe_int)) (pe_call G__law_draw (hr.mono (by decide)) rfl T.T.draw.g T.T.draw.F.kp b__law_draw .nil pass0 (pa_cons (pv 1) (pa_cons (pe_op op_pow pe_int pe_int) pa_nil)))))
      (pss_cut (ps_set (i := 3) sc_law.nd rfl (Or.inl rfl) (pe_call G__law_pick (hr.mono (by decide)) rfl T.T.pick.g T.T.pick.F.kp b__law_pick .nil pass0 (pa_cons (pv 1) (pa_cons (pe_lst (pa_cons pe_non (pa_cons pe_bl (pa_cons (pv 2) (pa_cons (pe_op op_sub pe_int (pv 2)) (pa_cons (pe_op op_mulS pe_str (pe_call G__law_draw (hr.mono (by decide)) rfl T.T.draw.g T.T.draw.F.kp b__law_draw .nil pass0 (pa_cons (pv 1) (pa_cons pe_int pa_nil)))) (pa_cons (pe_tup pa_nil) (pa_cons (pe_lst (pa_cons (pv 2) pa_nil)) (pa_cons (pe_lst (pa_cons (pe_lst pa_nil) (pa_cons (pe_lst (pa_cons pe_str pa_nil)) pa_nil))) (pa_cons pe_dnewK pa_nil)))))))))) pa_nil))))
      (pss_cons (ps_set (i := 4) sc_law.nd rfl (Or.inl rfl) (pe_lst (pa_cons (pe_X1 (T.x 0 (by decide)).x I0 (hr.mono (by decide)) rfl T.g_InvalidMessage B10 (by decide) (pa_cons (pv 3) pa_nil)) (pa_cons (pe_X1 (T.x 1 (by decide)).x I1 (hr.mono (by decide)) rfl T.g_InvalidMessages B11 (by decide) (pa_cons (pv 3) pa_nil)) (pa_cons (pe_X1 (T.x 2 (by decide)).x I2 (hr.mono (by decide)) rfl T.g_InvalidName B12 (by decide) (pa_cons (pv 3) pa_nil)) (pa_cons (pe_X1 (T.x 3 (by decide)).x I3 (hr.mono (by decide)) rfl T.g_InvalidCalls B13 (by decide) (pa_cons (pv 3) pa_nil)) pa_nil))))))
      (pss_cons (ps_set (i := 4) sc_law.nd rfl (Or.inl rfl) (pe_op op_cat (pv 4) (pe_lst (pa_cons (pe_X1 (T.x 4 (by decide)).x I4 (hr.mono (by decide)) rfl T.g_InvalidPause B14 (by decide) (pa_cons (pv 3) pa_nil)) (pa_cons (pe_X1 (T.x 5 (by decide)).x I5 (hr.mono (by decide)) rfl T.g_InvalidTime B15 (by decide) (pa_cons (pv 3) pa_nil)) (pa_cons (pe_X1 (T.x 6 (by decide)).x I6 (hr.mono (by decide)) rfl T.g_InvalidNumber B16 (by decide) (pa_cons (pv 3) pa_nil)) pa_nil))))))
      (pss_cons (ps_set (i := 5) sc_law.nd rfl (Or.inl rfl) (pe_lst (pa_cons (pe_X2 (T.x 0 (by decide)).x I0 (hr.mono (by decide)) rfl T.g_InvalidMessage B20 (pk_cons (pv 3) pk_nil)) (pa_cons (pe_X2 (T.x 1 (by decide)).x I1 (hr.mono (by decide)) rfl T.g_InvalidMessages B21 (pk_cons (pv 3) pk_nil)) (pa_cons (pe_X2 (T.x 2 (by decide)).x I2 (hr.mono (by decide)) rfl T.g_InvalidName B22 (pk_cons (pv 3) pk_nil)) pa_nil)))))
      (pss_cons (ps_set (i := 5) sc_law.nd rfl (Or.inl rfl) (pe_op op_cat (pv 5) (pe_lst (pa_cons (pe_X2 (T.x 3 (by decide)).x I3 (hr.mono (by decide)) rfl T.g_InvalidCalls B23 (pk_cons (pv 3) pk_nil)) (pa_cons (pe_X2 (T.x 4 (by decide)).x I4 (hr.mono (by decide)) rfl T.g_InvalidPause B24 (pk_cons (pv 3) pk_nil)) (pa_cons (pe_X2 (T.x 5 (by decide)).x I5 (hr.mono (by decide)) rfl T.g_InvalidTime B25 (pk_cons (pv 3) pk_nil)) pa_nil))))))
      (pss_cons (ps_expr (pe_bm PySem.F.plainAttrs_list PySem.F.slot_list_append PySem.F.type_list_append mt_append (pv 5) (pa_cons (pe_X2 (T.x 6 (by decide)).x I6 (hr.mono (by decide)) rfl T.g_InvalidNumber B26 (pk_cons (pv 3) pk_nil)) pa_nil)))
      (pss_cons (ps_set (i := 6) sc_law.nd rfl (Or.inl rfl) (pe_lst (pa_cons (pe_X0 (T.x 0 (by decide)).x I0 (hr.mono (by decide)) rfl T.g_InvalidMessage B00) (pa_cons (pe_X0 (T.x 1 (by decide)).x I1 (hr.mono (by decide)) rfl T.g_InvalidMessages B01) (pa_cons (pe_X0 (T.x 2 (by decide)).x I2 (hr.mono (by decide)) rfl T.g_InvalidName B02) (pa_cons (pe_X0 (T.x 3 (by decide)).x I3 (hr.mono (by decide)) rfl T.g_InvalidCalls B03) (pa_cons (pe_X0 (T.x 4 (by decide)).x I4 (hr.mono (by decide)) rfl T.g_InvalidPause B04) pa_nil)))))))
      (pss_cons (ps_set (i := 6) sc_law.nd rfl (Or.inl rfl) (pe_op op_cat (pv 6) (pe_lst (pa_cons (pe_X0 (T.x 5 (by decide)).x I5 (hr.mono (by decide)) rfl T.g_InvalidTime B05) pa_nil))))
      (pss_cons (ps_expr (pe_bm PySem.F.plainAttrs_list PySem.F.slot_list_append PySem.F.type_list_append mt_append (pv 6) (pa_cons (pe_X0 (T.x 6 (by decide)).x I6 (hr.mono (by decide)) rfl T.g_InvalidNumber B06) pa_nil)))
      (pss_cons (ps_if (pt_not (pt_val (pe_callB call_isX (by rfl) T.z_isinstance (by decide +kernel) (pa_cons (pe_X1 (T.x 7 (by decide)).x I7 (hr.mono (by decide)) rfl T.g_WireRanksError B17 (by decide) (pa_cons (pv 3) pa_nil)) (pa_cons (pe_bltn (v := .ty "ValueError") (by rfl) T.z_ValueError (by decide +kernel) rfl) pa_nil))))) 
        (pss_one (ps_ret pe_bl)) pss_nil)
      (pss_cons (ps_if (PW.pt (pw_or (pt_not (pt_val (pe_callG G__law_right gd (hr.mono (by decide)) rfl T.right.g T.right.F.kp b__law_right .nil pass0 (pa_cons (pv 4) (pa_cons (pv 3) pa_nil))))) (pw_or (pt_not (pt_val (pe_callG G__law_right gd (hr.mono (by decide)) rfl T.right.g T.right.F.kp b__law_right .nil pass0 (pa_cons (pv 5) (pa_cons (pv 3) pa_nil))))) (pw_or1 (pt_not (pt_val (pe_callG G__law_right gd (hr.mono (by decide)) rfl T.right.g T.right.F.kp b__law_right .nil pass0 (pa_cons (pv 6) (pa_cons pe_non pa_nil))))))))) 
        (pss_one (ps_ret pe_bl)) pss_nil)
      (pss_cons (ps_if (pt_val (pe_callB call_isi (by rfl) T.z_isinstance (by decide +kernel) (pa_cons (pv 3) (pa_cons (pe_bltn (v := .ty "list") (by rfl) T.z_list (by decide +kernel) rfl) pa_nil)))) 
        (pss_one (ps_expr (pe_bm PySem.F.plainAttrs_list PySem.F.slot_list_append PySem.F.type_list_append mt_append (pv 3) (pa_cons pe_str pa_nil)))) pss_nil)
      (pss_cons (ps_if (pt_val (pe_callB call_isi (by rfl) T.z_isinstance (by decide +kernel) (pa_cons (pv 3) (pa_cons (pe_bltn (v := .ty "dict") (by rfl) T.z_dict (by decide +kernel) rfl) pa_nil)))) 
        (pss_one (ps_dput (hu_of hr) (pv 3) pe_str pe_int rfl)) pss_nil)
      (pss_one (ps_ret (pe_and (pe_callG G__law_right gd (hr.mono (by decide)) rfl T.right.g T.right.F.kp b__law_right .nil pass0 (pa_cons (pv 4) (pa_cons (pv 3) pa_nil))) (pe_one (pe_callG G__law_right gd (hr.mono (by decide)) rfl T.right.g T.right.F.kp b__law_right .nil pass0 (pa_cons (pv 5) (pa_cons (pv 3) pa_nil)))))))))))))))))))))), ?_⟩
    have ten6 : (10 : Int) ^ (6 : Int).toNat = 1000000 := by decide
    refine ⟨_, rfl, a, ns, 0, rfl, hS, hl, by decide, fun p d m hp => ?_⟩
    have hP0 : Purse (upd H p (.lst [.int d, .int m, .int 0])) p 0 := ⟨d, m, 0, upd_same, by decide, by decide⟩
    refine ⟨_, rfl, _, _, rfl, rfl, ⟨by decide, by decide, by decide⟩, p, 0, _, rfl, hP0, by decide, (by rw [ten6]; decide), (by rw [ten6]; decide), fun r1 H1 a1 b1 bu1 hP1 => ?_⟩
    rw [ten6] at b1
    refine ⟨_, _, rfl, rfl, ⟨by decide, by decide, by decide⟩, _, _, rfl, rfl, Or.inl ⟨by omega, by omega⟩, ?_⟩
    refine ⟨_, rfl, _, _, rfl, rfl, ⟨by decide, by decide, by decide⟩, p, 1, _, rfl, hP1, by decide, (by rw [ten6]; decide), (by rw [ten6]; decide), fun r2 H2 a2 b2 bu2 hP2 => ?_⟩
    rw [ten6] at b2
    refine ⟨_, _, rfl, rfl, ?_⟩
    have ten33 : (10 : Int) ^ (33 : Int).toNat = 1000000000000000000000000000000000 := by decide
    have hnum : (r1 * 10 ^ (33 : Int).toNat + r2).natAbs < 2 ^ 200 := by
      rw [ten33]
      have : (2 : Nat) ^ 200 = 1606938044258990275541962092341162602522202993782792835301376 := by decide
      omega
    show tCut _ _ _ [some (.ref a), some (.ref p), some (.int (r1 * 10 ^ (33 : Int).toNat + r2)), none, none, none, none] H2
    generalize r1 * 10 ^ (33 : Int).toNat + r2 = num at hnum ⊢
    refine ⟨fun σ' H' => ∃ (g : V) (B : Hp), σ' = [some (.ref a), some (.ref p), some (.int num), some g, none, none, none] ∧ Ex B H' ∧ GivenOk K B g, ?_, ?_⟩
    · have pn : ∀ {X : Hp} {y : Addr}, Purse X p 2 ∨ Purse X p 3 → X y = none → y ≠ p := by
        intro X y hX hy z
        rcases hX with ⟨_, _, _, e, _⟩ | ⟨_, _, _, e, _⟩ <;> rw [z, e] at hy <;> cases hy
      refine ⟨_, rfl, _, rfl, _, rfl, _, _, rfl, rfl, _, rfl, p, 2, _, rfl, hP2, by decide, by decide, by decide, fun r3 H3 a3 b3 bu3 hP3 => ?_⟩
      refine ⟨_, _, rfl, rfl, mul_small a3 (by omega) (by decide +kernel), ?_⟩
      refine ⟨by show 0 ≤ sizeLine; exact Nat.zero_le _, fun t0 n0 => ?_⟩
      have x4 : Ex H3 (upd H3 t0 (.tup [])) := Ex.new n0
      have y4 : upd H3 t0 (.tup []) t0 = some (.tup []) := upd_same
      generalize upd H3 t0 (.tup []) = H4 at x4 y4 ⊢
      refine ⟨_, rfl, by show 1 ≤ sizeLine; decide, fun l1 n1 => ?_⟩
      have x5 : Ex H4 (upd H4 l1 (.lst [.int num])) := Ex.new n1
      have y5 : upd H4 l1 (.lst [.int num]) l1 = some (.lst [.int num]) := upd_same
      show tCons _ _ _ (upd H4 l1 (.lst [.int num])) _
      generalize upd H4 l1 (.lst [.int num]) = H5 at x5 y5 ⊢
      refine ⟨by show 0 ≤ sizeLine; exact Nat.zero_le _, fun l2 n2 => ?_⟩
      have x6 : Ex H5 (upd H5 l2 (.lst [])) := Ex.new n2
      have y6 : upd H5 l2 (.lst []) l2 = some (.lst []) := upd_same
      generalize upd H5 l2 (.lst []) = H6 at x6 y6 ⊢
      refine ⟨by show 1 ≤ sizeLine; decide, fun l3 n3 => ?_⟩
      have x7 : Ex H6 (upd H6 l3 (.lst [.str "a"])) := Ex.new n3
      have y7 : upd H6 l3 (.lst [.str "a"]) l3 = some (.lst [.str "a"]) := upd_same
      generalize upd H6 l3 (.lst [.str "a"]) = H7 at x7 y7 ⊢
      refine ⟨by show 2 ≤ sizeLine; decide, fun l4 n4 => ?_⟩
      have x8 : Ex H7 (upd H7 l4 (.lst [.ref l2, .ref l3])) := Ex.new n4
      have y8 : upd H7 l4 (.lst [.ref l2, .ref l3]) l4 = some (.lst [.ref l2, .ref l3]) := upd_same
      show tCons _ _ _ (upd H7 l4 (.lst [.ref l2, .ref l3])) _
      generalize upd H7 l4 (.lst [.ref l2, .ref l3]) = H8 at x8 y8 ⊢
      intro d1 nd
      have x9 : Ex H8 (upd H8 d1 (.dK [])) := Ex.new nd
      have y9 : upd H8 d1 (.dK []) d1 = some (.dK []) := upd_same
      generalize upd H8 d1 (.dK []) = H9 at x9 y9 ⊢
      refine ⟨by show 9 ≤ sizeLine; decide, fun L nL => ?_⟩
      have xL : Ex H9 (upd H9 L (.lst [.non, .bl true, .int num, .int (0 - num), .str (Txt.mul "x" r3), .ref t0, .ref l1, .ref l4, .ref d1])) := Ex.new nL
      have yL : upd H9 L (.lst [.non, .bl true, .int num, .int (0 - num), .str (Txt.mul "x" r3), .ref t0, .ref l1, .ref l4, .ref d1]) L = some (.lst [.non, .bl true, .int num, .int (0 - num), .str (Txt.mul "x" r3), .ref t0, .ref l1, .ref l4, .ref d1]) := upd_same
      show spPick K [.ref p, .ref L] (upd H9 L (.lst [.non, .bl true, .int num, .int (0 - num), .str (Txt.mul "x" r3), .ref t0, .ref l1, .ref l4, .ref d1])) _ E0
      generalize upd H9 L (.lst [.non, .bl true, .int num, .int (0 - num), .str (Txt.mul "x" r3), .ref t0, .ref l1, .ref l4, .ref d1]) = HL at xL yL ⊢
      obtain ⟨pd, pm, pt, hp3, p31, p32⟩ := hP3
      have p4 := x4 _ _ hp3
      have p5 := x5 _ _ p4
      have p6 := x6 _ _ p5
      have p7 := x7 _ _ p6
      have p8 := x8 _ _ p7
      have p9 := x9 _ _ p8
      have pL := xL _ _ p9
      have nep : ∀ {X : Hp} {y : Addr} {o : HO}, X p = some o → X y = none → y ≠ p := fun e n z => by
        rw [z, e] at n
        cases n
      have t0p := nep hp3 n0
      have l1p := nep p4 n1
      have l2p := nep p5 n2
      have l3p := nep p6 n3
      have l4p := nep p7 n4
      have d1p := nep p8 nd
      have Lp := nep p9 nL
      have x4L := x5.trans (x6.trans (x7.trans (x8.trans (x9.trans xL))))
      have x5L := x6.trans (x7.trans (x8.trans (x9.trans xL)))
      have x7L := x8.trans (x9.trans xL)
      refine ⟨p, L, 3, [.non, .bl true, .int num, .int (0 - num), .str (Txt.mul "x" r3), .ref t0, .ref l1, .ref l4, .ref d1], rfl, ⟨pd, pm, pt, pL, p31, by omega⟩, by decide, Lp, SqL.of yL, ?_, by show 0 < 9; decide, by show 9 < 1000000; decide, ?_⟩
      · intro H' hb
        exact SqL.of ((hb L Lp).trans yL)
      · intro x H' hx hb _
        refine ⟨x, hide p HL, rfl, hide_but hb, ?_⟩
        have at_ : ∀ {y : Addr} {o : HO}, y ≠ p → HL y = some o → hide p HL y = some o := fun n e => (hide_ne n).trans e
        have bb0 := at_ t0p (x4L _ _ y4)
        have bb1 := at_ l1p (x5L _ _ y5)
        have bb2 := at_ l2p ((x7.trans x7L) _ _ y6)
        have bb3 := at_ l3p (x7L _ _ y7)
        have bb4 := at_ l4p ((x9.trans xL) _ _ y8)
        have bb9 := at_ d1p (xL _ _ y9)
        simp only [List.mem_cons, List.not_mem_nil, or_false] at hx
        rcases hx with rfl | rfl | rfl | rfl | rfl | rfl | rfl | rfl | rfl
        · exact ⟨PyData.none, .non, ⟨by decide +kernel, by decide +kernel, by decide +kernel⟩, Or.inl fun _ _ => ⟨_, .base .non, by decide +kernel, by decide +kernel⟩⟩
        · exact ⟨PyData.bool true, .bl true, ⟨by decide +kernel, by decide +kernel, by decide +kernel⟩, Or.inl fun _ _ => ⟨_, .base (.bl _), by decide +kernel, by decide +kernel⟩⟩
        · exact ⟨_, .int _, fine_int hnum, Or.inl fun _ _ => ⟨_, .base (.int _), by decide +kernel, by decide +kernel⟩⟩
        · exact ⟨_, .int _, fine_int (by omega), Or.inl fun _ _ => ⟨_, .base (.int _), by decide +kernel, by decide +kernel⟩⟩
        · exact ⟨_, .str _, fine_x a3 b3, Or.inl fun _ _ => ⟨_, .base (.str _), by decide +kernel, by decide +kernel⟩⟩
        · exact ⟨_, .tup (SqT.of bb0) .nil, ⟨by decide +kernel, by decide +kernel, by decide +kernel⟩, Or.inl fun _ e => ⟨_, .base (.tup (e _ _ bb0)), by decide +kernel, by decide +kernel⟩⟩
        · exact ⟨_, .lst (SqL.of bb1) (.cons (.int _) .nil), fine_ints hnum, Or.inr (Or.inl ⟨l1, _, _, hide p H4, rfl, bb1, rfl, (hide_ne l1p).trans n1, hide_ex x4L, .cons (.int _) .nil, by show 1 ≤ 10; decide, fine_intm hnum⟩)⟩
        · have c2 : hide p H7 l2 = some (.lst []) := (hide_ne l2p).trans (x7 _ _ y6)
          have c3 : hide p H7 l3 = some (.lst [.str "a"]) := (hide_ne l3p).trans y7
          exact ⟨_, .lst (SqL.of bb4) (.cons (.lst (SqL.of bb2) .nil) (.cons (.lst (SqL.of bb3) (.cons (.str _) .nil)) .nil)), ⟨by decide +kernel, by decide +kernel, by decide +kernel⟩,
            Or.inr (Or.inl ⟨l4, _, _, hide p H7, rfl, bb4, rfl, (hide_ne l4p).trans n4, hide_ex x7L, .cons (.lst (SqL.of c2) .nil) (.cons (.lst (SqL.of c3) (.cons (.str _) .nil)) .nil), by show 2 ≤ 10; decide, ⟨by decide +kernel, by decide +kernel, by decide +kernel⟩⟩)⟩
        · exact ⟨_, .dct bb9 .nil, ⟨by decide +kernel, by decide +kernel, by decide +kernel⟩, Or.inr (Or.inr ⟨d1, rfl, bb9⟩)⟩
    · rintro σ' H' ⟨g, B, rfl, eB, hg⟩
      have e1 : ∀ (i : Nat) (σ : L2.St) (H : Hp), σ[3]? = some (some g) → EvE (tMkX (T.c i) 1 0 gvA (tCons (tVar 3) tNil) tNil) σ H (T.c i) g := fun i σ H h =>
        ee_X (ea_cons (ev_var h) ea_nil) ea_nil rfl rfl fun _ => rfl
      have e2 : ∀ (i : Nat) (σ : L2.St) (H : Hp), σ[3]? = some (some g) → EvE (tMkX (T.c i) 0 1 gvB tNil (tCons (tVar 3) tNil)) σ H (T.c i) g := fun i σ H h =>
        ee_X ea_nil (ea_cons (ev_var h) ea_nil) rfl rfl fun _ => rfl
      have e0 : ∀ (i : Nat) (σ : L2.St) (H : Hp), EvE (tMkX (T.c i) 0 0 gvC tNil tNil) σ H (T.c i) .non := fun i σ H =>
        ee_X ea_nil ea_nil rfl rfl fun _ => rfl
      refine q_asgEL (c := T.c) (g := g) (i := 0) (n := 4) (eel_lst (ees_cons (e1 0 _ _ rfl) (ees_cons (e1 1 _ _ rfl) (ees_cons (e1 2 _ _ rfl) (ees_cons (e1 3 _ _ rfl) ees_nil)))) (by decide)) fun p1 xs1 H1 n1 x1 h1 s1 l1 => ?_
      refine q_asgEL (c := T.c) (g := g) (i := 0) (n := 4 + 3) (eel_cat (ev_var rfl) h1 s1 l1 (eel_lst (ees_cons (e1 4 _ _ rfl) (ees_cons (e1 5 _ _ rfl) (ees_cons (e1 6 _ _ rfl) ees_nil))) (by decide)) (by decide)) fun pP xP H2 n2 x2 h2 s2 l2 => ?_
      refine q_asgEL (c := T.c) (g := g) (i := 0) (n := 3) (eel_lst (ees_cons (e2 0 _ _ rfl) (ees_cons (e2 1 _ _ rfl) (ees_cons (e2 2 _ _ rfl) ees_nil))) (by decide)) fun p3 xs3 H3 n3 x3 h3 s3 l3 => ?_
      refine q_asgEL (c := T.c) (g := g) (i := 0) (n := 3 + 3) (eel_cat (ev_var rfl) h3 s3 l3 (eel_lst (ees_cons (e2 3 _ _ rfl) (ees_cons (e2 4 _ _ rfl) (ees_cons (e2 5 _ _ rfl) ees_nil))) (by decide)) (by decide)) fun pN xN H4 n4 x4 h4 s4 l4 => ?_
      refine q_appE (v := g) h4 (ev_var rfl) (e2 6 _ _ rfl) (by omega) fun aN H5 x5 _ v5 => ?_
      have nN2 : H2 pN = none := fresh_back x3 n4
      have f1 : Ex H2 (upd H5 pN (.lst (xN ++ [.ref aN]))) := Ex.mut ((x3.trans x4).trans x5) nN2
      have gN : upd H5 pN (.lst (xN ++ [.ref aN])) pN = some (.lst (xN ++ [.ref aN])) := upd_same
      have sN : ErrsAt T.c (upd H5 pN (.lst (xN ++ [.ref aN]))) g 0 (xN ++ [.ref aN]) :=
        ErrsAt.upd (x5 _ _ h4) (Or.inl ⟨_, rfl⟩) ((s4.ex x5).app (by rw [l4]; exact ⟨⟨aN, rfl, v5⟩, True.intro⟩))
      have lN : (xN ++ [V.ref aN]).length = 7 := by rw [List.length_append, l4]; rfl
      generalize upd H5 pN (.lst (xN ++ [.ref aN])) = G at f1 gN sN ⊢
      generalize xN ++ [V.ref aN] = yN at gN sN lN
      refine q_asgEL (c := T.c) (g := .non) (i := 0) (n := 5) (eel_lst (ees_cons (e0 0 _ _) (ees_cons (e0 1 _ _) (ees_cons (e0 2 _ _) (ees_cons (e0 3 _ _) (ees_cons (e0 4 _ _) ees_nil))))) (by decide)) fun p6 xs6 H6 n6 x6 h6 s6 l6 => ?_
      refine q_asgEL (c := T.c) (g := .non) (i := 0) (n := 5 + 1) (eel_cat (ev_var rfl) h6 s6 l6 (eel_lst (ees_cons (e0 5 _ _) ees_nil) (by decide)) (by decide)) fun pB xB H7 n7 x7 h7 s7 l7 => ?_
      refine q_appE (v := .non) h7 (ev_var rfl) (e0 6 _ _) (by omega) fun aB H8 x8 _ v8 => ?_
      have nBG : G pB = none := fresh_back x6 n7
      have f2 : Ex G (upd H8 pB (.lst (xB ++ [.ref aB]))) := Ex.mut ((x6.trans x7).trans x8) nBG
      have gB : upd H8 pB (.lst (xB ++ [.ref aB])) pB = some (.lst (xB ++ [.ref aB])) := upd_same
      have sB : ErrsAt T.c (upd H8 pB (.lst (xB ++ [.ref aB]))) .non 0 (xB ++ [.ref aB]) :=
        ErrsAt.upd (x8 _ _ h7) (Or.inl ⟨_, rfl⟩) ((s7.ex x8).app (by rw [l7]; exact ⟨⟨aB, rfl, v8⟩, True.intro⟩))
      have lB : (xB ++ [V.ref aB]).length = 7 := by rw [List.length_append, l7]; rfl
      generalize upd H8 pB (.lst (xB ++ [.ref aB])) = G2 at f2 gB sB ⊢
      generalize xB ++ [V.ref aB] = yB at gB sB lB
      have f0 : Ex B G2 := (((eB.trans x1).trans x2).trans f1).trans f2
      have hP : G2 pP = some (.lst xP) := f2 _ _ (f1 _ _ h2)
      have hN : G2 pN = some (.lst yN) := f2 _ _ gN
      have sP2 : ErrsAt T.c G2 g 0 xP := s2.ex (f1.trans f2)
      have sN2 : ErrsAt T.c G2 g 0 yN := sN.ex f2
      have nPB : B pP = none := fresh_back (eB.trans x1) n2
      have nNB : B pN = none := fresh_back ((eB.trans x1).trans x2) nN2
      have mk : ∀ {H : Hp} {ys : List V} {g : V}, ErrsAt T.c H g 0 ys → ys.length = 7 → Errs T.c H ys g := fun s l => ⟨l, fun i hi => by
        have z := s.get (k := i) (by omega)
        rwa [Nat.zero_add] at z⟩
      have right : ∀ {σ : L2.St} {H : Hp} {i j : Nat} {te : TE} {l : Addr} {ys : List V} {g : V} {d : PyData}, σ[i]? = some (some (.ref l)) → Ev te σ H g → H l = some (.lst ys) → ErrsAt T.c H g 0 ys → ys.length = 7 → Dr K H g d → Fine d →
          Ev (tCall (spRight K T.c) [] E0 (tCons (tVar i) (tCons te tNil))) σ H (.bl true) := fun hi ht hl hs h7 hd hf =>
        ev_call (ea_cons (ev_var hi) (ea_cons ht ea_nil)) fun H1 e Q k E => ⟨_, _, _, _, rfl, SqL.of (e _ _ hl), mk (hs.ex e) h7, hd.ex e, hf.1, hf.2.1, hf.2.2, k⟩
      obtain ⟨d, hd, hf, hk⟩ := hg
      have isv : EvT (tNot (tB (tCB (rIsX K) (tCons (tMkX (T.c 7) 1 0 gvA (tCons (tVar 3) tNil) tNil) (tCons (tC (.ty "ValueError")) tNil))))) [some (.ref a), some (.ref p), some (.int num), some g, some (.ref pP), some (.ref pN), some (.ref pB)] G2 false :=
        et_not (a := true) (et_B (ev_isE (e1 7 _ _ rfl) ev_c (T.x 7 (by decide)).x T.cw (.ty _) (T.kitV 7 (by decide))))
      refine q_when isv (fun z => nomatch z) fun _ H10 x10 => ?_
      have r1 : Ev (tCall (spRight K T.c) [] E0 (tCons (tVar 4) (tCons (tVar 3) tNil))) [some (.ref a), some (.ref p), some (.int num), some g, some (.ref pP), some (.ref pN), some (.ref pB)] H10 (.bl true) :=
        right (j := 0) rfl (ev_var rfl) (x10 _ _ hP) (sP2.ex x10) l2 ((hd.ex f0).ex x10) hf
      have r2 : Ev (tCall (spRight K T.c) [] E0 (tCons (tVar 5) (tCons (tVar 3) tNil))) [some (.ref a), some (.ref p), some (.int num), some g, some (.ref pP), some (.ref pN), some (.ref pB)] H10 (.bl true) :=
        right (j := 0) rfl (ev_var rfl) (x10 _ _ hN) (sN2.ex x10) lN ((hd.ex f0).ex x10) hf
      have r3 : Ev (tCall (spRight K T.c) [] E0 (tCons (tVar 6) (tCons (tC .non) tNil))) [some (.ref a), some (.ref p), some (.int num), some g, some (.ref pP), some (.ref pN), some (.ref pB)] H10 (.bl true) :=
        right (j := 0) rfl ev_c (x10 _ _ gB) (sB.ex x10) lB .non ⟨by decide +kernel, by decide +kernel, by decide +kernel⟩
      refine q_when (b := false) (et_or (et_not (et_B r1)) fun _ => et_or (et_not (et_B r2)) fun _ => et_not (et_B r3)) (fun z => nomatch z) fun _ H11 x11 => ?_
      have x11B := f0.trans (x10.trans x11)
      have hP11 : H11 pP = some (.lst xP) := x11 _ _ (x10 _ _ hP)
      have hN11 : H11 pN = some (.lst yN) := x11 _ _ (x10 _ _ hN)
      have sP11 := sP2.ex (x10.trans x11)
      have sN11 := sN2.ex (x10.trans x11)
      have fin : ∀ (H9 : Hp) (d9 : PyData), Dr K H9 g d9 → Fine d9 → H9 pP = some (.lst xP) → H9 pN = some (.lst yN) → ErrsAt T.c H9 g 0 xP → ErrsAt T.c H9 g 0 yN →
          tRet (tAndV (tCall (spRight K T.c) [] E0 (tCons (tVar 4) (tCons (tVar 3) tNil))) (tCall (spRight K T.c) [] E0 (tCons (tVar 5) (tCons (tVar 3) tNil)))) { nx := fun _ H' => Q .non H', rt := Q }
            [some (.ref a), some (.ref p), some (.int num), some g, some (.ref pP), some (.ref pN), some (.ref pB)] H9 := fun H9 d9 hd9 hf9 k1 k2 k3 k4 =>
        s_ret (ev_andV (right (i := 4) (j := 0) rfl (ev_var rfl) k1 k3 l2 hd9 hf9) fun _ => right (i := 5) (j := 0) rfl (ev_var rfl) k2 k4 lN hd9 hf9) fun H1 _ => q H1
      have isq : ∀ (H9 : Hp) (t c : String) (b : Bool), TyX K H9 g (.type t) → kitB t c = some b → ∀ H8, Ex H9 H8 → (∀ H7, Ex H9 H7 → TyX K H7 g (.type t)) →
          EvT (tB (tCB (rIsi K) (tCons (tVar 3) (tCons (tC (.ty c)) tNil)))) [some (.ref a), some (.ref p), some (.int num), some g, some (.ref pP), some (.ref pN), some (.ref pB)] H8 b := fun H9 t c b _ hb H8 e8 hty =>
        et_B (ev_cb (ea_cons (ev_var rfl) (ea_cons ev_c ea_nil)) fun H1 e1 Q1 q1 => ⟨g, .ty c, _, _, b, rfl, .ty c, hty H1 (e8.trans e1), kit_ty hb, q1 H1 (Ex.refl _)⟩)
      rcases hk with hk | ⟨la, xs, ds, B2, rfl, hla, rfl, hB2, xB2, hds, lxs, hf2⟩ | ⟨da, rfl, hda⟩
      · obtain ⟨t, ty, k1, k2⟩ := hk H11 x11B
        have is1 : EvT (tB (tCB (rIsi K) (tCons (tVar 3) (tCons (tC (.ty "list")) tNil)))) [some (.ref a), some (.ref p), some (.int num), some g, some (.ref pP), some (.ref pN), some (.ref pB)] H11 false :=
          et_B (ev_cb (ea_cons (ev_var rfl) (ea_cons ev_c ea_nil)) fun H1 e1 Q1 q1 => by
            obtain ⟨t, ty, k1, k2⟩ := hk H1 (x11B.trans e1)
            exact ⟨g, .ty "list", _, _, false, rfl, .ty "list", ty, kit_ty k1, q1 H1 (Ex.refl _)⟩)
        refine q_when is1 (fun z => nomatch z) fun _ H12 x12 => ?_
        have is2 : EvT (tB (tCB (rIsi K) (tCons (tVar 3) (tCons (tC (.ty "dict")) tNil)))) [some (.ref a), some (.ref p), some (.int num), some g, some (.ref pP), some (.ref pN), some (.ref pB)] H12 false :=
          et_B (ev_cb (ea_cons (ev_var rfl) (ea_cons ev_c ea_nil)) fun H1 e1 Q1 q1 => by
            obtain ⟨t, ty, k1, k2⟩ := hk H1 ((x11B.trans x12).trans e1)
            exact ⟨g, .ty "dict", _, _, false, rfl, .ty "dict", ty, kit_ty k2, q1 H1 (Ex.refl _)⟩)
        refine q_when is2 (fun z => nomatch z) fun _ H13 x13 => ?_
        have x13' := x12.trans x13
        exact fin H13 d (hd.ex (x11B.trans x13')) hf (x13' _ _ hP11) (x13' _ _ hN11) (sP11.ex x13') (sN11.ex x13')
      · have hl11 : H11 la = some (.lst xs) := x11B _ _ hla
        have is1 : EvT (tB (tCB (rIsi K) (tCons (tVar 3) (tCons (tC (.ty "list")) tNil)))) [some (.ref a), some (.ref p), some (.int num), some (.ref la), some (.ref pP), some (.ref pN), some (.ref pB)] H11 true :=
          et_B (ev_cb (ea_cons (ev_var rfl) (ea_cons ev_c ea_nil)) fun H1 e1 Q1 q1 => ⟨.ref la, .ty "list", _, _, true, rfl, .ty "list", .base (.lst (e1 _ _ hl11)), kit_ty (a := "list") (by decide +kernel), q1 H1 (Ex.refl _)⟩)
        refine q_when is1 (fun _ H12 x12 => ?_) (fun z => nomatch z)
        refine s_app (x12 _ _ hl11) (ev_var rfl) ev_c (by omega) fun H13 x13 => ?_
        have nP : pP ≠ la := ne_of_none hla nPB |>.symm
        have nN : pN ≠ la := ne_of_none hla nNB |>.symm
        have x13' := x12.trans x13
        have hl13 : H13 la = some (.lst xs) := x13' _ _ hl11
        have k0 : upd H13 la (.lst (xs ++ [.str "more"])) la = some (.lst (xs ++ [.str "more"])) := upd_same
        have k1 : upd H13 la (.lst (xs ++ [.str "more"])) pP = some (.lst xP) := (upd_ne nP).trans (x13' _ _ hP11)
        have k2 : upd H13 la (.lst (xs ++ [.str "more"])) pN = some (.lst yN) := (upd_ne nN).trans (x13' _ _ hN11)
        have k3 : ErrsAt T.c (upd H13 la (.lst (xs ++ [.str "more"]))) (.ref la) 0 xP := (sP11.ex x13').upd hl13 (Or.inl ⟨_, rfl⟩)
        have k4 : ErrsAt T.c (upd H13 la (.lst (xs ++ [.str "more"]))) (.ref la) 0 yN := (sN11.ex x13').upd hl13 (Or.inl ⟨_, rfl⟩)
        have k5 : Ex B2 (upd H13 la (.lst (xs ++ [.str "more"]))) := Ex.mut ((xB2.trans x11B).trans x13') hB2
        generalize upd H13 la (.lst (xs ++ [.str "more"])) = H14 at k0 k1 k2 k3 k4 k5 ⊢
        have is2 : EvT (tB (tCB (rIsi K) (tCons (tVar 3) (tCons (tC (.ty "dict")) tNil)))) [some (.ref a), some (.ref p), some (.int num), some (.ref la), some (.ref pP), some (.ref pN), some (.ref pB)] H14 false :=
          et_B (ev_cb (ea_cons (ev_var rfl) (ea_cons ev_c ea_nil)) fun H1 e1 Q1 q1 => ⟨.ref la, .ty "dict", _, _, false, rfl, .ty "dict", .base (.lst (e1 _ _ k0)), kit_ty (a := "list") (by decide +kernel), q1 H1 (Ex.refl _)⟩)
        refine q_when is2 (fun z => nomatch z) fun _ H15 x15 => ?_
        have hd15 : Dr K H15 (.ref la) (.list (ds ++ [.str "more"])) := .lst (SqL.of (x15 _ _ k0)) (DrAll.app (hds.ex (k5.trans x15)) (.cons (.str _) .nil))
        exact fin H15 _ hd15 hf2 (x15 _ _ k1) (x15 _ _ k2) (k3.ex x15) (k4.ex x15)
      · have hd11 : H11 da = some (.dK []) := x11B _ _ hda
        have is1 : EvT (tB (tCB (rIsi K) (tCons (tVar 3) (tCons (tC (.ty "list")) tNil)))) [some (.ref a), some (.ref p), some (.int num), some (.ref da), some (.ref pP), some (.ref pN), some (.ref pB)] H11 false :=
          et_B (ev_cb (ea_cons (ev_var rfl) (ea_cons ev_c ea_nil)) fun H1 e1 Q1 q1 => ⟨.ref da, .ty "list", _, _, false, rfl, .ty "list", .base (.dK (e1 _ _ hd11)), kit_ty (a := "dict") (by decide +kernel), q1 H1 (Ex.refl _)⟩)
        refine q_when is1 (fun z => nomatch z) fun _ H12 x12 => ?_
        have hd12 := x12 _ _ hd11
        have is2 : EvT (tB (tCB (rIsi K) (tCons (tVar 3) (tCons (tC (.ty "dict")) tNil)))) [some (.ref a), some (.ref p), some (.int num), some (.ref da), some (.ref pP), some (.ref pN), some (.ref pB)] H12 true :=
          et_B (ev_cb (ea_cons (ev_var rfl) (ea_cons ev_c ea_nil)) fun H1 e1 Q1 q1 => ⟨.ref da, .ty "dict", _, _, true, rfl, .ty "dict", .base (.dK (e1 _ _ hd12)), kit_ty (a := "dict") (by decide +kernel), q1 H1 (Ex.refl _)⟩)
        refine q_when is2 (fun _ H13 x13 => ?_) (fun z => nomatch z)
        have x13' := x12.trans x13
        have hd13 := x13 _ _ hd12
        refine ⟨_, rfl, da, _, rfl, DPut.k (k := .inr "more") hd13 (by show 0 < sizeLine; rw [sizeLine_eq]; decide), ?_⟩
        have nP : pP ≠ da := ne_of_none hda nPB |>.symm
        have nN : pN ≠ da := ne_of_none hda nNB |>.symm
        have hd15 : Dr K (upd H13 da (.dK (putK [] (.inr "more") (.int 1)))) (.ref da) (.dict [(.str "more", .int 1)]) := .dct (kvs := [(.inr "more", .int 1)]) (ds := [.int 1]) upd_same (.cons (.int _) .nil)
        exact fin _ _ hd15 ⟨by decide +kernel, by decide +kernel, by decide +kernel⟩ ((upd_ne nP).trans (x13' _ _ hP11)) ((upd_ne nN).trans (x13' _ _ hN11)) ((sP11.ex x13').upd hd13 (Or.inr ⟨_, rfl⟩)) ((sN11.ex x13').upd hd13 (Or.inr ⟨_, rfl⟩))
end
end K01
set_option Elab.async false
set_option linter.all false
set_option maxRecDepth 100000
set_option maxHeartbeats 2000000
namespace Wr
open PySem PySem.Spec PyProof.Rows L2
section
variable {P : Program} {w : World} {K : PySem.W.Frag} {mg mb : Str → Option Value} {CX : CXT} {k : Nat} {fa a : Addr} {fd : FuncData} {x : Str} {sp : Sp} {s1 : Shared}
/-- what the row asks of the law's end -/
def RowEnd (s1 : Shared) (r : Result) (s' : Shared) : Prop := r = .ok (.ret (.bool true)) ∧ OldK s1.heap s'.heap ∧ s'.os = s1.os ∧ AllBare s'.gens
theorem end_core {H : Hp} (KX : K.In s1.heap) (hns : s1.heap.Ns mainGlobals mg) (hb : s1.heap.Ns builtinsNs mb) (hbb : ∀ y : Str, y ≠ "__name__" → mb y = bootBuiltins y)
    (hlim : s1.heap.NoLimit) (hg : s1.gens = #[]) (hr : Room k callerA)
    (F : ∀ base : Heap, K.In base → base.Ns mainGlobals mg → FnG P w K mg base CX k fa fd [x] sp) (hbind : ∀ (s : Shared) (u : Value), BindsTo s fd ⟨[u], []⟩ [(x, u)])
    (hsp : sp [.ref a] H (fun v _ => v = .bl true) fun _ _ _ => False) (hok : HOk P w H s1.heap)
    (track : ∀ b u, H b = some u → (∃ ob ys, u = .frz ob (.lst ys)) ∧ K.lookup b = none)
    (hCX : ∀ e s', CX [] H s1 (fun _ _ _ => False) e s' → False) :
    codeAny (model P w) callerA (.call (.ref fa) ⟨[.ref a], []⟩) (RowEnd s1) s1 := by
  have seq_of : ∀ {b : Addr} {u : HO}, H b = some u → ∃ o its n, s1.heap.get? b = some o ∧ o.data = .seq its n := by
    intro b u e
    obtain ⟨⟨ob, ys, rfl⟩, _⟩ := track b u e
    obtain ⟨e1, _, its, n, _, e2⟩ := hok b _ e
    exact ⟨_, _, _, e2, rfl⟩
  have free_of : ∀ {b : Addr} {o : Obj} {es : Array DictEntry} {ep : Nat}, s1.heap.get? b = some o → o.data = .dict es ep → H b = none := by
    intro b o es ep e d
    match q : H b with
    | none => rfl
    | some u =>
      obtain ⟨o2, its, n, e2, d2⟩ := seq_of q
      rw [e] at e2
      cases e2
      rw [d] at d2
      cases d2
  have ns_of : ∀ {b : Addr} {m : Str → Option Value}, s1.heap.Ns b m → (hidT s1.heap H).Ns b m := by
    rintro b m ⟨o, es, ep, e, d, r⟩
    exact ⟨o, es, ep, hidT_get e (free_of e d), d, r⟩
  have kin : K.In (hidT s1.heap H) := by
    intro b o e
    refine hidT_get (KX b o e) ?_
    match q : H b with
    | none => rfl
    | some u =>
      have z := (track b u q).2
      rw [z] at e
      cases e
  obtain ⟨mc, l1, l2⟩ := hlim
  have env0 : Env0 P w K mg (hidT s1.heap H) callerA [] s1 H := {
    frames := rfl
    mod := ⟨kin, ns_of hns, ⟨mb, ns_of hb, hbb⟩, ⟨mc, ns_of l1, l2⟩⟩
    bs := fun b o e => of_hidT e
    bsz := Nat.le_of_eq (hidT_size _ _)
    funs := True.intro
    frf := fun b m => nomatch (show b ∈ ([] : List Addr) from m)
    hok := hok
    bare := .of_eq hg }
  have run := (F _ kin (ns_of hns)).run callerA [] s1 H ⟨[.ref a], []⟩ [.ref a] [.ref a] _ _ rfl hr env0 (hbind s1 (.ref a)) (.cons rfl .nil) hsp
  refine codeAny_mono run fun r s' h => ?_
  match r, h with
  | .error e, h => exact (hCX e s' h).elim
  | .ok .next, h => exact False.elim h
  | .ok .brk, h => exact False.elim h
  | .ok .cont, h => exact False.elim h
  | .ok (.ret u), ⟨v, H', os, bare, un, hok', rv, hv⟩ =>
    subst hv
    obtain rfl : u = Value.bool true := rv
    refine ⟨rfl, OldK.of_keep fun b o e => ?_, os, bare⟩
    match q : H b with
    | none => exact un.keep b o e q (fun m => nomatch (show b ∈ ([] : List Addr) from m)) (by simp)
    | some u =>
      obtain ⟨⟨ob, ys, rfl⟩, _⟩ := track b u q
      obtain ⟨e1, _⟩ := hok b _ q
      obtain ⟨e2, _⟩ := hok' b _ (un.frzs b ob _ q)
      rw [e] at e1
      cases e1
      exact e2
/-- the law's end, its def kept under known guards -/
theorem end_run {vs : List Value} {ns : List Int} (KX : K.In s1.heap) (hns : s1.heap.Ns mainGlobals mg) (hb : s1.heap.Ns builtinsNs mb) (hbb : ∀ y : Str, y ≠ "__name__" → mb y = bootBuiltins y)
    (hlim : s1.heap.NoLimit) (hg : s1.gens = #[]) (ha : s1.heap.get? a = some { cls := .type "list", data := .seq vs.toArray }) (hi : IntsAre vs ns) (hl : ns.length ≤ sizeLine) (hr : Room k callerA)
    (F : ∀ base : Heap, K.In base → base.Ns mainGlobals mg → FnG P w K mg base CX k fa fd [x] sp) (hbind : ∀ (s : Shared) (u : Value), BindsTo s fd ⟨[u], []⟩ [(x, u)])
    (hsp : ∀ H : Hp, SqL K H a (ns.map V.int) → sp [.ref a] H (fun v _ => v = .bl true) fun _ _ _ => False) (hCX : ∀ H e s', CX [] H s1 (fun _ _ _ => False) e s' → False) :
    codeAny (model P w) callerA (.call (.ref fa) ⟨[.ref a], []⟩) (RowEnd s1) s1 := by
  have rv : Vals (ns.map V.int) vs := vals_ints hi
  match hk : K.lookup a with
  | some o =>
    have e := KX a o hk
    rw [ha] at e
    cases e
    refine end_core (H := fun _ => none) KX hns hb hbb hlim hg hr F hbind (hsp _ (Or.inr ⟨_, vs.toArray, _, hk, rfl, rfl, rfl, ?_, by simpa using rv⟩)) (fun b u z => nomatch (show (none : Option HO) = some u from z)) (fun b u z => nomatch (show (none : Option HO) = some u from z)) (hCX _)
    have l := rv.length
    rw [List.length_map] at l
    rw [List.size_toArray]
    omega
  | none =>
    have at_ : (fun b => if b = a then some (HO.frz { cls := .type "list", data := .seq vs.toArray } (.lst (ns.map V.int))) else none : Hp) a = some (.frz { cls := .type "list", data := .seq vs.toArray } (.lst (ns.map V.int))) := if_pos rfl
    have only : ∀ b u, (fun b => if b = a then some (HO.frz { cls := .type "list", data := .seq vs.toArray } (.lst (ns.map V.int))) else none : Hp) b = some u → b = a ∧ u = .frz { cls := .type "list", data := .seq vs.toArray } (.lst (ns.map V.int)) := by
      intro b u e
      by_cases hb2 : b = a
      · subst hb2
        rw [at_] at e
        exact ⟨rfl, (Option.some.inj e).symm⟩
      · have z := (if_neg hb2).symm.trans e
        cases z
    refine end_core (H := fun b => if b = a then some (.frz { cls := .type "list", data := .seq vs.toArray } (.lst (ns.map V.int))) else none) KX hns hb hbb hlim hg hr F hbind (hsp _ (Or.inl (Or.inr ⟨_, at_⟩))) ?_ ?_ (hCX _)
    · intro b u e
      obtain ⟨rfl, rfl⟩ := only b u e
      exact ⟨ha, by rw [List.length_map]; exact hl, vs, _, rv, ha⟩
    · intro b u e
      obtain ⟨rfl, rfl⟩ := only b u e
      exact ⟨⟨_, _, rfl⟩, hk⟩
end
/-- the goal that the head leaves, from the law's promise -/
theorem walkG {l : PySem.W.OpenLaw} {n k : Nat} {q : Program} {loose : List Str} {XP : (Str → Option Value) → Heap → Prop} {YP : World → Heap → Prop} {d : DefRec} {K : Params → PySem.W.Frag} {sp : PySem.W.Frag → Sp} {x : Str}
    (hn : l.most = some n) (hn2 : n ≤ sizeLine) (hdf : d.params.defaults = []) (hr : Room k callerA) (hY : ∀ (w : World) (h : Heap), YP w h → (K w.params).In h)
    (F : ∀ (w : World) (mg : Str → Option Value) (fa : Addr) (h : Heap), (K w.params).In h → h.Ns mainGlobals mg → mg d.name = some (.ref fa) →
      ∃ fd : FuncData, (∀ (s : Shared) (u : Value), BindsTo s fd ⟨[u], []⟩ [(x, u)]) ∧ ∀ base : Heap, (K w.params).In base → base.Ns mainGlobals mg → FnG l.prog w (K w.params) mg base CX0 k fa fd [x] (sp (K w.params)))
    (hsp : ∀ (K : PySem.W.Frag) (H : Hp) (a : Addr) (ns : List Int), ns.length ≤ n → SqL K H a (ns.map V.int) → sp K [.ref a] H (fun v _ => v = .bl true) fun _ _ _ => False) :
    PySem.W.WalkO q loose XP YP l.row.toRowW d [] (fun f vs => PySem.call f vs) := by
  refine Att.attach_call hn hdf ?_
  intro w s0 s1 mg mb fa o pm cd doc a vs ns G Y ho hd hcd hmg hobj hints hlen hg
  have kx := hY w _ Y
  obtain ⟨fd, hb, hF⟩ := F w mg fa _ kx G.T.g hmg
  exact end_run kx G.T.g G.T.b G.T.builtins G.T.nolimit hg hobj hints (Nat.le_trans hlen hn2) hr hF hb (fun H hS => hsp _ H a ns hlen hS) fun _ _ _ z => z
end Wr
set_option Elab.async false
set_option linter.all false
set_option maxRecDepth 100000
set_option maxHeartbeats 4000000
namespace Wr
open PySem PySem.Spec PyProof.Rows L2
theorem tail_ok : HandSPX.refsVE HandSPX.veTail = true := by decide +kernel
/-- an own error class, from its words -/
theorem xcf_mk {K : PySem.W.Frag} {C f T : Addr} {qual : Str} {nm q : Str} {N : Addr} {bs bm : List Value} {sn : List Str} {sub : List Value} {ab : Bool} {col : Option Bool} {dd : Option Addr} {m0 m1 m2 m3 m5 : Option Value}
    {od an : Option Addr} {sl : Array (Option Value)} {oc kV dc pm cd ct : Value} {q1 q2 q3 p1 p2 p3 p4 : Pos} {dT : Option Addr} {nT : Nat} {slT : Array (Option Value)}
    (xL : K.lookup C = some (excClassObj nm q C N bs bm true sn sub ab col dd m0 m1 m2 m3 m5 "ValueError.__new__")) (hbm : HandSPX.refsVE bm = true)
    (sa : PySem.W.findIn K (.ref C) "__setattr__" = some (some (.builtin "object.__setattr__"))) (ga : PySem.W.findIn K (.ref C) "__getattribute__" = some (some (.builtin "BaseException.__getattribute__")))
    (gg : PySem.W.findIn K (.ref C) "__getattr__" = some none) (nb : PySem.W.findIn K (.ref C) "value" = some none)
    (a1 : PySem.W.findIn K (.ref C) "__init__" = some (some (.ref f))) (t1 : PySem.W.typeIn K (.ref f) = some (.type "function"))
    (l1 : K.lookup f = some ⟨oc, od, .func (PySem.W.fnOf "__init__" qual (xiA q1 q2 q3) (xiB p1 p2 p3 p4) xiS (.ref T) kV dc pm an cd ct), sl⟩)
    (lT : K.lookup T = some ⟨.type "tuple", dT, .seq #[.none] nT, slT⟩) (c1 : PySem.W.codeIn K cd qual = true) (k1 : PySem.W.keepIn K (.ref f) = true)
    (kC : PySem.W.keepIn K (.ref C) = true) (eC : PySem.W.subIn K (.ref C) (.type "BaseException") = some true) (tC : PySem.W.typeIn K (.ref C) = some (.type "type")) (hC : PySem.W.hasDictIn K C = true)
    (cc : PySem.W.findIn K (.ref C) "__class__" = some (some (.builtin "object.__class__"))) (mo : PySem.W.mroIn K C (.type "object") = some true) : XcF K C f :=
  ⟨⟨⟨⟨nm, q, N, bs, bm, sn, sub, ab, col, dd, m0, m1, m2, m3, m5, xL, hbm⟩, sa, eC, tC, kC⟩, a1, t1, nb, ga, gg, hC, cc, mo⟩,
    qual, _, q1, q2, q3, p1, p2, p3, p4, ⟨⟨oc, od, .ref T, kV, dc, pm, an, cd, ct, sl, rfl, l1, c1, Or.inr ⟨by simp, T, _, [.none], nT, rfl, lT, rfl, .cons rfl .nil⟩, Or.inl rfl⟩, k1⟩⟩
end Wr
namespace K01
open PySem PySem.Spec PyProof.Rows L2 Wr
theorem all_mk {l : PySem.W.OpenLaw} {w : World} {K : PySem.W.Frag} {h : Heap} {mg : Str → Option Value} {fa C0 I0 C1 I1 C2 I2 C3 I3 C4 I4 C5 I5 C6 I6 C7 I7 : Addr} (X : K.In h) (G : h.Ns mainGlobals mg) (hfa : mg "law" = some (.ref fa))
    (a0 : PySem.W.nsIn K mainGlobals "InvalidMessage" = some (some (.ref C0)))
    (a1 : PySem.W.nsIn K mainGlobals "InvalidMessages" = some (some (.ref C1)))
    (a2 : PySem.W.nsIn K mainGlobals "InvalidName" = some (some (.ref C2)))
    (a3 : PySem.W.nsIn K mainGlobals "InvalidCalls" = some (some (.ref C3)))
    (a4 : PySem.W.nsIn K mainGlobals "InvalidPause" = some (some (.ref C4)))
    (a5 : PySem.W.nsIn K mainGlobals "InvalidTime" = some (some (.ref C5)))
    (a6 : PySem.W.nsIn K mainGlobals "InvalidNumber" = some (some (.ref C6)))
    (a7 : PySem.W.nsIn K mainGlobals "WireRanksError" = some (some (.ref C7)))
    (x0 : XcF K C0 I0)
    (x1 : XcF K C1 I1)
    (x2 : XcF K C2 I2)
    (x3 : XcF K C3 I3)
    (x4 : XcF K C4 I4)
    (x5 : XcF K C5 I5)
    (x6 : XcF K C6 I6)
    (x7 : XcF K C7 I7)
    (k00 : PySem.W.kitOne K (.ref C0) (.ref C0) = some true)
    (k01 : PySem.W.kitOne K (.ref C0) (.ref C1) = some false)
    (k02 : PySem.W.kitOne K (.ref C0) (.ref C2) = some false)
    (k03 : PySem.W.kitOne K (.ref C0) (.ref C3) = some false)
    (k04 : PySem.W.kitOne K (.ref C0) (.ref C4) = some false)
    (k05 : PySem.W.kitOne K (.ref C0) (.ref C5) = some false)
    (k06 : PySem.W.kitOne K (.ref C0) (.ref C6) = some false)
    (k10 : PySem.W.kitOne K (.ref C1) (.ref C0) = some false)
    (k11 : PySem.W.kitOne K (.ref C1) (.ref C1) = some true)
    (k12 : PySem.W.kitOne K (.ref C1) (.ref C2) = some false)
    (k13 : PySem.W.kitOne K (.ref C1) (.ref C3) = some false)
    (k14 : PySem.W.kitOne K (.ref C1) (.ref C4) = some false)
    (k15 : PySem.W.kitOne K (.ref C1) (.ref C5) = some false)
    (k16 : PySem.W.kitOne K (.ref C1) (.ref C6) = some false)
    (k20 : PySem.W.kitOne K (.ref C2) (.ref C0) = some false)
    (k21 : PySem.W.kitOne K (.ref C2) (.ref C1) = some false)
    (k22 : PySem.W.kitOne K (.ref C2) (.ref C2) = some true)
    (k23 : PySem.W.kitOne K (.ref C2) (.ref C3) = some false)
    (k24 : PySem.W.kitOne K (.ref C2) (.ref C4) = some false)
    (k25 : PySem.W.kitOne K (.ref C2) (.ref C5) = some false)
    (k26 : PySem.W.kitOne K (.ref C2) (.ref C6) = some false)
    (k30 : PySem.W.kitOne K (.ref C3) (.ref C0) = some false)
    (k31 : PySem.W.kitOne K (.ref C3) (.ref C1) = some false)
    (k32 : PySem.W.kitOne K (.ref C3) (.ref C2) = some false)
    (k33 : PySem.W.kitOne K (.ref C3) (.ref C3) = some true)
    (k34 : PySem.W.kitOne K (.ref C3) (.ref C4) = some false)
    (k35 : PySem.W.kitOne K (.ref C3) (.ref C5) = some false)
    (k36 : PySem.W.kitOne K (.ref C3) (.ref C6) = some false)
    (k40 : PySem.W.kitOne K (.ref C4) (.ref C0) = some false)
    (k41 : PySem.W.kitOne K (.ref C4) (.ref C1) = some false)
    (k42 : PySem.W.kitOne K (.ref C4) (.ref C2) = some false)
    (k43 : PySem.W.kitOne K (.ref C4) (.ref C3) = some false)
    (k44 : PySem.W.kitOne K (.ref C4) (.ref C4) = some true)
    (k45 : PySem.W.kitOne K (.ref C4) (.ref C5) = some false)
    (k46 : PySem.W.kitOne K (.ref C4) (.ref C6) = some false)
    (k50 : PySem.W.kitOne K (.ref C5) (.ref C0) = some false)
    (k51 : PySem.W.kitOne K (.ref C5) (.ref C1) = some false)
    (k52 : PySem.W.kitOne K (.ref C5) (.ref C2) = some false)
    (k53 : PySem.W.kitOne K (.ref C5) (.ref C3) = some false)
    (k54 : PySem.W.kitOne K (.ref C5) (.ref C4) = some false)
    (k55 : PySem.W.kitOne K (.ref C5) (.ref C5) = some true)
    (k56 : PySem.W.kitOne K (.ref C5) (.ref C6) = some false)
    (k60 : PySem.W.kitOne K (.ref C6) (.ref C0) = some false)
    (k61 : PySem.W.kitOne K (.ref C6) (.ref C1) = some false)
    (k62 : PySem.W.kitOne K (.ref C6) (.ref C2) = some false)
    (k63 : PySem.W.kitOne K (.ref C6) (.ref C3) = some false)
    (k64 : PySem.W.kitOne K (.ref C6) (.ref C4) = some false)
    (k65 : PySem.W.kitOne K (.ref C6) (.ref C5) = some false)
    (k66 : PySem.W.kitOne K (.ref C6) (.ref C6) = some true)
    (kb0 : PySem.W.kitOne K (.ref C0) (.ref C7) = some true)
    (kb1 : PySem.W.kitOne K (.ref C1) (.ref C7) = some true)
    (kb2 : PySem.W.kitOne K (.ref C2) (.ref C7) = some true)
    (kb3 : PySem.W.kitOne K (.ref C3) (.ref C7) = some true)
    (kb4 : PySem.W.kitOne K (.ref C4) (.ref C7) = some true)
    (kb5 : PySem.W.kitOne K (.ref C5) (.ref C7) = some true)
    (kb6 : PySem.W.kitOne K (.ref C6) (.ref C7) = some true)
    (kb7 : PySem.W.kitOne K (.ref C7) (.ref C7) = some true)
    (kv0 : PySem.W.kitOne K (.ref C0) (.type "ValueError") = some true)
    (kv1 : PySem.W.kitOne K (.ref C1) (.type "ValueError") = some true)
    (kv2 : PySem.W.kitOne K (.ref C2) (.type "ValueError") = some true)
    (kv3 : PySem.W.kitOne K (.ref C3) (.type "ValueError") = some true)
    (kv4 : PySem.W.kitOne K (.ref C4) (.type "ValueError") = some true)
    (kv5 : PySem.W.kitOne K (.ref C5) (.type "ValueError") = some true)
    (kv6 : PySem.W.kitOne K (.ref C6) (.type "ValueError") = some true)
    (kv7 : PySem.W.kitOne K (.ref C7) (.type "ValueError") = some true)
    (cw1 : PySem.W.specialIn K (.builtin "object.__class__") "__get__" = some (some (.builtin "getset_descriptor.__get__")))
    (cw2 : PySem.W.takesIn K (.builtin "object.__class__") = some true)
    {f_purse : Addr} {od_purse an_purse : Option Addr} {sl_purse : Array (Option Value)} {oc_purse kV_purse dc_purse pm_purse cd_purse ct_purse : Value}
    (g_purse : PySem.W.nsIn K mainGlobals "_law_purse" = some (some (.ref f_purse)))
    (l_purse : K.lookup f_purse = some ⟨oc_purse, od_purse, .func (PySem.W.fnOf "_law_purse" "_law_purse" (defArgs s__law_purse) (defBody s__law_purse) (defScope s__law_purse) .none kV_purse dc_purse pm_purse an_purse cd_purse ct_purse), sl_purse⟩)
    (c_purse : PySem.W.codeIn K cd_purse "_law_purse" = true)
    (e_purse : PySem.W.keepIn K (.ref f_purse) = true)
    {f_draw : Addr} {od_draw an_draw : Option Addr} {sl_draw : Array (Option Value)} {oc_draw kV_draw dc_draw pm_draw cd_draw ct_draw : Value}
    (g_draw : PySem.W.nsIn K mainGlobals "_law_draw" = some (some (.ref f_draw)))
    (l_draw : K.lookup f_draw = some ⟨oc_draw, od_draw, .func (PySem.W.fnOf "_law_draw" "_law_draw" (defArgs s__law_draw) (defBody s__law_draw) (defScope s__law_draw) .none kV_draw dc_draw pm_draw an_draw cd_draw ct_draw), sl_draw⟩)
    (c_draw : PySem.W.codeIn K cd_draw "_law_draw" = true)
    (e_draw : PySem.W.keepIn K (.ref f_draw) = true)
    {f_pick : Addr} {od_pick an_pick : Option Addr} {sl_pick : Array (Option Value)} {oc_pick kV_pick dc_pick pm_pick cd_pick ct_pick : Value}
    (g_pick : PySem.W.nsIn K mainGlobals "_law_pick" = some (some (.ref f_pick)))
    (l_pick : K.lookup f_pick = some ⟨oc_pick, od_pick, .func (PySem.W.fnOf "_law_pick" "_law_pick" (defArgs s__law_pick) (defBody s__law_pick) (defScope s__law_pick) .none kV_pick dc_pick pm_pick an_pick cd_pick ct_pick), sl_pick⟩)
    (c_pick : PySem.W.codeIn K cd_pick "_law_pick" = true)
    (e_pick : PySem.W.keepIn K (.ref f_pick) = true)
    {f_classes : Addr} {od_classes an_classes : Option Addr} {sl_classes : Array (Option Value)} {oc_classes kV_classes dc_classes pm_classes cd_classes ct_classes : Value}
    (g_classes : PySem.W.nsIn K mainGlobals "_law_classes" = some (some (.ref f_classes)))
    (l_classes : K.lookup f_classes = some ⟨oc_classes, od_classes, .func (PySem.W.fnOf "_law_classes" "_law_classes" (defArgs s__law_classes) (defBody s__law_classes) (defScope s__law_classes) .none kV_classes dc_classes pm_classes an_classes cd_classes ct_classes), sl_classes⟩)
    (c_classes : PySem.W.codeIn K cd_classes "_law_classes" = true)
    (e_classes : PySem.W.keepIn K (.ref f_classes) = true)
    {f_right : Addr} {od_right an_right : Option Addr} {sl_right : Array (Option Value)} {oc_right kV_right dc_right pm_right cd_right ct_right : Value}
    (g_right : PySem.W.nsIn K mainGlobals "_law_right" = some (some (.ref f_right)))
    (l_right : K.lookup f_right = some ⟨oc_right, od_right, .func (PySem.W.fnOf "_law_right" "_law_right" (defArgs s__law_right) (defBody s__law_right) (defScope s__law_right) .none kV_right dc_right pm_right an_right cd_right ct_right), sl_right⟩)
    (c_right : PySem.W.codeIn K cd_right "_law_right" = true)
    (e_right : PySem.W.keepIn K (.ref f_right) = true)
    {f_law : Addr} {od_law an_law : Option Addr} {sl_law : Array (Option Value)} {oc_law kV_law dc_law pm_law cd_law ct_law : Value}
    (g_law : PySem.W.nsIn K mainGlobals "law" = some (some (.ref f_law)))
    (l_law : K.lookup f_law = some ⟨oc_law, od_law, .func (PySem.W.fnOf "law" "law" (defArgs s_law) (defBody s_law) (defScope s_law) .none kV_law dc_law pm_law an_law cd_law ct_law), sl_law⟩)
    (c_law : PySem.W.codeIn K cd_law "law" = true)
    (e_law : PySem.W.keepIn K (.ref f_law) = true)
    (z_len : PySem.W.nsIn K mainGlobals "len" = some none)
    (z_max : PySem.W.nsIn K mainGlobals "max" = some none)
    (z_int : PySem.W.nsIn K mainGlobals "int" = some none)
    (z_isinstance : PySem.W.nsIn K mainGlobals "isinstance" = some none)
    (z_ValueError : PySem.W.nsIn K mainGlobals "ValueError" = some none)
    (z_range : PySem.W.nsIn K mainGlobals "range" = some none)
    (z_repr : PySem.W.nsIn K mainGlobals "repr" = some none)
    (z_list : PySem.W.nsIn K mainGlobals "list" = some none)
    (z_dict : PySem.W.nsIn K mainGlobals "dict" = some none) :
    ∃ fd : FuncData, (∀ (s : Shared) (u : Value), BindsTo s fd ⟨[u], []⟩ [("_law_script", u)]) ∧ ∀ base : Heap, K.In base → base.Ns mainGlobals mg → FnG l.prog w K mg base CX0 5 fa fd ["_law_script"] (spLaw K) := by
  have e := hfa.symm.trans (PySem.W.mg_of X G g_law)
  cases e
  let T0 : Txt K mg := { purse := ⟨f_purse, _, PySem.W.mg_of X G g_purse, fun_mk (st := s__law_purse) l_purse c_purse e_purse⟩, draw := ⟨f_draw, _, PySem.W.mg_of X G g_draw, fun_mk (st := s__law_draw) l_draw c_draw e_draw⟩, pick := ⟨f_pick, _, PySem.W.mg_of X G g_pick, fun_mk (st := s__law_pick) l_pick c_pick e_pick⟩, z_len := PySem.W.mg_none_of X G z_len, z_max := PySem.W.mg_none_of X G z_max, z_int := PySem.W.mg_none_of X G z_int }
  let c : Nat → Addr := fun i => match i with | 0 => C0 | 1 => C1 | 2 => C2 | 3 => C3 | 4 => C4 | 5 => C5 | 6 => C6 | _ => C7
  let f : Nat → Addr := fun i => match i with | 0 => I0 | 1 => I1 | 2 => I2 | 3 => I3 | 4 => I4 | 5 => I5 | 6 => I6 | _ => I7
  have hx : ∀ i, i < 8 → XcF K (c i) (f i) := fun i hi => match i, hi with
    | 0, _ => x0 | 1, _ => x1 | 2, _ => x2 | 3, _ => x3 | 4, _ => x4 | 5, _ => x5 | 6, _ => x6 | 7, _ => x7
  have hk : ∀ i j, i < 7 → j < 7 → PySem.W.kitOne K (.ref (c i)) (.ref (c j)) = some (decide (i = j)) := fun i j hi hj => match i, j, hi, hj with
    | 0, 0, _, _ => k00 | 0, 1, _, _ => k01 | 0, 2, _, _ => k02 | 0, 3, _, _ => k03 | 0, 4, _, _ => k04 | 0, 5, _, _ => k05 | 0, 6, _, _ => k06
    | 1, 0, _, _ => k10 | 1, 1, _, _ => k11 | 1, 2, _, _ => k12 | 1, 3, _, _ => k13 | 1, 4, _, _ => k14 | 1, 5, _, _ => k15 | 1, 6, _, _ => k16
    | 2, 0, _, _ => k20 | 2, 1, _, _ => k21 | 2, 2, _, _ => k22 | 2, 3, _, _ => k23 | 2, 4, _, _ => k24 | 2, 5, _, _ => k25 | 2, 6, _, _ => k26
    | 3, 0, _, _ => k30 | 3, 1, _, _ => k31 | 3, 2, _, _ => k32 | 3, 3, _, _ => k33 | 3, 4, _, _ => k34 | 3, 5, _, _ => k35 | 3, 6, _, _ => k36
    | 4, 0, _, _ => k40 | 4, 1, _, _ => k41 | 4, 2, _, _ => k42 | 4, 3, _, _ => k43 | 4, 4, _, _ => k44 | 4, 5, _, _ => k45 | 4, 6, _, _ => k46
    | 5, 0, _, _ => k50 | 5, 1, _, _ => k51 | 5, 2, _, _ => k52 | 5, 3, _, _ => k53 | 5, 4, _, _ => k54 | 5, 5, _, _ => k55 | 5, 6, _, _ => k56
    | 6, 0, _, _ => k60 | 6, 1, _, _ => k61 | 6, 2, _, _ => k62 | 6, 3, _, _ => k63 | 6, 4, _, _ => k64 | 6, 5, _, _ => k65 | 6, 6, _, _ => k66
  have hkb : ∀ i, i < 8 → PySem.W.kitOne K (.ref (c i)) (.ref (c 7)) = some true := fun i hi => match i, hi with
    | 0, _ => kb0 | 1, _ => kb1 | 2, _ => kb2 | 3, _ => kb3 | 4, _ => kb4 | 5, _ => kb5 | 6, _ => kb6 | 7, _ => kb7
  have hkv : ∀ i, i < 8 → PySem.W.kitOne K (.ref (c i)) (.type "ValueError") = some true := fun i hi => match i, hi with
    | 0, _ => kv0 | 1, _ => kv1 | 2, _ => kv2 | 3, _ => kv3 | 4, _ => kv4 | 5, _ => kv5 | 6, _ => kv6 | 7, _ => kv7
  let T : Txc K mg := { T := T0, c := c, f := f, x := hx, kit := hk, kitB := hkb, kitV := hkv, cw := ⟨cw1, cw2⟩, classes := ⟨f_classes, _, PySem.W.mg_of X G g_classes, fun_mk (st := s__law_classes) l_classes c_classes e_classes⟩, right := ⟨f_right, _, PySem.W.mg_of X G g_right, fun_mk (st := s__law_right) l_right c_right e_right⟩, g_InvalidMessage := PySem.W.mg_of X G a0, g_InvalidMessages := PySem.W.mg_of X G a1, g_InvalidName := PySem.W.mg_of X G a2, g_InvalidCalls := PySem.W.mg_of X G a3, g_InvalidPause := PySem.W.mg_of X G a4, g_InvalidTime := PySem.W.mg_of X G a5, g_InvalidNumber := PySem.W.mg_of X G a6, g_WireRanksError := PySem.W.mg_of X G a7, z_isinstance := PySem.W.mg_none_of X G z_isinstance, z_ValueError := PySem.W.mg_none_of X G z_ValueError, z_range := PySem.W.mg_none_of X G z_range, z_repr := PySem.W.mg_none_of X G z_repr, z_list := PySem.W.mg_none_of X G z_list, z_dict := PySem.W.mg_none_of X G z_dict }
  exact ⟨_, fun s v => .of_eq rfl, fun base _ _ => ok_law T (fun_mk (st := s_law) l_law c_law e_law)⟩
theorem walk {l : PySem.W.OpenLaw} {q : Program} {loose : List Str} {XP : (Str → Option Value) → Heap → Prop} {YP : World → Heap → Prop} {d : DefRec} {K : Params → PySem.W.Frag} (hn : l.most = some 63) (hdf : d.params.defaults = [])
    (hY : ∀ (w : World) (h : Heap), YP w h → (K w.params).In h)
    (F : ∀ (w : World) (mg : Str → Option Value) (fa : Addr) (h : Heap), (K w.params).In h → h.Ns mainGlobals mg → mg d.name = some (.ref fa) →
      ∃ fd : FuncData, (∀ (s : Shared) (u : Value), BindsTo s fd ⟨[u], []⟩ [("_law_script", u)]) ∧ ∀ base : Heap, (K w.params).In base → base.Ns mainGlobals mg → FnG l.prog w (K w.params) mg base CX0 5 fa fd ["_law_script"] (spLaw (K w.params))) :
    PySem.W.WalkO q loose XP YP l.row.toRowW d [] (fun f vs => PySem.call f vs) :=
  walkG (n := 63) (sp := spLaw) hn (by decide) hdf ⟨rfl, by decide, by decide⟩ hY F fun K H a ns hl hS => ⟨a, ns, rfl, hS, hl, fun _ => rfl⟩
end K01
open PySem PySem.W PyProof.Rows
set_option maxRecDepth 100000 in
set_option maxHeartbeats 0 in
theorem PySem.Challenge.cw_wireranks_k01_errors_made_holds : PySem.Challenge.rw_wireranks_k01_errors_made.Holds := by
  w_on; o_law; k_head; (case hw => w_witness2)
  k_fill
  refine K01.walk (l := PySem.Challenge.rw_wireranks_k01_errors_made) rfl rfl (fun w h Y => PySem.W.kIn_of Y) ?F
  case F =>
    intro w mg fa h KX G hmg
    refine' K01.all_mk KX G hmg ?a0 ?a1 ?a2 ?a3 ?a4 ?a5 ?a6 ?a7 ?x0 ?x1 ?x2 ?x3 ?x4 ?x5 ?x6 ?x7 ?k00 ?k01 ?k02 ?k03 ?k04 ?k05 ?k06 ?k10 ?k11 ?k12 ?k13 ?k14 ?k15 ?k16 ?k20 ?k21 ?k22 ?k23 ?k24 ?k25 ?k26 ?k30 ?k31 ?k32 ?k33 ?k34 ?k35 ?k36 ?k40 ?k41 ?k42 ?k43 ?k44 ?k45 ?k46 ?k50 ?k51 ?k52 ?k53 ?k54 ?k55 ?k56 ?k60 ?k61 ?k62 ?k63 ?k64 ?k65 ?k66 ?kb0 ?kb1 ?kb2 ?kb3 ?kb4 ?kb5 ?kb6 ?kb7 ?kv0 ?kv1 ?kv2 ?kv3 ?kv4 ?kv5 ?kv6 ?kv7 ?cw1 ?cw2 ?g_purse ?l_purse ?c_purse ?e_purse ?g_draw ?l_draw ?c_draw ?e_draw ?g_pick ?l_pick ?c_pick ?e_pick ?g_classes ?l_classes ?c_classes ?e_classes ?g_right ?l_right ?c_right ?e_right ?g_law ?l_law ?c_law ?e_law ?z_len ?z_max ?z_int ?z_isinstance ?z_ValueError ?z_range ?z_repr ?z_list ?z_dict
    (case a0 => k_is)
    (case a1 => k_is)
    (case a2 => k_is)
    (case a3 => k_is)
    (case a4 => k_is)
    (case a5 => k_is)
    (case a6 => k_is)
    (case a7 => k_is)
    (case x0 => (refine' Wr.xcf_mk ?xL ?hbm ?sa ?ga ?gg ?nb ?a1 ?t1 ?l1 ?lT ?c1 ?k1 ?kC ?eC ?tC ?hC ?cc ?mo); (case xL => k_is); (case hbm => exact Wr.tail_ok); (case sa => k_is); (case ga => k_is); (case gg => k_is); (case nb => k_is); (case a1 => k_is); (case t1 => k_is); (case l1 => k_is); (case lT => k_is); (case c1 => k_is); (case k1 => k_is); (case kC => k_is); (case eC => k_is); (case tC => k_is); (case hC => k_is); (case cc => k_is); (case mo => k_is))
    (case x1 => (refine' Wr.xcf_mk ?xL ?hbm ?sa ?ga ?gg ?nb ?a1 ?t1 ?l1 ?lT ?c1 ?k1 ?kC ?eC ?tC ?hC ?cc ?mo); (case xL => k_is); (case hbm => exact Wr.tail_ok); (case sa => k_is); (case ga => k_is); (case gg => k_is); (case nb => k_is); (case a1 => k_is); (case t1 => k_is); (case l1 => k_is); (case lT => k_is); (case c1 => k_is); (case k1 => k_is); (case kC => k_is); (case eC => k_is); (case tC => k_is); (case hC => k_is); (case cc => k_is); (case mo => k_is))
    (case x2 => (refine' Wr.xcf_mk ?xL ?hbm ?sa ?ga ?gg ?nb ?a1 ?t1 ?l1 ?lT ?c1 ?k1 ?kC ?eC ?tC ?hC ?cc ?mo); (case xL => k_is); (case hbm => exact Wr.tail_ok); (case sa => k_is); (case ga => k_is); (case gg => k_is); (case nb => k_is); (case a1 => k_is); (case t1 => k_is); (case l1 => k_is); (case lT => k_is); (case c1 => k_is); (case k1 => k_is); (case kC => k_is); (case eC => k_is); (case tC => k_is); (case hC => k_is); (case cc => k_is); (case mo => k_is))
    (case x3 => (refine' Wr.xcf_mk ?xL ?hbm ?sa ?ga ?gg ?nb ?a1 ?t1 ?l1 ?lT ?c1 ?k1 ?kC ?eC ?tC ?hC ?cc ?mo); (case xL => k_is); (case hbm => exact Wr.tail_ok); (case sa => k_is); (case ga => k_is); (case gg => k_is); (case nb => k_is); (case a1 => k_is); (case t1 => k_is); (case l1 => k_is); (case lT => k_is); (case c1 => k_is); (case k1 => k_is); (case kC => k_is); (case eC => k_is); (case tC => k_is); (case hC => k_is); (case cc => k_is); (case mo => k_is))
    (case x4 => (refine' Wr.xcf_mk ?xL ?hbm ?sa ?ga ?gg ?nb ?a1 ?t1 ?l1 ?lT ?c1 ?k1 ?kC ?eC ?tC ?hC ?cc ?mo); (case xL => k_is); (case hbm => exact Wr.tail_ok); (case sa => k_is); (case ga => k_is); (case gg => k_is); (case nb => k_is); (case a1 => k_is); (case t1 => k_is); (case l1 => k_is); (case lT => k_is); (case c1 => k_is); (case k1 => k_is); (case kC => k_is); (case eC => k_is); (case tC => k_is); (case hC => k_is); (case cc => k_is); (case mo => k_is))
    (case x5 => (refine' Wr.xcf_mk ?xL ?hbm ?sa ?ga ?gg ?nb ?a1 ?t1 ?l1 ?lT ?c1 ?k1 ?kC ?eC ?tC ?hC ?cc ?mo); (case xL => k_is); (case hbm => exact Wr.tail_ok); (case sa => k_is); (case ga => k_is); (case gg => k_is); (case nb => k_is); (case a1 => k_is); (case t1 => k_is); (case l1 => k_is); (case lT => k_is); (case c1 => k_is); (case k1 => k_is); (case kC => k_is); (case eC => k_is); (case tC => k_is); (case hC => k_is); (case cc => k_is); (case mo => k_is))
    (case x6 => (refine' Wr.xcf_mk ?xL ?hbm ?sa ?ga ?gg ?nb ?a1 ?t1 ?l1 ?lT ?c1 ?k1 ?kC ?eC ?tC ?hC ?cc ?mo); (case xL => k_is); (case hbm => exact Wr.tail_ok); (case sa => k_is); (case ga => k_is); (case gg => k_is); (case nb => k_is); (case a1 => k_is); (case t1 => k_is); (case l1 => k_is); (case lT => k_is); (case c1 => k_is); (case k1 => k_is); (case kC => k_is); (case eC => k_is); (case tC => k_is); (case hC => k_is); (case cc => k_is); (case mo => k_is))
    (case x7 => (refine' Wr.xcf_mk ?xL ?hbm ?sa ?ga ?gg ?nb ?a1 ?t1 ?l1 ?lT ?c1 ?k1 ?kC ?eC ?tC ?hC ?cc ?mo); (case xL => k_is); (case hbm => exact Wr.tail_ok); (case sa => k_is); (case ga => k_is); (case gg => k_is); (case nb => k_is); (case a1 => k_is); (case t1 => k_is); (case l1 => k_is); (case lT => k_is); (case c1 => k_is); (case k1 => k_is); (case kC => k_is); (case eC => k_is); (case tC => k_is); (case hC => k_is); (case cc => k_is); (case mo => k_is))
    (case k00 => kit_is)
    (case k01 => kit_is)
    (case k02 => kit_is)
    (case k03 => kit_is)
    (case k04 => kit_is)
    (case k05 => kit_is)
    (case k06 => kit_is)
    (case k10 => kit_is)
    (case k11 => kit_is)
    (case k12 => kit_is)
    (case k13 => kit_is)
    (case k14 => kit_is)
    (case k15 => kit_is)
    (case k16 => kit_is)
    (case k20 => kit_is)
    (case k21 => kit_is)
    (case k22 => kit_is)
    (case k23 => kit_is)
    (case k24 => kit_is)
    (case k25 => kit_is)
    (case k26 => kit_is)
    (case k30 => kit_is)
    (case k31 => kit_is)
    (case k32 => kit_is)
    (case k33 => kit_is)
    (case k34 => kit_is)
    (case k35 => kit_is)
    (case k36 => kit_is)
    (case k40 => kit_is)
    (case k41 => kit_is)
    (case k42 => kit_is)
    (case k43 => kit_is)
    (case k44 => kit_is)
    (case k45 => kit_is)
    (case k46 => kit_is)
    (case k50 => kit_is)
    (case k51 => kit_is)
    (case k52 => kit_is)
    (case k53 => kit_is)
    (case k54 => kit_is)
    (case k55 => kit_is)
    (case k56 => kit_is)
    (case k60 => kit_is)
    (case k61 => kit_is)
    (case k62 => kit_is)
    (case k63 => kit_is)
    (case k64 => kit_is)
    (case k65 => kit_is)
    (case k66 => kit_is)
    (case kb0 => kit_is)
    (case kb1 => kit_is)
    (case kb2 => kit_is)
    (case kb3 => kit_is)
    (case kb4 => kit_is)
    (case kb5 => kit_is)
    (case kb6 => kit_is)
    (case kb7 => kit_is)
    (case kv0 => kit_is)
    (case kv1 => kit_is)
    (case kv2 => kit_is)
    (case kv3 => kit_is)
    (case kv4 => kit_is)
    (case kv5 => kit_is)
    (case kv6 => kit_is)
    (case kv7 => kit_is)
    (case cw1 => k_is)
    (case cw2 => k_is)
    (case g_purse => k_is)
    (case l_purse => k_is)
    (case c_purse => k_is)
    (case e_purse => k_is)
    (case g_draw => k_is)
    (case l_draw => k_is)
    (case c_draw => k_is)
    (case e_draw => k_is)
    (case g_pick => k_is)
    (case l_pick => k_is)
    (case c_pick => k_is)
    (case e_pick => k_is)
    (case g_classes => k_is)
    (case l_classes => k_is)
    (case c_classes => k_is)
    (case e_classes => k_is)
    (case g_right => k_is)
    (case l_right => k_is)
    (case c_right => k_is)
    (case e_right => k_is)
    (case g_law => k_is)
    (case l_law => k_is)
    (case c_law => k_is)
    (case e_law => k_is)
    (case z_len => k_is)
    (case z_max => k_is)
    (case z_int => k_is)
    (case z_isinstance => k_is)
    (case z_ValueError => k_is)
    (case z_range => k_is)
    (case z_repr => k_is)
    (case z_list => k_is)
    (case z_dict => k_is)
