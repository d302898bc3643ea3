import PyProof.Rows.All
import Wide.All
import OpenK.AllK
import Wide.FinOn
import HandS.ForMost
import HandS.Exc
import HandS.ExcValue
import PyProof.ReprRoads
import PyProof.ReprReads
import HandS.Codes
import HandS.Walk
import KE.GoesEnum
import HandS.Star
import HandS.TupAny
import HandS.IsInst
import HandS.FStr
import HandS.RaiseMore
import HandS.TryOnly
import HandS.ExcOwn
import HandS.WordsExc
import HandS.Flow
import HandS.More
import HandS.Nested
import HandS.Style
import HandS.ExcIs
import HandS.Deep
import HandS.TupMul
import HandS.SetFor
import HandS.Wide
import HandS.Conv
import KE.GoesEnumKw
import PyProof.Rows.CallKwBuiltin
import PyProof.WalkInts
import PyProof.WalksMore
import HandS.List
import PyProof.Rows.SumAny
import KE.GoesZip
import HandS.EndTab
import HandS.HotCalls
import HandS.ForDict
import KE.KDictPairs
import PySem.Challenge.RW_looplearn_k36_far_words_refused
set_option Elab.async false
set_option linter.all false
section
set_option maxRecDepth 100000
set_option maxHeartbeats 2000000
/-! repr of lists and tuples at any depth, where nothing is guarded; defs that are called so. -/
namespace Lk
open PySem PySem.Spec PyProof.Rows L2
mutual
/-- as Dp, and a dict with nothing in it -/
inductive Dq (K : PySem.W.Frag) (H : Hp) : V → PyData → Prop
  | non : Dq K H .non .none
  | bl (b : Bool) : Dq K H (.bl b) (.bool b)
  | int (i : Int) : Dq K H (.int i) (.int i)
  | str (x : Str) : Dq K H (.str x) (.str x)
  | lst {a : Addr} {xs : List V} {ds : List PyData} (h : SqL K H a xs) (m : DqAll K H xs ds) : Dq K H (.ref a) (.list ds)
  | tup {a : Addr} {xs : List V} {ds : List PyData} (h : SqT K H a xs) (m : DqAll K H xs ds) : Dq K H (.ref a) (.tuple ds)
  | dct {a : Addr} (h : H a = some (.dK [])) : Dq K H (.ref a) (.dict [])
inductive DqAll (K : PySem.W.Frag) (H : Hp) : List V → List PyData → Prop
  | nil : DqAll K H [] []
  | cons {v : V} {vs : List V} {d : PyData} {ds : List PyData} (h : Dq K H v d) (m : DqAll K H vs ds) : DqAll K H (v :: vs) (d :: ds)
end
section
variable {X : Cx} {pins : List (Addr × Obj)} {σ : L2.St} {H : Hp} {s : Shared}
/-- what is read of data so told, and that it is shown -/
def Sh (X : Cx) (s : Shared) (u : Value) (d : PyData) : Prop :=
  ∃ as bs, PySem.Reads s.heap u d as ∧ ReadAtMost s.heap d.depth bs ∧ ReprK X.prog X.w bs s.heap d.depth u d.shown
def ShAll (X : Cx) (s : Shared) (us : List Value) (ds : List PyData) : Prop :=
  ∃ as bs, PySem.ReadsAll s.heap us ds as ∧ ReadAtMost s.heap (PyData.depthAll ds) bs ∧ ReprAllK X.prog X.w bs s.heap (PyData.depthAll ds) us (PyData.shownAll ds)
theorem sh_flat {u : Value} {d : PyData} {as : List Addr} (r : PySem.Reads s.heap u d as) (h : d.showable = true) (n : d.hasDict = false) (z : d.shown.length ≤ sizeLine) : Sh X s u d := by
  obtain ⟨bs, h1, h2⟩ := ReprK.of_reads (prog := X.prog) (w := X.w) r h (PyData.noDict_hsm n) z
  exact ⟨as, bs, r, h1, h2⟩
mutual
theorem Dq.shows (I : Inv X pins σ H s) : ∀ (d : PyData) (v : V) (u : Value), Dq X.K H v d → RelV v u → d.showable = true → d.shown.length ≤ sizeLine → Sh X s u d
  | .none, _, _, h, r, hs, z => by
    cases h
    cases r
    exact sh_flat .none hs (by simp only [PyData.hasDict]) z
  | .bool b, _, _, h, r, hs, z => by
    cases h
    cases r
    exact sh_flat (.bool b) hs (by simp only [PyData.hasDict]) z
  | .int i, _, _, h, r, hs, z => by
    cases h
    obtain ⟨t, rfl⟩ := r
    exact sh_flat (.int i t) hs (by simp only [PyData.hasDict]) z
  | .str x, _, _, h, r, hs, z => by
    cases h
    obtain ⟨t, rfl⟩ := r
    exact sh_flat (.str x t) hs (by simp only [PyData.hasDict]) z
  | .list ds, _, _, h, r, hs, z => by
    cases h with
    | lst hq m =>
      rename_i a xs
      cases r
      obtain ⟨its, rv, ⟨o, n, ho, hc, _, hd⟩, _⟩ := I.list hq
      have z2 : (listText (PyData.shownAll ds)).length ≤ sizeLine := by simpa only [PyData.shown] using z
      obtain ⟨as, bs, r2, hb, hk⟩ := DqAll.shows I ds xs its m rv (by simpa [PyData.showable] using hs) fun t ht => Nat.le_trans (listText_mem_le ht) z2
      have r3 : PySem.Reads s.heap (.ref a) (.list ds) (a :: as) := .list ho hc hd r2
      have out : a ∉ bs := not_mem_of_deeper (n := PyData.depthAll ds) r3 (by simp only [PyData.depth]; omega) hb
      refine ⟨_, a :: bs, r3, .cons r3 (n := PyData.depthAll ds) (by simp only [PyData.depth]; omega) hb, ?_⟩
      simp only [PyData.depth, PyData.shown]
      cases its with
      | nil =>
        cases r2
        simp only [PyData.shownAll, listText_nil]
        exact ReprK.listEmpty ho hc hd
      | cons y ys => exact ReprK.list ho hc hd out (by simpa using hk.length_eq) fun i y e => hk.item i y (by simpa using e)
  | .tuple ds, _, _, h, r, hs, z => by
    cases h with
    | tup hq m =>
      rename_i a xs
      cases r
      obtain ⟨its, rv, ⟨o, ho, hc, n, hd⟩, _⟩ := I.tuple hq
      have z2 : (tupleText (PyData.shownAll ds)).length ≤ sizeLine := by simpa only [PyData.shown] using z
      obtain ⟨as, bs, r2, hb, hk⟩ := DqAll.shows I ds xs its m rv (by simpa [PyData.showable] using hs) fun t ht => Nat.le_trans (tupleText_mem_le ht) z2
      have r3 : PySem.Reads s.heap (.ref a) (.tuple ds) as := .tuple ho hc hd r2
      have out : a ∉ bs := not_mem_of_deeper (n := PyData.depthAll ds) r3 (by simp only [PyData.depth]; omega) hb
      refine ⟨_, a :: bs, r3, .cons r3 (n := PyData.depthAll ds) (by simp only [PyData.depth]; omega) hb, ?_⟩
      simp only [PyData.depth, PyData.shown]
      exact ReprK.tuple ho hc hd out hk
  | .dict kvs, _, _, h, r, hs, z => by
    cases h with
    | dct hq =>
      rename_i a
      cases r
      obtain ⟨_, far, vs, kv, o, es, ep, ho, ex, hd, _, hp, _⟩ := dk_of I.hok hq
      cases kv
      have e0 : es.toList = [] := List.eq_nil_of_length_eq_zero (by rw [hp.length]; rfl)
      obtain ⟨el⟩ := es
      dsimp only at e0
      subst e0
      have r3 : PySem.Reads s.heap (.ref a) (.dict []) [a] := .dict (as := []) (bs := []) ho ex.1 hd .nil .nil
      refine ⟨_, [a], r3, .cons r3 (n := 0) (Nat.zero_le _) (fun _ q => nomatch q), ?_⟩
      have q := ReprK.dict (prog := X.prog) (w := X.w) (as := []) (d := PyData.depthKv []) ho ex.1 hd far (fun q => nomatch q) .nil
      simpa only [PyData.depth, PyData.shown, PyData.shownKv] using q
theorem DqAll.shows (I : Inv X pins σ H s) : ∀ (ds : List PyData) (vs : List V) (us : List Value), DqAll X.K H vs ds → Vals vs us → PyData.showableAll ds = true → (∀ t ∈ PyData.shownAll ds, t.length ≤ sizeLine) → ShAll X s us ds
  | [], _, _, h, r, _, _ => by
    cases h
    cases r
    exact ⟨[], [], .nil, (fun _ q => nomatch q), .nil⟩
  | d :: ds, _, _, h, r, hs, z => by
    cases h with
    | cons h1 h2 =>
      cases r with
      | cons r1 r2 =>
        have hs2 : d.showable = true ∧ PyData.showableAll ds = true := by simpa [PyData.showableAll] using hs
        obtain ⟨as1, bs1, p1, q1, k1⟩ := Dq.shows I d _ _ h1 r1 hs2.1 (z _ (by simp only [PyData.shownAll]; exact List.mem_cons_self))
        obtain ⟨as2, bs2, p2, q2, k2⟩ := DqAll.shows I ds _ _ h2 r2 hs2.2 fun t ht => z t (by simp only [PyData.shownAll]; exact List.mem_cons_of_mem _ ht)
        refine ⟨_, bs1 ++ bs2, .cons p1 p2, ?_, ?_⟩
        · simp only [PyData.depthAll]
          exact (q1.mono (Nat.le_max_left _ _)).append (q2.mono (Nat.le_max_right _ _))
        · simp only [PyData.depthAll, PyData.shownAll]
          exact .cons ((k1.more fun b hb => List.mem_append_left _ hb).level_le (Nat.le_max_left _ _)) (k2.more_le (fun b hb => List.mem_append_right bs1 hb) (Nat.le_max_right _ _))
end
/-- repr of data, where nothing is guarded -/
def rRep (K : PySem.W.Frag) : List V → Hp → VK → Prop := fun xs H Q => ∃ v d, xs = [v] ∧ Dq K H v d ∧ (∀ kvs, d ≠ .dict kvs) ∧ d.showable = true ∧ d.depth ≤ 64 ∧ d.shown.length ≤ sizeLine ∧ Q (.str d.shown) H
theorem call_rep (hg : X.A.guards = some []) (hu : X.A.units + 100 < cLine) : CallR X (.builtin "repr") (rRep X.K) := by
  intro pins s σ H xs us Q I ru h
  obtain ⟨v, d, rfl, hd, nd, hs, dp, z, q⟩ := h
  obtain ⟨u, rfl, r⟩ := vals1 ru
  clear ru
  cases hd with
  | non =>
    cases r
    simp only [PyData.shown] at q
    exact PySem.P.repr_of_none ⟨.str _, H, I.tok _, ⟨_, rfl⟩, q⟩
  | bl b =>
    cases r
    simp only [PyData.shown] at q
    exact PySem.P.repr_of_bool ⟨.str _, H, I.tok _, ⟨_, rfl⟩, q⟩
  | int i =>
    obtain ⟨t, rfl⟩ := r
    simp only [PyData.shown] at q
    exact PySem.P.repr_of_int (by simpa [PyData.showable] using hs) ⟨.str _, H, I.tok _, ⟨_, rfl⟩, q⟩
  | str x =>
    obtain ⟨t, rfl⟩ := r
    simp only [PyData.shown] at q z
    exact PySem.P.repr_of_str ⟨.str _, H, I.tok _, ⟨_, rfl⟩, q⟩ z
  | dct e => exact absurd rfl (nd [])
  | lst hq m =>
    rename_i a xs ds
    cases r
    obtain ⟨its, rv, ⟨o, n, ho, hc, _, hd⟩, _⟩ := I.list hq
    simp only [PyData.shown, PyData.depth] at q z dp
    obtain ⟨as, bs, r2, hb, hk⟩ := DqAll.shows I ds xs its m rv (by simpa [PyData.showable] using hs) fun t ht => Nat.le_trans (listText_mem_le ht) z
    have out : a ∉ bs := not_mem_of_deeper (n := PyData.depthAll ds) (PySem.Reads.list ho hc hd r2) (by simp only [PyData.depth]; omega) hb
    have ty : s.TypeIs (.ref a) "list" := ⟨o, ho, hc⟩
    refine call_repr_slot (by omega) ty PySem.F.slot_list_repr.toG ?_
    cases its with
    | nil =>
      cases r2
      simp only [PyData.shownAll, listText_nil] at q
      exact call_list_repr_empty ty ho hd ⟨_, _, rfl, ⟨.str _, H, I.tok _, ⟨_, rfl⟩, q⟩⟩
    | cons y ys =>
      refine call_list_reprK ho hc hd out (by simpa using hk.length_eq) (fun i y e => hk.item i y (by simpa using e)) hg (fun b _ => Clear.nil b) (by show X.A.units + 1 + _ < cLine; omega) (fun _ _ e => e) (fun h2 u tk k => ?_) z
      exact ⟨_, _, rfl, ⟨.str _, H, I.kept k, ⟨_, rfl⟩, q⟩⟩
  | tup hq m =>
    rename_i a xs ds
    cases r
    obtain ⟨its, rv, ⟨o, ho, hc, n, hd⟩, _⟩ := I.tuple hq
    simp only [PyData.shown, PyData.depth] at q z dp
    obtain ⟨as, bs, r2, hb, hk⟩ := DqAll.shows I ds xs its m rv (by simpa [PyData.showable] using hs) fun t ht => Nat.le_trans (tupleText_mem_le ht) z
    have out : a ∉ bs := not_mem_of_deeper (n := PyData.depthAll ds) (PySem.Reads.tuple ho hc hd r2) (by simp only [PyData.depth]; omega) hb
    have ty : s.TypeIs (.ref a) "tuple" := ⟨o, ho, hc⟩
    refine call_repr_slot (by omega) ty PySem.F.slot_tuple_repr ?_
    refine call_tuple_reprK ho hc hd out hk hg (fun b _ => Clear.nil b) (by show X.A.units + 1 + _ < cLine; omega) (fun _ _ e => e) (fun h2 u tk k => ?_) z
    exact ⟨_, _, rfl, ⟨.str _, H, I.kept k, ⟨_, rfl⟩, q⟩⟩
end
end Lk
end
section
set_option maxRecDepth 100000
set_option maxHeartbeats 2000000
/-! Defs that are called where nothing is guarded. -/
namespace Lk
open PySem PySem.Spec PyProof.Rows L2
structure FnG (P : Program) (w : World) (K : PySem.W.Frag) (mg : Str → Option Value) (base : Heap) (T : CXT) (k : Nat) (f : Addr) (fd : FuncData) (ps : List Str) (sp : Sp) : Prop where
  many : ∀ {vs H Q E}, sp vs H Q E → vs.length = ps.length
  go : ∀ {A : Around} {outer : List Env} {s : Shared} {H : Hp} {args : Args} {us : List Value} {vs : List V} {Q : VK} {E : XK}, A.guards = some [] → Room k A → Env0 P w K mg base A outer s H →
    BindsTo s fd args (ps.zip us) → Vals vs us → sp vs H Q E → codeAny (model P w) A (.call (.ref f) args) (CR T outer P w H s Q E) s
section
variable {P : Program} {w : World} {K : PySem.W.Frag} {mg : Str → Option Value} {base : Heap}
theorem fnG {x qual : Str} {st : Stmt} {f : Addr} {fd : FuncData} {N ps : List Str} {k : Nat} {sp : Sp} (F : Fun K x qual st f fd) (S : FnScope N ps (defScope st)) (many : ∀ {vs H Q E}, sp vs H Q E → vs.length = ps.length)
    (body : ∀ (cdv : Value) (A : Around) (outer : List Env) (s : Shared) (H : Hp) (vs : List V) (Q : VK) (E : XK), (A.deeper (envOfC qual (defScope st) s.heap.objs.size f cdv)).guards = some [] →
      Room k (A.deeper (envOfC qual (defScope st) s.heap.objs.size f cdv)) → sp vs H Q E →
      ∃ t, PSs (cxOf CX0 P w K mg base N qual (defScope st) f cdv A outer s H E).nox (defBody st) t ∧ t { nx := fun _ H2 => Q .non H2, rt := Q } (start N vs) H) : FnG P w K mg base CX0 (k + 1) f fd ps sp := by
  obtain ⟨oc, od, kV, doc, pm, an, cdv, ct, osl, rfl, lk, code⟩ := F.ex
  refine ⟨many, fun {A outer s H args us vs Q E} gA hr e0 hb r h => ?_⟩
  have len := many h
  have inK : K.In s.heap := e0.mod.kin.keeps fun b o q => (e0.bs b o q).1
  have free : s.heap.NoLimit := e0.mod.nolimit.keeps fun b o q => (e0.bs b o q).1
  refine codeAny_call_function hr.depth (inK _ _ lk) rfl S.co S.gen rfl (PySem.W.codeRec_of inK code) (hb _ _ _ _ (wpAny_newFunctionEnv_cells S.kind (fun ⟨n, v⟩ hy => ?_) fun env he s1 x1 => ?_))
  · exact (S.par n (List.of_mem_zip hy).1).imp id fun q => ⟨q, PySem.W.cellsFrom_some _ _ _ (.inl q)⟩
  · subst he
    obtain ⟨t, ht, q⟩ := body cdv A outer s H vs Q E gA (hr.deeper _) h
    have I0 : Inv (cxOf CX0 P w K mg base N qual (defScope st) f cdv A outer s H E) [] (start N vs) H s1 := inv_start S hr.hd e0 len r x1
    refine ⟨free.keeps x1.toInCall.keep, codeAny_func (wpAny_mono (ht.nox.run [] s1 (start N vs) H _ I0 q) (fun fl s2 z => ?_) fun _ _ z => z)⟩
    match fl, z with
    | .ret u, ⟨v, _, H2, J, rv, q2⟩ => exact ⟨v, H2, J.os, J.bare, J.base, J.hok, rv, q2⟩
    | .next, ⟨_, H2, J, q2⟩ => exact ⟨V.non, H2, J.os, J.bare, J.base, J.hok, (rfl : RelV .non Value.none), q2⟩
    | .brk, ⟨_, _, _, no⟩ => exact no.elim
    | .cont, ⟨_, _, _, no⟩ => exact no.elim
end
/-- a def that is called by its name where nothing is guarded -/
structure CalG (P : Program) (w : World) (K : PySem.W.Frag) (mg : Str → Option Value) (base : Heap) (k : Nat) (x : Str) (sp : Sp) : Prop where
  ex : ∃ (f : Addr) (fd : FuncData) (ps : List Str), FnG P w K mg base CX0 k f fd ps sp ∧ mg x = some (.ref f) ∧ PySem.W.keepIn K (.ref f) = true ∧ Binds K fd ps []
section
variable {X : Cx} {k j : Nat} {x : Str} {sp : Sp} {p pos : Pos} {e : Expr} {es : List Expr} {t : TA}
theorem pe_cG (c : CalG X.prog X.w X.K X.mg X.base k x sp) (gX : X.A.guards = some []) (hr : Room j X.A) (hk : k ≤ j) (hg : Gl X x) (ha : PA X (e :: es) t)
    (hdb : (x == ("__debug__" : Str)) = false := by decide) (he : starEach (e :: es) X.env = (false, eval e X.env) :: starEach es X.env := by rfl) (hpl : (backTo pos (starEach es X.env)).any (·.1) = false := by rfl) :
    PE X (.Call (.Name x p) (e :: es) [] pos) (tCall sp [] E0 t) := by
  obtain ⟨f, fd, ps, F, hm, kp, b⟩ := c.ex
  refine ⟨fun pins s σ H Q I h => wpAny_Call_Name_kw (ld_glob I hg hm ?_ hdb)⟩
  refine PySem.W.callWith_K (h₀ := X.base) I.ok.mod.kin kp (thn (ha.run pos pins s σ H _ I h) fun us s1 ⟨vs, H1, I1, r, q⟩ => ⟨I1.kIn, ?_⟩) he hpl
  dsimp only at q
  rw [List.append_nil] at q
  have hl : (us ++ []).length = ps.length := by rw [List.append_nil, ← r.length]; exact F.many q
  have b1 := b s1 us I1.kIn hl
  rw [List.append_nil] at b1
  refine wpAny_call (codeAny_mono (F.go gX (hr.mono hk) I1.env0 b1 r q) fun r2 s2 z => ?_)
  match r2, z with
  | .ok (.ret u), z => exact I1.after z
  | .ok .next, z => exact z.elim
  | .ok .brk, z => exact z.elim
  | .ok .cont, z => exact z.elim
  | .error _, z => exact z.elim
end
/-- the law's call -/
theorem lawG {P : Program} {w : World} {K : PySem.W.Frag} {mg mb : Str → Option Value} {k : Nat} {fa a : Addr} {fd : FuncData} {x : Str} {sp : Sp} {s1 : Shared} {vs : List Value} {ns : List Int}
    (inK : K.In s1.heap) (gl : s1.heap.Ns mainGlobals mg) (bl : s1.heap.Ns builtinsNs mb) (bb : ∀ x : Str, x ≠ "__name__" → mb x = bootBuiltins x) (free : s1.heap.NoLimit) (g0 : s1.gens = #[])
    (ha : s1.heap.get? a = some { cls := .type "list", data := .seq vs.toArray }) (hi : IntsAre vs ns) (hl : ns.length ≤ sizeLine) (hr : Room k callerA)
    (F : ∀ base : Heap, K.In base → base.Ns mainGlobals mg → FnG P w K mg base CX0 k fa fd [x] sp) (bind : ∀ (s : Shared) (u : Value), BindsTo s fd ⟨[u], []⟩ [(x, u)])
    (hsp : ∀ H : Hp, SqL K H a (ns.map V.int) → sp [.ref a] H (fun v _ => v = .bl true) fun _ _ _ => False) :
    codeAny (model P w) callerA (.call (.ref fa) ⟨[.ref a], []⟩) (fun r s2 => r = .ok (.ret (.bool true)) ∧ OldK s1.heap s2.heap ∧ s2.os = s1.os ∧ AllBare s2.gens) s1 := by
  have rv := vals_ints hi
  -- what is tracked: the script alone, as it was, or nothing
  have main : ∀ H : Hp, SqL K H a (ns.map V.int) → HOk P w H s1.heap → (∀ b u, H b = some u → b = a ∧ K.lookup a = none ∧ ∃ o xs, u = .frz o (.lst xs)) →
      codeAny (model P w) callerA (.call (.ref fa) ⟨[.ref a], []⟩) (fun r s2 => r = .ok (.ret (.bool true)) ∧ OldK s1.heap s2.heap ∧ s2.os = s1.os ∧ AllBare s2.gens) s1 := by
    intro H hS hok only
    have off : ∀ {b : Addr} {o : Obj} {es : Array DictEntry} {ep : Nat}, s1.heap.get? b = some o → o.data = .dict es ep → H b = none := fun {b o es ep} e d => by
      rcases q : H b with _ | u
      · rfl
      · obtain ⟨rfl, _, _⟩ := only b u q
        rw [ha] at e
        cases e
        cases (show Data.seq vs.toArray _ = Data.dict es ep from d)
    have hid : ∀ {b : Addr} {m : Str → Option Value}, s1.heap.Ns b m → (hidT s1.heap H).Ns b m := fun ⟨o, es, ep, e, d, r⟩ => ⟨o, es, ep, hidT_get e (off e d), d, r⟩
    have inB : K.In (hidT s1.heap H) := fun b o e => hidT_get (inK b o e) (by
      rcases q : H b with _ | u
      · rfl
      · obtain ⟨rfl, no, _⟩ := only b u q
        rw [no] at e
        cases e)
    have md : Mod K mg (hidT s1.heap H) := ⟨inB, hid gl, ⟨mb, hid bl, bb⟩, free.imp fun mc z => ⟨hid z.1, z.2⟩⟩
    have ev : Env0 P w K mg (hidT s1.heap H) callerA [] s1 H := ⟨rfl, md, fun _ _ e => of_hidT e, Nat.le_of_eq (hidT_size _ _), trivial, (fun _ z => nomatch z), hok, .of_eq g0⟩
    refine codeAny_mono ((F _ inB (hid gl)).go (us := [.ref a]) (vs := [.ref a]) rfl hr ev (bind s1 (.ref a)) (.cons rfl .nil) (hsp H hS)) fun r s2 z => ?_
    match r, z with
    | .ok (.ret u), ⟨v, H2, os, bare, un, hok2, rel, q⟩ =>
      cases (show v = V.bl true from q)
      cases (show u = Value.bool true from rel)
      refine ⟨rfl, OldK.of_keep fun b o e => ?_, os, bare⟩
      rcases q2 : H b with _ | u2
      · exact un.keep b o e q2 (fun z => nomatch z) (fun z => nomatch z)
      · obtain ⟨_, _, ob, xs, rfl⟩ := only b u2 q2
        obtain ⟨e1, _⟩ := hok b _ q2
        obtain ⟨e2, _⟩ := hok2 b _ (un.frzs b ob _ q2)
        rw [e] at e1
        cases e1
        exact e2
    | .ok .next, z => exact z.elim
    | .ok .brk, z => exact z.elim
    | .ok .cont, z => exact z.elim
    | .error _, z => exact z.elim
  rcases hk : K.lookup a with _ | o
  · refine main (upd (fun _ => none) a (.frz { cls := .type "list", data := .seq vs.toArray } (.lst (ns.map V.int)))) (.inl (.inr ⟨_, upd_same⟩)) (fun b u z => ?_) fun b u z => ?_
    · by_cases e : b = a
      · subst e
        rw [upd_same] at z
        cases z
        exact ⟨ha, by rw [List.length_map]; exact hl, vs, _, rv, ha⟩
      · rw [upd_ne e] at z
        cases z
    · by_cases e : b = a
      · subst e
        rw [upd_same] at z
        cases z
        exact ⟨rfl, hk, _, _, rfl⟩
      · rw [upd_ne e] at z
        cases z
  · have e := inK a o hk
    rw [ha] at e
    cases e
    refine main (fun _ => none) (.inr ⟨_, vs.toArray, _, hk, rfl, rfl, rfl, ?_, by simpa using rv⟩) (fun _ _ z => nomatch z) fun _ _ z => nomatch z
    rw [List.size_toArray, hi.length]
    exact hl
/-- what the head leaves, from the law's def -/
theorem walkG {l : PySem.W.OpenLaw} {n k : Nat} {q : Program} {loose : List Str} {XP : (Str → Option Value) → Heap → Prop} {YP : World → Heap → Prop} {d : DefRec} {K : Params → PySem.W.Frag} {sp : World → Sp} {x : Str}
    (hn : l.most = some n) (hn2 : n ≤ sizeLine) (hdf : d.params.defaults = []) (hr : Room k callerA) (hY : ∀ (w : World) (h : Heap), YP w h → (K w.params).In h)
    (F : ∀ (w : World) (mg : Str → Option Value) (fa : Addr) (h : Heap), (K w.params).In h → h.Ns mainGlobals mg → mg d.name = some (.ref fa) →
      ∃ fd : FuncData, (∀ (s : Shared) (u : Value), BindsTo s fd ⟨[u], []⟩ [(x, u)]) ∧ ∀ base : Heap, (K w.params).In base → base.Ns mainGlobals mg → FnG l.prog w (K w.params) mg base CX0 k fa fd [x] (sp w))
    (hsp : ∀ (w : World) (H : Hp) (a : Addr) (ns : List Int), ns.length ≤ n → SqL (K w.params) H a (ns.map V.int) → sp w [.ref a] H (fun v _ => v = .bl true) fun _ _ _ => False) :
    PySem.W.WalkO q loose XP YP l.row.toRowW d [] (fun f vs => PySem.call f vs) := by
  refine Att.attach_call hn hdf fun w s0 s1 mg mb fa o pm cd doc a vs ns G Y ho hd hcd hmg hobj hints hlen hg => ?_
  obtain ⟨fd, b, z⟩ := F w mg fa _ (hY w _ Y) G.T.g hmg
  exact lawG (hY w _ Y) G.T.g G.T.b G.T.builtins G.T.nolimit hg hobj hints (Nat.le_trans hlen hn2) hr z b fun H hS => hsp w H a ns hlen hS
end Lk
end
section
set_option maxRecDepth 100000
set_option maxHeartbeats 2000000
/-! enumerate of a tuple. -/
namespace Lk
open PySem PySem.Spec PyProof.Rows L2
/-- the tuple at a, its items in new pairs behind their numbers from c on -/
def IteT (K : PySem.W.Frag) (a : Addr) (c : Int) : It :=
  ⟨fun i H => ∃ (xs : List V) (x : V), SqT K H a xs ∧ xs[i]? = some x,
   fun i H v H2 => ∃ T x, v = .ref T ∧ H T = none ∧ H2 = upd H T (.tup [.int (c + (i : Int)), x]) ∧ ∀ xs, SqT K H a xs → xs[i]? = some x,
   fun i H => ∃ xs : List V, SqT K H a xs ∧ xs.length ≤ i⟩
theorem walk_enumT {K : PySem.W.Frag} {a : Addr} {c : Int} {xs : List V} : Walk (IteT K a c) xs.length (fun H => SqT K H a xs) (YPair (fun i => some (.int (c + (i : Int)))) (fun i => xs[i]?)) := by
  refine ⟨fun i _ hi q => ⟨xs, xs[i], q, by simp [hi]⟩, fun _ q => ⟨xs, q, Nat.le_refl _⟩, fun i H v H2 _ q ⟨T, x, h1, h2, h3, h4⟩ => ?_⟩
  exact ⟨T, .int (c + (i : Int)), x, h1, h2, h3, rfl, h4 xs q⟩
theorem turn_enumT {P : Program} {w : World} {K : PySem.W.Frag} {elts : List Expr} {kk : Nat} {tpos : Pos} {c : Int} (a e it : Addr) :
    Turn P w K (.Tuple elts kk tpos) (IteT K a c) [e, it] e (fun i h => (∃ old, IsEnum h e it (c + (i : Int)) old) ∧ h.IsTupleIter it a i ∧ e ≠ it) where
  mem := by simp
  obj := fun i h st b hb => by
    obtain ⟨⟨old, he⟩, ⟨o, ho, hc, hd⟩, _⟩ := st
    rcases List.mem_cons.mp hb with z | z
    · rw [z]
      exact ⟨_, he, fun v q => nomatch q⟩
    · rw [List.mem_singleton.mp z]
      exact ⟨o, ho, fun v q => by rw [hd] at q; cases q⟩
  keep := fun i h h2 st k => ⟨st.1.imp fun old he => k e (by simp) _ he, st.2.1.at fun o q => k it (by simp) o q, st.2.2⟩
  item := by
    intro X hP hw hK hc i pins s σ H E I hf st hg
    subst hP hw hK
    obtain ⟨⟨old, he⟩, hit, hne⟩ := st
    obtain ⟨xs, x, hq, hx⟩ := hg
    obtain ⟨its, rv, tp, hz⟩ := I.tuple hq
    obtain ⟨u, hu, ru⟩ := rv.get hx
    have hel : e < s.heap.objs.size := Heap.lt_size he
    have hil : it < s.heap.objs.size := by obtain ⟨_, q, _⟩ := hit; exact Heap.lt_size q
    have tp2 : s.heap.IsTuple a its.toArray := tp
    obtain ⟨o, ho, oc, _⟩ := id tp
    have ea : e ≠ a := fun z => by
      rw [← z, show s.heap.get? e = some _ from he] at ho
      cases ho
      exact absurd (Value.type.inj oc) (by decide)
    have ia : it ≠ a := fun z => by
      obtain ⟨o2, ho2, oc2, _⟩ := id hit
      rw [← z, ho2] at ho
      cases ho
      rw [oc2] at oc
      exact absurd (Value.type.inj oc) (by decide)
    have hi : i < its.toArray.size := by
      rw [List.size_toArray]
      exact (List.getElem?_eq_some_iff.mp hu).1
    refine wpAny_pyNext_enum_itemC (Draws.tuple (show X.A.in1.handled = none from I.ok.hd hc) it a (Ne.symm ia) its.toArray) he ⟨hit, tp2⟩ hi hne (fun z => ?_) fun y h1 tk hy ho1 hs1 hT hsz hk => ?_
    · rcases List.mem_cons.mp z with z | z
      · exact hne z
      · exact ea (List.mem_singleton.mp z)
    · have yu : y = u := by
        have q : its.toArray[i]? = some y := hy
        rw [List.getElem?_toArray, hu] at q
        exact (Option.some.inj q).symm
      subst yu
      refine ⟨_, rfl, wpAny_letOwnedTupleGo_enum (s := { s with heap := h1, toks := tk + 1 }) ho1 fun h2 he2 sb => ?_⟩
      have sb2 : Heap.SameBut e h1 h2 := sb
      have hT2 : h2.get? s.heap.objs.size = some { cls := .type "tuple", data := .seq #[.int (c + (i : Int)) tk, y] } := (sb2.2 _ (Nat.ne_of_gt hel)).trans hT
      have new : ObjOk X.prog X.w (upd H s.heap.objs.size (.tup [.int (c + (i : Int)), x])) h2 s.heap.objs.size (.tup [.int (c + (i : Int)), x]) :=
        ⟨by show 2 ≤ sizeLine; decide, [.int (c + (i : Int)) tk, y], .cons ⟨_, rfl⟩ (.cons ru .nil), ⟨_, hT2, rfl, _, rfl⟩⟩
      have I1 : Inv X pins σ (upd H s.heap.objs.size (.tup [.int (c + (i : Int)), x])) { s with heap := h2, toks := tk + 1 } :=
        I.turnedNew (ch := [e, it]) (fun b ob hb q => (sb2.2 b (fun z => hb (by simp [z]))).trans (hk b ob (fun z => hb (by simp [z])) (fun z => hb (by simp [z])) q)) hf (Nat.le_refl _) new
      refine ⟨.ref s.heap.objs.size, _, I1, rfl, ⟨_, x, rfl, I.hok.fresh (Nat.le_refl _), rfl, fun ys hy => by rw [I.tuple_inj hy hq]; exact hx⟩, ⟨⟨y, ?_⟩, hs1.1.at fun o q => (sb2.2 it (Ne.symm hne)).trans q, hne⟩, fun b hb => ?_⟩
      · rw [show c + ((i + 1 : Nat) : Int) = c + (i : Int) + 1 by omega]
        exact he2
      · have lt : b < s.heap.objs.size := by
          rcases List.mem_cons.mp hb with z | z
          · rw [z]; exact hel
          · rw [List.mem_singleton.mp z]; exact hil
        rw [upd_ne (Nat.ne_of_lt lt)]
        exact (hf b hb).1
  done := by
    intro X hP hw hK hc i pins s σ H E I hf st hg
    subst hP hw hK
    obtain ⟨⟨old, he⟩, hit, hne⟩ := st
    obtain ⟨xs, hq, hx⟩ := hg
    obtain ⟨its, rv, tp, hz⟩ := I.tuple hq
    obtain ⟨f0, f1, f2, f3, f4, f5⟩ := hf it (by simp)
    have len := rv.length
    have hT : s.TypeIs (.ref e) "enumerate" := ⟨_, he, rfl⟩
    have last : its.toArray[i]? = none := by
      rw [List.getElem?_toArray, List.getElem?_eq_none (by omega)]
    unfold pyNext
    refine wpAny_bind (wpAny_attempt (wpAny_callSpecial?_slot (name := Str.ofString "__next__") hT PySem.F.slot_enumerate_next
      (wpAny_call_entry PySem.F.slot_enumerate_next hT PySem.F.entry_enumerate_next ?_ (PySem.F.args_enumerate_next_1 _))))
    show wpAny _ _ (field (.ref e) 2 >>= _) _ _ _
    refine wpAny_bind (wpAny_field he rfl (x := .ref it) rfl (wpAny_bind (wpAny_nextOf_tuple_end (I.ok.hd hc) hit (show s.heap.IsTuple a its.toArray from tp) last fun h1 y kept ⟨o, ho, oc⟩ => ?_)))
    refine wpAny_bind (wpAny_isInstance (T := "StopIteration") (b := true) ⟨o, ho, oc⟩ isSubtype_stop (wpAny_pure ⟨rfl, ?_⟩))
    exact I.turned (t' := s.toks) (fun b o hb q => kept b o hb q) f0 f1 f3 f4 f5
  self := fun A i s Q E st h => by
    obtain ⟨⟨_, he⟩, _⟩ := st
    exact wpAny_pyIter_enum he h
set_option maxHeartbeats 4000000 in
/-- enumerate(v), v told by how it begins -/
theorem meets_enum1 {v : Value} {o : Obj} {G : Heap → Prop} (B : Begins v o G) : Meets (Builtin.«enumerate.__new__» ⟨[.type "enumerate", v], []⟩) (fun _ R s => G s.heap ∧
    R (.ok (.ret (.ref (s.heap.push o).objs.size))) { s with heap := (s.heap.push o).push { cls := .type "enumerate", data := .fields #[.none, .bool false, .ref s.heap.objs.size, rawInt 0, .none, .none] } }) :=
  .of_wp fun prog w A R ⟨hp, g, d, tk, os⟩ ⟨h1, h⟩ => by
    have sub := sub_enumerate
    have iter : ∀ {A2 : Around} {E2 : Value → Shared → Prop} {Q2 : Value → Shared → Prop}, Q2 (.ref hp.objs.size) ⟨hp.push o, g, d, tk, os⟩ → wpAny (model prog w) A2 (pyIter v) Q2 E2 ⟨hp, g, d, tk, os⟩ := fun q => B.iter prog w _ _ ⟨hp, g, d, tk, os⟩ _ h1 q
    wp_walk using iter
    refine wpAny_stack_any fun st => wpAny_pure ?_
    split
    · rename_i c _ _ _ _ _
      by_cases z : (c == Value.type "enumerate") = true
      · rw [z]
        wp_walk using iter
        exact ⟨_, rfl, h⟩
      · rw [Bool.eq_false_iff.mpr z]
        wp_walk using iter
        exact ⟨_, rfl, h⟩
    · wp_walk using iter
      exact ⟨_, rfl, h⟩
theorem enum1 {prog : Program} {w : World} {A : Around} {E : Value → Shared → Prop} {s : Shared} {v : Value} {o : Obj} {G : Heap → Prop} {Q : Value → Shared → Prop} (B : Begins v o G) (h1 : G s.heap)
    (h : ∀ h2, IsEnum h2 (s.heap.objs.size + 1) s.heap.objs.size 0 .none → h2.get? s.heap.objs.size = some o → (∀ b x, s.heap.get? b = some x → h2.get? b = some x) → Q (.ref (s.heap.objs.size + 1)) { s with heap := h2 }) :
    wpAny (model prog w) A (call (.type "enumerate") [v]) Q E s := by
  have z : (s.heap.push o).objs.size = s.heap.objs.size + 1 := Heap.size_push ..
  have he : IsEnum ((s.heap.push o).push { cls := .type "enumerate", data := .fields #[.none, .bool false, .ref s.heap.objs.size, rawInt 0, .none, .none] }) (s.heap.objs.size + 1) s.heap.objs.size 0 .none := by
    have q := Heap.get?_push_size (s.heap.push o) (o := { cls := .type "enumerate", data := .fields #[.none, .bool false, .ref s.heap.objs.size, rawInt 0, .none, .none] }) rfl
    rwa [z] at q
  refine callType_new PySem.F.called_enumerate (by decide) (PySem.F.typeCall_enumerate_1 _) (PySem.F.newCall_enumerate_1 _) (fun obj => PySem.F.args_object_init_2 obj _) PySem.F.entry_enumerate_new (meets_enum1 B) ⟨h1, ?_⟩
  show _ ∧ _
  rw [z]
  exact ⟨⟨_, he, rfl⟩, h _ he (Heap.get?_push_of_some _ (Heap.get?_push_size _ B.free)) fun b x e => Heap.get?_push_of_some _ (Heap.get?_push_of_some _ e)⟩
def iEnumT (K : PySem.W.Frag) (ta : TA) : TI := fun σ H R => ta σ H fun vs H1 => ∃ a xs, vs = [.ref a] ∧ SqT K H1 a xs ∧ R (IteT K a 0) H1
theorem pi_enumT {X : Cx} {e : Expr} {ta : TA} {p pos tpos : Pos} {elts : List Expr} {kk : Nat} (hg : Gl X "enumerate") (hm : X.mg "enumerate" = none) (ha : PA X [e] ta) (hs : starEach [e] X.env = [(false, eval e X.env)] := by rfl) :
    PI X (.Tuple elts kk tpos) (.Call (.Name "enumerate" p) [e] [] pos) (iEnumT X.K ta) := by
  refine ⟨fun pins s σ H R I h => Call_ (ld_blt I hg hm boot_enumerate (PyProof.Rows.callWith_type1 (thn (ha.run pos pins s σ H _ I h) fun us s1 ⟨vs, H1, I1, r1, a, xs, ex, hq, q⟩ => ?_) hs rfl))⟩
  subst ex
  cases r1 with
  | cons r rr =>
    cases rr
    cases r
    obtain ⟨its, rv, tp, hz⟩ := I1.tuple hq
    refine enum1 (begins_tuple a its.toArray) tp fun h2 he hit hk => wpAny_pyIter_enum he ?_
    have I2 : Inv X pins σ H1 { s1 with heap := h2 } := I1.kept (t' := s1.toks) hk
    refine ⟨s1.heap.objs.size + 1, [s1.heap.objs.size + 1, s1.heap.objs.size], _, _, H1, rfl, I2, turn_enumT a (s1.heap.objs.size + 1) s1.heap.objs.size, ⟨⟨.none, he⟩, ⟨_, hit, rfl, rfl⟩, Nat.succ_ne_self _⟩, fun b hb => ?_, q⟩
    have hle : s1.heap.objs.size ≤ b := by
      rcases List.mem_cons.mp hb with z | z
      · rw [z]; exact Nat.le_add_right _ _
      · rw [List.mem_singleton.mp z]; exact Nat.le_refl _
    exact I1.fpOk hle (I1.hok.fresh hle)
end Lk
end
section
/-! Coders, their steps, last goings, rings, rounds: mathematics. -/
namespace Lk
abbrev Cd := Nat × List Nat
def COk (c : Cd) : Prop := c.1 < c.2.length
def len (c : Cd) (i : Nat) : Nat := c.2.getD i 0
def nx (c : Cd) : Cd := ((c.1 + (len c c.1 + 1)) % c.2.length, c.2.set c.1 (len c c.1 + 1))
def it : Nat → Cd → Cd
  | 0, c => c
  | n + 1, c => it n (nx c)
def go (c : Cd) (i : Nat) : Nat := (i + len c i) % c.2.length
def gon (c : Cd) : Nat → Nat → Nat
  | 0, i => i
  | n + 1, i => gon c n (go c i)
theorem nx_len {c : Cd} : (nx c).2.length = c.2.length := List.length_set
theorem it_len : ∀ (n : Nat) {c : Cd}, (it n c).2.length = c.2.length
  | 0, _ => rfl
  | n + 1, c => (it_len n).trans nx_len
theorem nx_ok {c : Cd} (h : COk c) : COk (nx c) := by
  have h0 : 0 < c.2.length := Nat.lt_of_le_of_lt (Nat.zero_le _) h
  show _ % _ < (nx c).2.length
  rw [nx_len]
  exact Nat.mod_lt _ h0
theorem it_ok : ∀ (n : Nat) {c : Cd}, COk c → COk (it n c)
  | 0, _, h => h
  | n + 1, _, h => it_ok n (nx_ok h)
theorem it_add : ∀ (n m : Nat) (c : Cd), it (n + m) c = it m (it n c)
  | 0, m, c => by rw [Nat.zero_add]; rfl
  | n + 1, m, c => by
    rw [show n + 1 + m = (n + m) + 1 by omega]
    exact it_add n m (nx c)
theorem it_succ (n : Nat) (c : Cd) : it (n + 1) c = nx (it n c) := it_add n 1 c
theorem gon_add (c : Cd) : ∀ (n m i : Nat), gon c (n + m) i = gon c m (gon c n i)
  | 0, m, i => by rw [Nat.zero_add]; rfl
  | n + 1, m, i => by
    rw [show n + 1 + m = (n + m) + 1 by omega]
    exact gon_add c n m (go c i)
theorem gon_succ (c : Cd) (n i : Nat) : gon c (n + 1) i = go c (gon c n i) := gon_add c n 1 i
theorem len_nx_same {c : Cd} (h : COk c) : len (nx c) c.1 = len c c.1 + 1 := by
  show (c.2.set c.1 _).getD c.1 0 = _
  rw [List.getD_eq_getElem?_getD, List.getElem?_set_self h]
  rfl
theorem len_nx_ne {c : Cd} {i : Nat} (h : i ≠ c.1) : len (nx c) i = len c i := by
  show (c.2.set c.1 _).getD i 0 = c.2.getD i 0
  rw [List.getD_eq_getElem?_getD, List.getD_eq_getElem?_getD, List.getElem?_set_ne (Ne.symm h)]
theorem go_nx_ne {c : Cd} {i : Nat} (h : i ≠ c.1) : go (nx c) i = go c i := by
  unfold go
  rw [len_nx_ne h, nx_len]
theorem go_nx_same {c : Cd} (h : COk c) : go (nx c) c.1 = (nx c).1 := by
  unfold go
  rw [len_nx_same h, nx_len]
  rfl
/-- last goings lead from i to the coder's own place -/
def Rch (c : Cd) (i : Nat) : Prop := ∃ k, gon c k i = c.1
def Free (c : Cd) : Prop := ∀ i, i < c.2.length → Rch c i
theorem rch_nx {c : Cd} (h : COk c) {i : Nat} : Rch c i → Rch (nx c) i := by
  rintro ⟨k, e⟩
  induction k generalizing i with
  | zero =>
    refine ⟨1, ?_⟩
    show go (nx c) i = _
    rw [show i = c.1 from e]
    exact go_nx_same h
  | succ k ih =>
    by_cases g : i = c.1
    · refine ⟨1, ?_⟩
      show go (nx c) i = _
      rw [g]
      exact go_nx_same h
    · obtain ⟨m, q⟩ := ih e
      refine ⟨m + 1, ?_⟩
      show gon (nx c) m (go (nx c) i) = _
      rw [go_nx_ne g]
      exact q
theorem rch_it : ∀ (n : Nat) {c : Cd}, COk c → ∀ {i}, Rch c i → Rch (it n c) i
  | 0, _, _, _, r => r
  | n + 1, _, h, _, r => rch_it n (nx_ok h) (rch_nx h r)
theorem free_nx {c : Cd} (h : COk c) (f : Free c) : Free (nx c) := fun i hi => rch_nx h (f i (by rw [nx_len] at hi; exact hi))
theorem free_it : ∀ (n : Nat) {c : Cd}, COk c → Free c → Free (it n c)
  | 0, _, _, f => f
  | n + 1, _, h, f => free_it n (nx_ok h) (free_nx h f)
/-- where the coder has been is led to where it is -/
theorem rch_been {c : Cd} (h : COk c) {n t : Nat} (ht : t ≤ n) : Rch (it n c) (it t c).1 := by
  obtain ⟨m, rfl⟩ := Nat.exists_eq_add_of_le ht
  rw [it_add]
  exact rch_it m (it_ok t h) ⟨0, rfl⟩
theorem len_mono1 {c : Cd} (i : Nat) (h : COk c) : len c i ≤ len (nx c) i := by
  by_cases g : i = c.1
  · rw [g, len_nx_same h]; omega
  · rw [len_nx_ne g]; exact Nat.le_refl _
theorem len_mono : ∀ (n : Nat) {c : Cd} (i : Nat), COk c → len c i ≤ len (it n c) i
  | 0, _, _, _ => Nat.le_refl _
  | n + 1, _, i, h => Nat.le_trans (len_mono1 i h) (len_mono n i (nx_ok h))
/-- each length that a place came to was a step -/
theorem step_of : ∀ (n : Nat) {c : Cd} (i v : Nat), COk c → len c i < v → v ≤ len (it n c) i → ∃ t, t < n ∧ (it t c).1 = i ∧ (it (t + 1) c).1 = (i + v) % c.2.length
  | 0, _, _, _, _, h1, h2 => absurd (Nat.lt_of_lt_of_le h1 h2) (Nat.lt_irrefl _)
  | n + 1, c, i, v, h, h1, h2 => by
    by_cases g : v ≤ len (nx c) i
    · have gi : i = c.1 := by
        refine Classical.byContradiction fun z => ?_
        rw [len_nx_ne z] at g
        omega
      refine ⟨0, Nat.succ_pos _, gi.symm, ?_⟩
      show (nx c).1 = _
      rw [gi, len_nx_same h] at g
      have e : v = len c c.1 + 1 := by rw [gi] at h1; omega
      rw [gi, e]
      rfl
    · obtain ⟨t, a, b, d⟩ := step_of n i v (nx_ok h) (by omega) h2
      refine ⟨t + 1, by omega, b, ?_⟩
      rw [nx_len] at d
      exact d
theorem sum_set : ∀ (l : List Nat) (i v : Nat), i < l.length → (l.set i v).sum + l.getD i 0 = l.sum + v
  | a :: r, 0, v, _ => by
    show v + r.sum + a = a + r.sum + v
    omega
  | a :: r, i + 1, v, h => by
    have ih := sum_set r i v (by simpa using h)
    show a + (r.set i v).sum + r.getD i 0 = a + r.sum + v
    omega
theorem sum_nx {c : Cd} (h : COk c) : (nx c).2.sum = c.2.sum + 1 := by
  have z := sum_set c.2 c.1 (len c c.1 + 1) h
  have e : c.2.getD c.1 0 = len c c.1 := rfl
  show (c.2.set c.1 _).sum = _
  omega
theorem sum_it : ∀ (n : Nat) {c : Cd}, COk c → (it n c).2.sum = c.2.sum + n
  | 0, _, _ => rfl
  | n + 1, c, h => by
    show (it n (nx c)).2.sum = _
    rw [sum_it n (nx_ok h), sum_nx h]
    omega
theorem sum_le : ∀ {a b : List Nat}, a.length = b.length → (∀ i, i < b.length → a.getD i 0 ≤ b.getD i 0) → a.sum ≤ b.sum
  | [], [], _, _ => Nat.le_refl _
  | x :: a, y :: b, hl, h => by
    have h0 : x ≤ y := h 0 (by simp)
    have h1 : a.sum ≤ b.sum := sum_le (by simpa using hl) fun i hi => h (i + 1) (by simpa using hi)
    show x + a.sum ≤ y + b.sum
    omega
theorem sum_map_add (k : Nat) : ∀ l : List Nat, (l.map (· + k)).sum = l.sum + l.length * k
  | [] => by simp
  | a :: r => by
    have ih := sum_map_add k r
    show a + k + (r.map (· + k)).sum = a + r.sum + (r.length + 1) * k
    rw [ih, Nat.add_mul]
    omega
theorem getD_map_add (k : Nat) (l : List Nat) {i : Nat} (h : i < l.length) : (l.map (· + k)).getD i 0 = l.getD i 0 + k := by
  rw [List.getD_eq_getElem?_getD, List.getD_eq_getElem?_getD, List.getElem?_map, List.getElem?_eq_getElem h]
  rfl
/-- among p lengths in a row one leads to q -/
theorem some_to {p : Nat} (i a q : Nat) (hq : q < p) : ∃ v, a < v ∧ v ≤ a + p ∧ (i + v) % p = q := by
  have hp : 0 < p := by omega
  have hr := Nat.mod_lt (i + a + 1) hp
  by_cases g : (i + a + 1) % p ≤ q
  · refine ⟨a + 1 + (q - (i + a + 1) % p), by omega, by omega, ?_⟩
    rw [show i + (a + 1 + (q - (i + a + 1) % p)) = (i + a + 1) + (q - (i + a + 1) % p) by omega, Nat.add_mod, Nat.mod_eq_of_lt (show q - (i + a + 1) % p < p by omega),
      show (i + a + 1) % p + (q - (i + a + 1) % p) = q by omega, Nat.mod_eq_of_lt hq]
  · refine ⟨a + 1 + (p + q - (i + a + 1) % p), by omega, by omega, ?_⟩
    rw [show i + (a + 1 + (p + q - (i + a + 1) % p)) = (i + a + 1) + (p + q - (i + a + 1) % p) by omega, Nat.add_mod, Nat.mod_eq_of_lt (show p + q - (i + a + 1) % p < p by omega),
      show (i + a + 1) % p + (p + q - (i + a + 1) % p) = q + p by omega, Nat.add_mod_right, Nat.mod_eq_of_lt hq]
/-- behind so many steps every place has been come to -/
theorem been_all {c : Cd} (h : COk c) {n : Nat} (hn : (c.2.length - 1) * (c.2.length - 1) + 1 ≤ n) {q : Nat} (hq : q < c.2.length) : ∃ t, t ≤ n ∧ (it t c).1 = q := by
  refine Classical.byContradiction fun no => ?_
  have no' : ∀ t, t ≤ n → (it t c).1 ≠ q := fun t ht e => no ⟨t, ht, e⟩
  have lim : ∀ i, len (it n c) i < len c i + c.2.length := fun i => by
    refine Classical.byContradiction fun g => ?_
    obtain ⟨v, v1, v2, v3⟩ := some_to i (len c i) q hq
    obtain ⟨t, t1, _, t3⟩ := step_of n i v h v1 (by omega)
    exact no' (t + 1) (by omega) (t3.trans v3)
  have stay : len (it n c) q ≤ len c q := by
    refine Classical.byContradiction fun g => ?_
    obtain ⟨t, t1, t2, _⟩ := step_of n q (len c q + 1) h (by omega) (by omega)
    exact no' t (by omega) t2
  have hs := sum_it n h
  have hB : (it n c).2.sum ≤ ((c.2.map (· + (c.2.length - 1))).set q (len c q)).sum := by
    refine sum_le (by rw [it_len, List.length_set, List.length_map]) fun i hi => ?_
    rw [List.length_set, List.length_map] at hi
    by_cases g : i = q
    · rw [g, List.getD_eq_getElem?_getD (l := List.set _ _ _), List.getElem?_set_self (by rw [List.length_map]; exact hq)]
      exact stay
    · rw [List.getD_eq_getElem?_getD (l := List.set _ _ _), List.getElem?_set_ne (Ne.symm g), ← List.getD_eq_getElem?_getD, getD_map_add _ _ hi]
      have z := lim i
      show len (it n c) i ≤ len c i + (c.2.length - 1)
      omega
  have e1 := sum_set (c.2.map (· + (c.2.length - 1))) q (len c q) (by rw [List.length_map]; exact hq)
  rw [getD_map_add _ _ hq, sum_map_add] at e1
  have e2 : c.2.getD q 0 = len c q := rfl
  have e3 : c.2.length * (c.2.length - 1) = (c.2.length - 1) * (c.2.length - 1) + (c.2.length - 1) := by
    obtain ⟨m, hm⟩ : ∃ m, c.2.length = m + 1 := ⟨c.2.length - 1, by omega⟩
    rw [hm, Nat.add_sub_cancel, Nat.add_mul, Nat.one_mul]
  omega
theorem free_late {c : Cd} (h : COk c) {n : Nat} (hn : (c.2.length - 1) * (c.2.length - 1) + 1 ≤ n) : Free (it n c) := fun i hi => by
  rw [it_len] at hi
  obtain ⟨t, ht, e⟩ := been_all h hn hi
  rw [← e]
  exact rch_been h ht
end Lk
end
section
/-! Rounds come again; rings. -/
namespace Lk
def S : Nat → (Nat → Nat) → Nat
  | 0, _ => 0
  | n + 1, f => S n f + f n
theorem S_congr : ∀ (p : Nat) {f g : Nat → Nat}, (∀ i, i < p → f i = g i) → S p f = S p g
  | 0, _, _, _ => rfl
  | n + 1, f, g, h => by
    show S n f + f n = S n g + g n
    rw [S_congr n fun i hi => h i (by omega), h n (by omega)]
theorem S_upd : ∀ (p : Nat) {f g : Nat → Nat} (j : Nat), j < p → (∀ i, i < p → i ≠ j → f i = g i) → S p f + g j = S p g + f j
  | n + 1, f, g, j, hj, h => by
    show S n f + f n + g j = S n g + g n + f j
    by_cases e : j = n
    · subst e
      rw [S_congr j (f := f) (g := g) fun i hi => h i (by omega) (by omega)]
      omega
    · have ih := S_upd n j (by omega) fun i hi => h i (by omega)
      have e2 := h n (by omega) (Ne.symm e)
      omega
theorem S_le : ∀ (p : Nat) {f : Nat → Nat}, (∀ i, i < p → f i ≤ 1) → S p f ≤ p
  | 0, _, _ => Nat.le_refl _
  | n + 1, f, h => by
    have ih := S_le n fun i hi => h i (by omega)
    have z := h n (by omega)
    show S n f + f n ≤ n + 1
    omega
theorem S_one : ∀ (p : Nat) {f : Nat → Nat}, (∀ i, i < p → f i ≤ 1) → S p f = p → ∀ i, i < p → f i = 1
  | n + 1, f, h, e, i, hi => by
    have ih := S_le n fun i hi => h i (by omega)
    have z := h n (by omega)
    have e' : S n f + f n = n + 1 := e
    by_cases g : i = n
    · rw [g]; omega
    · exact S_one n (fun i hi => h i (by omega)) (by omega) i (by omega)
theorem S_add : ∀ (p : Nat) (f g : Nat → Nat), S p (fun i => f i + g i) = S p f + S p g
  | 0, _, _ => rfl
  | n + 1, f, g => by
    show S n (fun i => f i + g i) + (f n + g n) = S n f + f n + (S n g + g n)
    rw [S_add n]
    omega
theorem S_zero : ∀ (p : Nat) {f : Nat → Nat}, (∀ i, i < p → f i = 0) → S p f = 0
  | 0, _, _ => rfl
  | n + 1, f, h => by
    show S n f + f n = 0
    rw [S_zero n fun i hi => h i (by omega), h n (by omega)]
theorem mod_ne {p m d : Nat} (h : (m + d) % p = m % p) (h0 : 0 < d) : p ≤ d := by
  have z := Nat.sub_mod_eq_zero_of_mod_eq h
  rw [Nat.add_sub_cancel_left] at z
  exact Nat.le_of_dvd h0 (Nat.dvd_of_mod_eq_zero z)
/-- how many of the k lengths behind a lead from i to x -/
def cw (p i x a : Nat) : Nat → Nat
  | 0 => 0
  | k + 1 => cw p i x a k + if (i + (a + k + 1)) % p = x then 1 else 0
theorem cw_pos {p i x a : Nat} : ∀ {k : Nat}, 0 < cw p i x a k → ∃ v, v < k ∧ (i + (a + v + 1)) % p = x
  | 0, h => absurd h (Nat.lt_irrefl _)
  | k + 1, h => by
    by_cases g : (i + (a + k + 1)) % p = x
    · exact ⟨k, Nat.lt_succ_self _, g⟩
    · have h' : 0 < cw p i x a k + if (i + (a + k + 1)) % p = x then 1 else 0 := h
      rw [if_neg g] at h'
      obtain ⟨v, a1, a2⟩ := cw_pos (k := k) h'
      exact ⟨v, by omega, a2⟩
theorem cw_of {p i x a v : Nat} : ∀ {k : Nat}, v < k → (i + (a + v + 1)) % p = x → 0 < cw p i x a k
  | k + 1, h, e => by
    show 0 < cw p i x a k + if (i + (a + k + 1)) % p = x then 1 else 0
    by_cases g : v = k
    · rw [← g, if_pos e]; omega
    · have z := cw_of (k := k) (by omega) e
      omega
theorem cw_le {p i x a : Nat} : ∀ {k : Nat}, k ≤ p → cw p i x a k ≤ 1
  | 0, _ => Nat.zero_le _
  | k + 1, h => by
    have ih := cw_le (p := p) (i := i) (x := x) (a := a) (k := k) (by omega)
    show cw p i x a k + (if (i + (a + k + 1)) % p = x then 1 else 0) ≤ 1
    by_cases g : (i + (a + k + 1)) % p = x
    · rw [if_pos g]
      have z : cw p i x a k = 0 := by
        refine Nat.eq_zero_of_not_pos fun q => ?_
        obtain ⟨v, hv, e⟩ := cw_pos q
        have w := mod_ne (p := p) (m := i + (a + v + 1)) (d := k - v) (by rw [show i + (a + v + 1) + (k - v) = i + (a + k + 1) by omega, g, e]) (by omega)
        omega
      omega
    · rw [if_neg g]; omega
/-- who is led to x by its last going and has given one to x has given all -/
theorem cw_last {p i x a k : Nat} (hk : k ≤ p) (h : (i + a) % p = x) (h1 : cw p i x a k = 1) : k = p := by
  obtain ⟨v, hv, e⟩ := cw_pos (p := p) (i := i) (x := x) (a := a) (k := k) (by omega)
  have w := mod_ne (p := p) (m := i + a) (d := v + 1) (by rw [show i + a + (v + 1) = i + (a + v + 1) by omega, e, h]) (by omega)
  omega
def ind (b : Prop) [Decidable b] : Nat := if b then 1 else 0
/-- what comes to a place, what goes from it -/
theorem flow : ∀ (n : Nat) {c : Cd}, COk c → ∀ x, x < c.2.length →
    S c.2.length (fun i => cw c.2.length i x (len c i) (len (it n c) i - len c i)) + ind (x = c.1) = (len (it n c) x - len c x) + ind (x = (it n c).1)
  | 0, c, _, x, _ => by
    rw [S_zero c.2.length fun i _ => by show cw _ i x _ (len c i - len c i) = 0; rw [Nat.sub_self]; rfl]
    show 0 + _ = (len c x - len c x) + _
    rw [Nat.sub_self]
    rfl
  | n + 1, c, h, x, hx => by
    have ih := flow n h x hx
    have ho : COk (it n c) := it_ok n h
    rw [it_succ]
    have hj : (it n c).1 < c.2.length := by have z := ho; unfold COk at z; rw [it_len] at z; exact z
    have m := len_mono n (it n c).1 h
    have e1 := S_upd c.2.length (f := fun i => cw c.2.length i x (len c i) (len (nx (it n c)) i - len c i)) (g := fun i => cw c.2.length i x (len c i) (len (it n c) i - len c i)) (it n c).1 hj fun i _ hne => by
      show cw _ i x _ (len (nx (it n c)) i - len c i) = _
      rw [len_nx_ne hne]
    have e2 : cw c.2.length (it n c).1 x (len c (it n c).1) (len (nx (it n c)) (it n c).1 - len c (it n c).1) = cw c.2.length (it n c).1 x (len c (it n c).1) (len (it n c) (it n c).1 - len c (it n c).1) + ind (x = (nx (it n c)).1) := by
      rw [len_nx_same ho, show len (it n c) (it n c).1 + 1 - len c (it n c).1 = (len (it n c) (it n c).1 - len c (it n c).1) + 1 by omega]
      show cw _ _ _ _ _ + _ = _
      congr 1
      have e : (nx (it n c)).1 = ((it n c).1 + (len c (it n c).1 + (len (it n c) (it n c).1 - len c (it n c).1) + 1)) % c.2.length := by
        show ((it n c).1 + (len (it n c) (it n c).1 + 1)) % (it n c).2.length = _
        rw [it_len]
        congr 1
        omega
      rw [e]
      unfold ind
      by_cases g : ((it n c).1 + (len c (it n c).1 + (len (it n c) (it n c).1 - len c (it n c).1) + 1)) % c.2.length = x
      · rw [if_pos g, if_pos g.symm]
      · rw [if_neg g, if_neg (Ne.symm g)]
    have e3 : len (nx (it n c)) x - len c x = (len (it n c) x - len c x) + ind (x = (it n c).1) := by
      unfold ind
      by_cases g : x = (it n c).1
      · rw [if_pos g, g, len_nx_same ho]
        omega
      · rw [if_neg g, len_nx_ne g]
        omega
    rw [e3]
    omega
/-- no place has begun more than p words -/
def Bd (c : Cd) (n : Nat) : Prop := ∀ i, i < c.2.length → len (it n c) i ≤ len c i + c.2.length
theorem cw_bd {c : Cd} {n : Nat} (b : Bd c n) (x : Nat) : ∀ i, i < c.2.length → cw c.2.length i x (len c i) (len (it n c) i - len c i) ≤ 1 := fun i hi => cw_le (by have z := b i hi; omega)
theorem home_of {c : Cd} (h : COk c) {n : Nat} (b : Bd c n) (e : len (it n c) (it n c).1 = len c (it n c).1 + c.2.length) : (it n c).1 = c.1 := by
  refine Classical.byContradiction fun g => ?_
  have hj : (it n c).1 < c.2.length := by have z := it_ok n h; unfold COk at z; rw [it_len] at z; exact z
  have f := flow n h (it n c).1 hj
  have z := S_le _ (cw_bd b (it n c).1)
  unfold ind at f
  rw [if_neg g, if_pos rfl, e] at f
  omega
theorem full_of {c : Cd} (h : COk c) {n : Nat} (b : Bd c n) (e : (it n c).1 = c.1) {x : Nat} (hx : x < c.2.length) (ex : len (it n c) x = len c x + c.2.length) {i : Nat} (hi : i < c.2.length) (hg : go c i = x) : len (it n c) i = len c i + c.2.length := by
  have f := flow n h x hx
  rw [e, ex] at f
  have z := S_one _ (cw_bd b x) (by omega) i hi
  have m := len_mono n i h
  have w := cw_last (by have z := b i hi; omega) hg z
  omega
theorem all_full {c : Cd} (h : COk c) (fr : Free c) {n : Nat} (b : Bd c n) (e : (it n c).1 = c.1) (eh : len (it n c) c.1 = len c c.1 + c.2.length) : ∀ i, i < c.2.length → len (it n c) i = len c i + c.2.length := by
  have hp : 0 < c.2.length := Nat.lt_of_le_of_lt (Nat.zero_le _) h
  have key : ∀ k i, i < c.2.length → gon c k i = c.1 → len (it n c) i = len c i + c.2.length := by
    intro k
    induction k with
    | zero =>
      intro i _ q
      rw [show i = c.1 from q]
      exact eh
    | succ k ih =>
      intro i hi q
      have hgo : go c i < c.2.length := Nat.mod_lt _ hp
      exact full_of h b e hgo (ih (go c i) hgo q) hi rfl
  intro i hi
  obtain ⟨k, q⟩ := fr i hi
  exact key k i hi q
theorem S_getD : ∀ (l : List Nat), S l.length (fun i => l.getD i 0) = l.sum := by
  intro l
  have key : ∀ (n : Nat), n ≤ l.length → S n (fun i => l.getD i 0) = (l.take n).sum := by
    intro n
    induction n with
    | zero => intro _; rfl
    | succ n ih =>
      intro hn
      show S n _ + l.getD n 0 = _
      rw [ih (by omega), List.take_add_one, List.getD_eq_getElem?_getD, List.getElem?_eq_getElem (by omega), List.sum_append]
      simp
  rw [key _ (Nat.le_refl _), List.take_length]
theorem S_const (k : Nat) : ∀ p, S p (fun _ => k) = p * k
  | 0 => by simp [S]
  | n + 1 => by
    show S n _ + k = _
    rw [S_const k n, Nat.add_mul, Nat.one_mul]
theorem S_mono : ∀ (p : Nat) {f g : Nat → Nat}, (∀ i, i < p → f i ≤ g i) → S p f ≤ S p g
  | 0, _, _, _ => Nat.le_refl _
  | n + 1, f, g, h => by
    have ih := S_mono n fun i hi => h i (by omega)
    have z := h n (by omega)
    show S n f + f n ≤ S n g + g n
    omega
theorem S_eq : ∀ (p : Nat) {f g : Nat → Nat}, (∀ i, i < p → f i ≤ g i) → S p f = S p g → ∀ i, i < p → f i = g i
  | n + 1, f, g, h, e, i, hi => by
    have ih := S_mono n (f := f) (g := g) fun i hi => h i (by omega)
    have z := h n (by omega)
    have e' : S n f + f n = S n g + g n := e
    by_cases w : i = n
    · rw [w]; omega
    · exact S_eq n (fun i hi => h i (by omega)) (by omega) i (by omega)
theorem sum_S {c : Cd} (n : Nat) : (it n c).2.sum = S c.2.length (fun i => len (it n c) i) := by
  rw [← S_getD, it_len]
  rfl
/-- ahead of p * p steps none has begun more than p -/
theorem bd_all {c : Cd} (h : COk c) (fr : Free c) : ∀ n, n ≤ c.2.length * c.2.length → Bd c n
  | 0, _ => fun i _ => by show len c i ≤ _; omega
  | n + 1, hn => by
    have b := bd_all h fr n (by omega)
    have ho := it_ok n h
    intro i hi
    rw [it_succ]
    by_cases g : i = (it n c).1
    · rw [g, len_nx_same ho]
      refine Classical.byContradiction fun z => ?_
      have bj := b i hi
      rw [g] at bj
      have e : len (it n c) (it n c).1 = len c (it n c).1 + c.2.length := by omega
      have e0 := home_of h b e
      have af := all_full h fr b e0 (by rw [e0] at e; exact e)
      have s1 := sum_it n h
      rw [sum_S, S_congr _ af, S_add, S_const] at s1
      have s2 : S c.2.length (len c) = c.2.sum := S_getD c.2
      omega
    · rw [len_nx_ne g]
      exact b i hi
theorem it_round {c : Cd} (h : COk c) (fr : Free c) : it (c.2.length * c.2.length) c = (c.1, c.2.map (· + c.2.length)) := by
  have b := bd_all h fr _ (Nat.le_refl _)
  have s1 := sum_it (c.2.length * c.2.length) h
  have s2 : S c.2.length (len c) = c.2.sum := S_getD c.2
  have all : ∀ i, i < c.2.length → len (it (c.2.length * c.2.length) c) i = len c i + c.2.length := by
    refine S_eq c.2.length (f := fun i => len (it (c.2.length * c.2.length) c) i) (g := fun i => len c i + c.2.length) b ?_
    rw [S_add, S_const, ← sum_S]
    omega
  have hj : (it (c.2.length * c.2.length) c).1 < c.2.length := by have z := it_ok (c.2.length * c.2.length) h; unfold COk at z; rw [it_len] at z; exact z
  have e1 := home_of h b (all _ hj)
  refine Prod.ext e1 ?_
  refine List.ext_getElem? fun i => ?_
  by_cases hi : i < c.2.length
  · have z := all i hi
    unfold len at z
    rw [List.getD_eq_getElem?_getD, List.getD_eq_getElem?_getD, List.getElem?_eq_getElem (by rw [it_len]; exact hi), List.getElem?_eq_getElem hi] at z
    rw [List.getElem?_eq_getElem (by rw [it_len]; exact hi), List.getElem?_map, List.getElem?_eq_getElem hi]
    exact congrArg some z
  · rw [List.getElem?_eq_none (by rw [it_len]; omega), List.getElem?_eq_none (by rw [List.length_map]; omega)]
/-- who comes again is free -/
theorem free_again {c : Cd} (h : COk c) (e : it (c.2.length * c.2.length) c = (c.1, c.2.map (· + c.2.length))) : Free c := by
  have hp : 0 < c.2.length := Nat.lt_of_le_of_lt (Nat.zero_le _) h
  have lenE : ∀ i, i < c.2.length → len (it (c.2.length * c.2.length) c) i = len c i + c.2.length := fun i hi => by
    rw [e]
    exact getD_map_add _ _ hi
  have fr : Free (it (c.2.length * c.2.length) c) := fun i hi => by
    rw [it_len] at hi
    obtain ⟨t, t1, t2, _⟩ := step_of (c.2.length * c.2.length) i (len c i + 1) h (by omega) (by rw [lenE i hi]; omega)
    rw [← t2]
    exact rch_been h (by omega)
  have goE : ∀ i, i < c.2.length → go (it (c.2.length * c.2.length) c) i = go c i := fun i hi => by
    unfold go
    rw [lenE i hi, it_len, ← Nat.add_assoc, Nat.add_mod_right]
  have gonE : ∀ k i, i < c.2.length → gon (it (c.2.length * c.2.length) c) k i = gon c k i := by
    intro k
    induction k with
    | zero => intro i _; rfl
    | succ k ih =>
      intro i hi
      show gon _ k (go _ i) = gon c k (go c i)
      rw [goE i hi]
      exact ih _ (Nat.mod_lt _ hp)
  intro i hi
  obtain ⟨k, q⟩ := fr i (by rw [it_len]; exact hi)
  rw [gonE k i hi] at q
  exact ⟨k, by rw [q, e]⟩
end Lk
end
section
/-! Rings of last goings. -/
namespace Lk
theorem go_lt {c : Cd} (h : COk c) (i : Nat) : go c i < c.2.length := Nat.mod_lt _ (Nat.lt_of_le_of_lt (Nat.zero_le _) h)
theorem gon_lt {c : Cd} (h : COk c) {i : Nat} (hi : i < c.2.length) : ∀ k, gon c k i < c.2.length
  | 0 => hi
  | k + 1 => by rw [gon_succ]; exact go_lt h _
/-- k goings from a lead round it, past places that are greater and not the coder's own -/
structure RingK (c : Cd) (a k : Nat) : Prop where
  pos : 0 < k
  home : ∀ j, j < k → gon c j a ≠ c.1
  least : ∀ j, 0 < j → j < k → a < gon c j a
  back : gon c k a = a
def ringL (c : Cd) (a k : Nat) : List Nat := (List.range k).map fun j => gon c j a
def RingAt (c : Cd) (a : Nat) : Prop := ∃ k, RingK c a k
theorem ringK_never {c : Cd} {a k : Nat} (r : RingK c a k) : ∀ m, gon c m a ≠ c.1 := by
  intro m
  induction m using Nat.strongRecOn with
  | ind m ih =>
    by_cases g : m < k
    · exact r.home m g
    · have e : m = k + (m - k) := by omega
      rw [e, gon_add, r.back]
      exact ih (m - k) (by have := r.pos; omega)
theorem ringK_inj {c : Cd} {a k j : Nat} (r : RingK c a k) (s : RingK c a j) : k = j := by
  have key : ∀ {k j : Nat}, RingK c a k → RingK c a j → ¬ k < j := fun r s g => by
    have z := s.least _ r.pos g
    rw [r.back] at z
    omega
  have h1 := key r s
  have h2 := key s r
  omega
theorem ringL_nodup {c : Cd} {a k : Nat} (r : RingK c a k) : (ringL c a k).Nodup := by
  unfold ringL
  refine List.pairwise_map.mpr (List.Pairwise.imp_of_mem (R := fun i j => i < j) (fun {i j} hi hj hl e => ?_) List.pairwise_lt_range)
  rw [List.mem_range] at hi hj
  have z : gon c (i + (k - j)) a = a := by
    rw [gon_add, e, ← gon_add, show j + (k - j) = k by omega]
    exact r.back
  have w := r.least (i + (k - j)) (by omega) (by omega)
  omega
theorem nodup_below {l : List Nat} {p : Nat} (n : l.Nodup) (h : ∀ x ∈ l, x < p) : l.length ≤ p := by
  have z := List.Nodup.length_le_of_subset n (l₂ := List.range p) fun x hx => List.mem_range.mpr (h x hx)
  rw [List.length_range] at z
  exact z
theorem free_noring {c : Cd} (fr : Free c) {a : Nat} (ha : a < c.2.length) : ¬ RingAt c a := fun ⟨_, r⟩ => by
  obtain ⟨m, q⟩ := fr a ha
  exact ringK_never r m q
/-- the least number with a property -/
theorem least_of {Q : Nat → Prop} {n : Nat} (h : Q n) : ∃ m, Q m ∧ ∀ j, j < m → ¬ Q j := by
  induction n using Nat.strongRecOn with
  | ind n ih =>
    by_cases g : ∃ j, j < n ∧ Q j
    · obtain ⟨j, hj, q⟩ := g
      exact ih j hj q
    · exact ⟨n, h, fun j hj q => g ⟨j, hj, q⟩⟩
theorem repeats {p : Nat} {f : Nat → Nat} (h : ∀ m, f m < p) : ∃ j k, j < k ∧ f j = f k := by
  refine Classical.byContradiction fun no => ?_
  have nd : ((List.range (p + 1)).map f).Nodup :=
    List.pairwise_map.mpr (List.Pairwise.imp (R := fun i j => i < j) (fun {i j} hl e => no ⟨i, j, hl, e⟩) List.pairwise_lt_range)
  have z := nodup_below nd (p := p) fun x hx => by
    obtain ⟨m, _, e⟩ := List.mem_map.mp hx
    rw [← e]
    exact h m
  rw [List.length_map, List.length_range] at z
  omega
theorem ring_of {c : Cd} (h : COk c) {i : Nat} (hi : i < c.2.length) (no : ∀ m, gon c m i ≠ c.1) : ∃ a, a < c.2.length ∧ RingAt c a := by
  obtain ⟨j, k, hjk, e⟩ := repeats (f := fun m => gon c m i) fun m => gon_lt h hi m
  have per : gon c (k - j) (gon c j i) = gon c j i := by
    rw [← gon_add, show j + (k - j) = k by omega]
    exact e.symm
  obtain ⟨v, ⟨m0, e0⟩, hv⟩ := least_of (Q := fun v => ∃ m, gon c m (gon c j i) = v) ⟨0, rfl⟩
  have low : ∀ m, v ≤ gon c m v := fun m => by
    refine Nat.le_of_not_lt fun z => hv _ z ⟨m0 + m, ?_⟩
    rw [gon_add, e0]
  have hper : gon c (k - j) v = v := by
    rw [← e0, ← gon_add, Nat.add_comm, gon_add, per]
  obtain ⟨d, ⟨d0, d1⟩, hd⟩ := least_of (Q := fun d => 0 < d ∧ gon c d v = v) ⟨(by omega : 0 < k - j), hper⟩
  have hvlt : v < c.2.length := by rw [← e0]; exact gon_lt h (gon_lt h hi j) m0
  refine ⟨v, hvlt, d, d0, fun m _ => ?_, fun m m0 md => ?_, d1⟩
  · rw [← e0, ← gon_add, ← gon_add]
    exact no _
  · have z := low m
    have w : gon c m v ≠ v := fun z => hd m md ⟨m0, z⟩
    omega
theorem noring_free {c : Cd} (h : COk c) (no : ∀ a, a < c.2.length → ¬ RingAt c a) : Free c := fun i hi => by
  refine Classical.byContradiction fun z => ?_
  obtain ⟨a, ha, r⟩ := ring_of h hi fun m e => z ⟨m, e⟩
  exact no a ha r
/-- a walk from a, as far as it is told -/
structure PathK (c : Cd) (a : Nat) (k : Nat) : Prop where
  pos : 0 < k
  home : ∀ j, j < k → gon c j a ≠ c.1
  least : ∀ j, 0 < j → j < k → a < gon c j a
  nd : (ringL c a k).Nodup
theorem path_one {c : Cd} {a : Nat} (h : a ≠ c.1) : PathK c a 1 :=
  ⟨Nat.one_pos, fun j hj => by rw [show j = 0 by omega]; exact h, fun j h0 h1 => absurd h1 (by omega), List.pairwise_singleton _ _⟩
theorem ringL_succ {c : Cd} {a k : Nat} : ringL c a (k + 1) = ringL c a k ++ [gon c k a] := by
  unfold ringL
  rw [List.range_succ, List.map_append]
  rfl
theorem path_more {c : Cd} {a k : Nat} (r : PathK c a k) (h1 : a < gon c k a) (h2 : gon c k a ≠ c.1) (h3 : gon c k a ∉ ringL c a k) : PathK c a (k + 1) := by
  refine ⟨Nat.succ_pos _, fun j hj => ?_, fun j h0 hj => ?_, ?_⟩
  · by_cases g : j < k
    · exact r.home j g
    · rw [show j = k by omega]; exact h2
  · by_cases g : j < k
    · exact r.least j h0 g
    · rw [show j = k by omega]; exact h1
  · rw [ringL_succ]
    refine List.nodup_append.mpr ⟨r.nd, List.pairwise_singleton _ _, fun x hx y hy e => ?_⟩
    rw [List.mem_singleton] at hy
    exact h3 (by rw [← hy, ← e]; exact hx)
theorem path_len {c : Cd} (h : COk c) {a k : Nat} (ha : a < c.2.length) (r : PathK c a k) : k ≤ c.2.length := by
  have z := nodup_below r.nd (p := c.2.length) fun x hx => by
    obtain ⟨m, _, e⟩ := List.mem_map.mp hx
    rw [← e]
    exact gon_lt h ha m
  unfold ringL at z
  rw [List.length_map, List.length_range] at z
  exact z
/-- the walk ended: it is a ring just where it came back -/
theorem path_ring {c : Cd} {a k : Nat} (r : PathK c a k) (e : gon c k a = a) : RingK c a k := ⟨r.pos, r.home, r.least, e⟩
theorem path_none {c : Cd} {a k : Nat} (r : PathK c a k) (hend : ¬ (a < gon c k a ∧ gon c k a ≠ c.1 ∧ gon c k a ∉ ringL c a k)) (e : gon c k a ≠ a) : ¬ RingAt c a := fun ⟨d, s⟩ => by
  have hkd : k < d := by
    refine Classical.byContradiction fun g => ?_
    by_cases g2 : d < k
    · have z := r.least d s.pos g2
      rw [s.back] at z
      omega
    · have : d = k := by omega
      rw [← this, s.back] at e
      exact e rfl
  refine hend ⟨s.least k r.pos hkd, s.home k hkd, fun hm => ?_⟩
  have nd := ringL_nodup s
  obtain ⟨j, hj, ej⟩ := List.mem_map.mp hm
  rw [List.mem_range] at hj
  have z : gon c (j + (d - k)) a = a := by
    rw [gon_add, ej, ← gon_add, show k + (d - k) = d by omega]
    exact s.back
  have w := s.least (j + (d - k)) (by omega) (by omega)
  omega
/-- what ring_from tells -/
def RingFrom (c : Cd) (a : Nat) (r : Option (List Nat)) : Prop := (∃ k, RingK c a k ∧ r = some (ringL c a k)) ∨ (¬ RingAt c a ∧ r = none)
/-- what ring tells -/
def RingOf (c : Cd) (r : Option (List Nat)) : Prop := (∃ a k, a < c.2.length ∧ RingK c a k ∧ (∀ b, b < a → ¬ RingAt c b) ∧ r = some (ringL c a k)) ∨ ((∀ a, a < c.2.length → ¬ RingAt c a) ∧ r = none)
theorem ringOf_free {c : Cd} (h : COk c) {r : Option (List Nat)} (q : RingOf c r) : r = none ↔ Free c := by
  rcases q with ⟨a, k, ha, rk, _, rfl⟩ | ⟨no, rfl⟩
  · exact ⟨fun z => (by cases z), fun fr => absurd ⟨k, rk⟩ (free_noring fr ha)⟩
  · exact ⟨fun _ => noring_free h no, fun _ => rfl⟩
/-- how many steps a coder takes at least till it is free -/
def Ahead (c : Cd) (n : Nat) : Prop := Free (it n c) ∧ ∀ m, m < n → ¬ Free (it m c)
theorem ahead_le {c : Cd} (h : COk c) {n : Nat} (a : Ahead c n) : n ≤ (c.2.length - 1) * (c.2.length - 1) + 1 :=
  Nat.le_of_not_lt fun z => a.2 _ z (free_late h (Nat.le_refl _))
theorem ahead_is {c : Cd} (h : COk c) : ∃ n, Ahead c n := least_of (free_late h (Nat.le_refl _))
theorem ahead_one {c : Cd} {n m : Nat} (a : Ahead c n) (b : Ahead c m) : n = m := by
  have h1 : ¬ n < m := fun z => b.2 _ z a.1
  have h2 : ¬ m < n := fun z => a.2 _ z b.1
  omega
end Lk
end
section
/-! Far steps, words. -/
namespace Lk
theorem it_rounds {c : Cd} (h : COk c) (fr : Free c) : ∀ R, it (R * (c.2.length * c.2.length)) c = (c.1, c.2.map (· + R * c.2.length))
  | 0 => by
    rw [Nat.zero_mul]
    refine Prod.ext rfl ?_
    show c.2 = _
    rw [show (fun n : Nat => n + 0 * c.2.length) = id from funext fun n => by simp, List.map_id]
  | R + 1 => by
    have e1 : it ((R + 1) * (c.2.length * c.2.length)) c = it (c.2.length * c.2.length) (it (R * (c.2.length * c.2.length)) c) := by
      rw [Nat.add_mul, Nat.one_mul, it_add]
    have h2 := it_ok (R * (c.2.length * c.2.length)) h
    have f2 := free_it (R * (c.2.length * c.2.length)) h fr
    have r := it_round h2 f2
    rw [it_len] at r
    rw [e1, r, it_rounds h fr R]
    refine Prod.ext rfl ?_
    show (c.2.map _).map _ = _
    rw [List.map_map]
    refine List.map_congr_left fun n _ => ?_
    show n + R * c.2.length + c.2.length = n + (R + 1) * c.2.length
    rw [Nat.add_mul, Nat.one_mul, Nat.add_assoc]
/-- as many whole rounds as may be taken at once -/
def rnds (p n : Nat) : Nat := (n - ((p - 1) * (p - 1) + 1)) / (p * p)
theorem rnds_le (p n : Nat) : rnds p n * (p * p) ≤ n := Nat.le_trans (Nat.div_mul_le_self _ _) (Nat.sub_le _ _)
theorem rnds_left (p n : Nat) (hp : 0 < p) : n - rnds p n * (p * p) < (p - 1) * (p - 1) + 1 + p * p := by
  have hpp : 0 < p * p := Nat.mul_pos hp hp
  have a := Nat.div_add_mod (n - ((p - 1) * (p - 1) + 1)) (p * p)
  have b := Nat.mod_lt (n - ((p - 1) * (p - 1) + 1)) hpp
  unfold rnds
  rw [Nat.mul_comm (p * p)] at a
  omega
theorem far {c : Cd} (h : COk c) (n : Nat) : it n c = ((it (n - rnds c.2.length n * (c.2.length * c.2.length)) c).1, (it (n - rnds c.2.length n * (c.2.length * c.2.length)) c).2.map (· + rnds c.2.length n * c.2.length)) := by
  have hle := rnds_le c.2.length n
  have e : n = (n - rnds c.2.length n * (c.2.length * c.2.length)) + rnds c.2.length n * (c.2.length * c.2.length) := by omega
  by_cases g : rnds c.2.length n = 0
  · rw [g, Nat.zero_mul, Nat.zero_mul, Nat.sub_zero]
    refine Prod.ext rfl ?_
    show _ = List.map _ _
    rw [show (fun n : Nat => n + 0) = id from funext fun n => by simp, List.map_id]
  · have late : (c.2.length - 1) * (c.2.length - 1) + 1 ≤ n - rnds c.2.length n * (c.2.length * c.2.length) := by
      have z := Nat.div_mul_le_self (n - ((c.2.length - 1) * (c.2.length - 1) + 1)) (c.2.length * c.2.length)
      have y : 0 < n - ((c.2.length - 1) * (c.2.length - 1) + 1) := by
        refine Nat.pos_of_ne_zero fun q => g ?_
        unfold rnds
        rw [q, Nat.zero_div]
      unfold rnds
      omega
    have fr := free_late h late
    have r := it_rounds (it_ok (n - rnds c.2.length n * (c.2.length * c.2.length)) h) fr (rnds c.2.length n)
    rw [it_len] at r
    have e2 : it n c = it (rnds c.2.length n * (c.2.length * c.2.length)) (it (n - rnds c.2.length n * (c.2.length * c.2.length)) c) := by
      rw [← it_add, ← e]
    rw [e2, r]
/-- the word of a step -/
def wd (c : Cd) : Nat × Nat := (c.1, len c c.1 + 1)
def wds (n : Nat) (c : Cd) : List (Nat × Nat) := (List.range n).map fun t => wd (it t c)
theorem wds_len (n : Nat) (c : Cd) : (wds n c).length = n := by
  unfold wds
  rw [List.length_map, List.length_range]
theorem wds_succ (n : Nat) (c : Cd) : wds (n + 1) c = wds n c ++ [wd (it n c)] := by
  unfold wds
  rw [List.range_succ, List.map_append]
  rfl
end Lk
end
section
set_option maxRecDepth 100000
set_option maxHeartbeats 2000000
/-! Things as data; heaps; calls by name. -/
namespace Lk
open PySem PySem.Spec PyProof.Rows L2
mutual
/-- v is this data, all of it made in the run -/
inductive Th (H : Hp) : V → PyData → Prop
  | non : Th H .non .none
  | bl (b : Bool) : Th H (.bl b) (.bool b)
  | int (i : Int) : Th H (.int i) (.int i)
  | str (x : Str) : Th H (.str x) (.str x)
  | lst {a : Addr} {xs : List V} {ds : List PyData} (e : H a = some (.lst xs)) (m : ThAll H xs ds) : Th H (.ref a) (.list ds)
  | tup {a : Addr} {xs : List V} {ds : List PyData} (e : H a = some (.tup xs)) (m : ThAll H xs ds) : Th H (.ref a) (.tuple ds)
  | dct {a : Addr} (e : H a = some (.dK [])) : Th H (.ref a) (.dict [])
inductive ThAll (H : Hp) : List V → List PyData → Prop
  | nil : ThAll H [] []
  | cons {v : V} {vs : List V} {d : PyData} {ds : List PyData} (h : Th H v d) (m : ThAll H vs ds) : ThAll H (v :: vs) (d :: ds)
end
/-- what stands at addresses of P is as it was -/
def Keep (P : Addr → Prop) (H H2 : Hp) : Prop := ∀ b o, P b → H b = some o → H2 b = some o
mutual
theorem Th.same {H H2 : Hp} (s : Same H H2) : ∀ (d : PyData) {v : V}, Th H v d → Th H2 v d
  | .none, _, h => by cases h; exact .non
  | .bool b, _, h => by cases h; exact .bl b
  | .int i, _, h => by cases h; exact .int i
  | .str x, _, h => by cases h; exact .str x
  | .list ds, _, h => by
    cases h with
    | lst e m => exact .lst (s _ _ e) (ThAll.same s ds m)
  | .tuple ds, _, h => by
    cases h with
    | tup e m => exact .tup (s _ _ e) (ThAll.same s ds m)
  | .dict kvs, _, h => by
    cases h with
    | dct e => exact .dct (s _ _ e)
theorem ThAll.same {H H2 : Hp} (s : Same H H2) : ∀ (ds : List PyData) {vs : List V}, ThAll H vs ds → ThAll H2 vs ds
  | [], _, h => by cases h; exact .nil
  | d :: ds, _, h => by
    cases h with
    | cons a b => exact .cons (Th.same s d a) (ThAll.same s ds b)
end
mutual
theorem Th.dq {K : PySem.W.Frag} {H : Hp} : ∀ (d : PyData) {v : V}, Th H v d → Dq K H v d
  | .none, _, h => by cases h; exact .non
  | .bool b, _, h => by cases h; exact .bl b
  | .int i, _, h => by cases h; exact .int i
  | .str x, _, h => by cases h; exact .str x
  | .list ds, _, h => by
    cases h with
    | lst e m => exact .lst (SqL.of e) (ThAll.dq ds m)
  | .tuple ds, _, h => by
    cases h with
    | tup e m => exact .tup (SqT.of e) (ThAll.dq ds m)
  | .dict kvs, _, h => by
    cases h with
    | dct e => exact .dct e
theorem ThAll.dq {K : PySem.W.Frag} {H : Hp} : ∀ (ds : List PyData) {vs : List V}, ThAll H vs ds → DqAll K H vs ds
  | [], _, h => by cases h; exact .nil
  | d :: ds, _, h => by
    cases h with
    | cons a b => exact .cons (Th.dq d a) (ThAll.dq ds b)
end
theorem ThAll.length {H : Hp} : ∀ {vs : List V} {ds : List PyData}, ThAll H vs ds → vs.length = ds.length
  | _, _, .nil => rfl
  | _, _, .cons _ m => by rw [List.length_cons, List.length_cons, m.length]
theorem ThAll.get {H : Hp} : ∀ {vs : List V} {ds : List PyData}, ThAll H vs ds → ∀ {i : Nat} {v : V}, vs[i]? = some v → ∃ d, ds[i]? = some d ∧ Th H v d
  | _, _, .nil, i, v, h => by simp at h
  | _, _, .cons a m, 0, v, h => by
    cases h
    exact ⟨_, rfl, a⟩
  | _, _, .cons a m, i + 1, v, h => m.get (i := i) (by simpa using h)
theorem ThAll.get2 {H : Hp} : ∀ {vs : List V} {ds : List PyData}, ThAll H vs ds → ∀ {i : Nat} {d : PyData}, ds[i]? = some d → ∃ v, vs[i]? = some v ∧ Th H v d
  | _, _, .nil, i, v, h => by simp at h
  | _, _, .cons a m, 0, v, h => by
    cases h
    exact ⟨_, rfl, a⟩
  | _, _, .cons a m, i + 1, v, h => m.get2 (i := i) (by simpa using h)
theorem ThAll.append {H : Hp} : ∀ {vs us : List V} {ds es : List PyData}, ThAll H vs ds → ThAll H us es → ThAll H (vs ++ us) (ds ++ es)
  | _, _, _, _, .nil, h => h
  | _, _, _, _, .cons a m, h => .cons a (m.append h)
theorem ThAll.ints {H : Hp} : ∀ ns : List Int, ThAll H (ns.map V.int) (ns.map PyData.int)
  | [] => .nil
  | n :: ns => .cons (.int n) (.ints ns)
def tyN : PyData → String
  | .none => "NoneType"
  | .bool _ => "bool"
  | .int _ => "int"
  | .str _ => "str"
  | .list _ => "list"
  | .tuple _ => "tuple"
  | .dict _ => "dict"
theorem Th.ty {K : PySem.W.Frag} {H : Hp} {v : V} {d : PyData} (h : Th H v d) : TyX K H v (.type (tyN d)) := by
  cases h with
  | non => exact .base .non
  | bl b => exact .base (.bl b)
  | int i => exact .base (.int i)
  | str x => exact .base (.str x)
  | lst e m => exact .base (.lst e)
  | tup e m => exact .base (.tup e)
  | dct e => exact .base (.dK e)
def isT : PyData → Bool
  | .tuple _ => true
  | _ => false
def isL : PyData → Bool
  | .list _ => true
  | _ => false
def isI : PyData → Bool
  | .int _ => true
  | .bool _ => true
  | _ => false
def isB : PyData → Bool
  | .bool _ => true
  | _ => false
theorem kit_tuple {K : PySem.W.Frag} (d : PyData) : PySem.W.kitOne K (.type (tyN d)) (.type "tuple") = some (isT d) := kit_ty (by cases d <;> (simp only [tyN, isT]; decide +kernel))
theorem kit_list {K : PySem.W.Frag} (d : PyData) : PySem.W.kitOne K (.type (tyN d)) (.type "list") = some (isL d) := kit_ty (by cases d <;> (simp only [tyN, isL]; decide +kernel))
theorem kit_int {K : PySem.W.Frag} (d : PyData) : PySem.W.kitOne K (.type (tyN d)) (.type "int") = some (isI d) := kit_ty (by cases d <;> (simp only [tyN, isI]; decide +kernel))
theorem kit_bool {K : PySem.W.Frag} (d : PyData) : PySem.W.kitOne K (.type (tyN d)) (.type "bool") = some (isB d) := kit_ty (by cases d <;> (simp only [tyN, isB]; decide +kernel))
/-! ### heaps -/
/-- all but what stands at a is as it was -/
def SameBut (a : Addr) (H H' : Hp) : Prop := ∀ b o, b ≠ a → H b = some o → H' b = some o
theorem SameBut.trans {a : Addr} {H H1 H2 : Hp} (x : SameBut a H H1) (y : SameBut a H1 H2) : SameBut a H H2 := fun b o n e => y b o n (x b o n e)
theorem SameBut.refl {a : Addr} {H : Hp} : SameBut a H H := fun _ _ _ e => e
theorem sameBut_upd {a : Addr} {H : Hp} {o : HO} : SameBut a H (upd H a o) := fun b u n e => by rw [upd_ne n]; exact e
theorem same_new {p : Addr} {H : Hp} {o : HO} (h : H p = none) : Same H (upd H p o) := fun b u e => by rw [upd_ne (ne_of_none e h)]; exact e
theorem same_push {H H1 : Hp} {D : Addr} {o : HO} (s : Same H H1) (hD : H D = none) : Same H (upd H1 D o) := fun b u e => by
  rw [upd_ne (ne_of_none e hD)]
  exact s b u e
theorem Same.but {a : Addr} {H H' : Hp} (h : Same H H') : SameBut a H H' := fun b o _ e => h b o e
/-! ### a def that may raise, by its name -/
structure CalX (P : Program) (w : World) (K : PySem.W.Frag) (mg : Str → Option Value) (base : Heap) (k : Nat) (x : Str) (sp : Sp) : Prop where
  ex : ∃ (f : Addr) (fd : FuncData) (ps : List Str), FnOk P w K mg base (L2.CX P w) k f fd ps sp ∧ mg x = some (.ref f) ∧ PySem.W.keepIn K (.ref f) = true ∧ Binds K fd ps []
section
variable {X : Cx} {k j : Nat} {x : Str} {sp : Sp} {p pos : Pos} {e : Expr} {es : List Expr} {t : TA} {W : WX}
/-- .. what it raises is taken around -/
theorem pe_cX (c : CalX X.prog X.w X.K X.mg X.base k x sp) (tk : Takes X W) (hr : Room j X.A) (hk : k ≤ j) (hg : Gl X x) (ha : PA X (e :: es) t)
    (hdb : (x == ("__debug__" : Str)) = false := by decide) (he : starEach (e :: es) X.env = (false, eval e X.env) :: starEach es X.env := by rfl) (hpl : (backTo pos (starEach es X.env)).any (·.1) = false := by rfl) :
    PE X (.Call (.Name x p) (e :: es) [] pos) (tCallS sp (WE W) t) := by
  obtain ⟨f, fd, ps, F, hm, kp, b⟩ := c.ex
  exact pe_callS F (hr.mono hk) hg hm kp b (fun σ => passAt tk σ) ha hdb he hpl
/-- .. where it raises nothing -/
theorem pe_c0 (c : CalX X.prog X.w X.K X.mg X.base k x sp) (hr : Room j X.A) (hk : k ≤ j) (hg : Gl X x) (ha : PA X (e :: es) t)
    (hdb : (x == ("__debug__" : Str)) = false := by decide) (he : starEach (e :: es) X.env = (false, eval e X.env) :: starEach es X.env := by rfl) (hpl : (backTo pos (starEach es X.env)).any (·.1) = false := by rfl) :
    PE X (.Call (.Name x p) (e :: es) [] pos) (tCall sp [] E0 t) := by
  obtain ⟨f, fd, ps, F, hm, kp, b⟩ := c.ex
  exact pe_call F (hr.mono hk) hg hm kp b .nil passL ha hdb he hpl
end
/-- a class of the program's own over ValueError, as the top has written it -/
structure ErrC (K : PySem.W.Frag) (mg : Str → Option Value) (x : Str) (C : Addr) : Prop where
  g : mg x = some (.ref C)
  k : PySem.W.keepIn K (.ref C) = true
  x : PySem.W.excIn K C [.type "ValueError", .type "Exception", .type "BaseException", .type "object"] "ValueError.__new__" = true
  b : PySem.W.subIn K (.ref C) (.type "BaseException") = some true
  t : PySem.W.typeIn K (.ref C) = some (.type "type")
/-! ### rules that name the written part, for use within a comprehension -/
def rLenS (K : PySem.W.Frag) : List V → Hp → VK → Prop := fun xs H Q => ∃ p ys, xs = [.ref p] ∧ (SqL K H p ys ∨ SqT K H p ys) ∧ Q (.int ((ys.length : Nat) : Int)) H
theorem call_lenK {X : Cx} {K : PySem.W.Frag} (h : X.K = K) : CallR X (.builtin "len") (rLenS K) := by
  subst h
  exact call_len_seq
theorem ix_tupK {X : Cx} {K : PySem.W.Frag} (h : X.K = K) : IxR X (rIxT K) := by
  subst h
  exact ix_tup
theorem ix_listK {X : Cx} {K : PySem.W.Frag} (h : X.K = K) : IxR X (rIxL K) := by
  subst h
  exact ix_list
/-- a comprehension that gathers truths, its list at D -/
theorem snoc_bl {H4 : Hp} {D : Addr} {bs : List Bool} {i : Nat} {b : Bool} (e : H4 D = some (.lst ((bs.take i).map V.bl))) (hb : bs[i]? = some b) (hl : bs.length ≤ 100000) :
    ∃ acc, H4 D = some (.lst acc) ∧ acc.length < sizeLine ∧ upd H4 D (.lst (acc ++ [V.bl b])) D = some (.lst ((bs.take (i + 1)).map V.bl)) ∧ acc = (bs.take i).map V.bl := by
  refine ⟨_, e, ?_, ?_, rfl⟩
  · rw [List.length_map, List.length_take]
    exact Nat.lt_of_le_of_lt (show min i bs.length ≤ 100000 by omega) (by decide)
  · rw [upd_same, List.take_add_one, hb, List.map_append]
    rfl
/-- a comprehension that gathers, its list at D -/
theorem snoc_map {α : Type} {f : α → V} {H4 : Hp} {D : Addr} {l : List α} {i : Nat} {x : α} (e : H4 D = some (.lst ((l.take i).map f))) (hx : l[i]? = some x) (hl : l.length ≤ 1000000) :
    ∃ acc, H4 D = some (.lst acc) ∧ acc.length < sizeLine ∧ upd H4 D (.lst (acc ++ [f x])) D = some (.lst ((l.take (i + 1)).map f)) := by
  refine ⟨_, e, ?_, ?_⟩
  · rw [List.length_map, List.length_take]
    exact Nat.lt_of_le_of_lt (show min i l.length ≤ 1000000 by omega) (by decide)
  · rw [upd_same, List.take_add_one, hx, List.map_append]
    rfl
theorem cut_to {xs : List V} {n : Nat} (h : n ≤ xs.length) : cutV xs none (some (n : Int)) = xs.take n := by
  unfold cutV
  rw [HT.sIx_none, HT.sIx_nat]
  show (xs.drop 0).take (min n xs.length - 0) = _
  rw [List.drop_zero, Nat.sub_zero, Nat.min_eq_left h]
theorem cut_from {xs : List V} {n : Nat} : cutV xs (some (n : Int)) none = xs.drop n := by
  unfold cutV
  rw [HT.sIx_none, HT.sIx_nat]
  by_cases h : n ≤ xs.length
  · rw [Nat.min_eq_left h]
    exact List.take_of_length_le (by rw [List.length_drop]; omega)
  · rw [Nat.min_eq_right (by omega), List.drop_length, List.drop_eq_nil_of_le (by omega)]
    exact List.take_nil
end Lk
end
section
set_option maxRecDepth 100000
set_option maxHeartbeats 2000000
/-! kinds, is_coder of anything, next_coder. -/
namespace Lk
open PySem PySem.Spec PyProof.Rows L2
abbrev vN (n : Nat) : V := .int (n : Int)
abbrev dN (n : Nat) : PyData := .int (n : Int)
def isW : PyData → Bool
  | .int _ => true
  | _ => false
def inR : PyData → Int → Int → Bool
  | .int i, a, b => decide (a ≤ i) && decide (i ≤ b)
  | _, _, _ => false
def natD : PyData → Bool
  | .int i => decide (0 ≤ i)
  | _ => false
def isCd : PyData → Bool
  | .tuple [p, .tuple ls] => (decide (1 ≤ ls.length) && decide (ls.length ≤ 12)) && (inR p 0 ((ls.length : Int) - 1) && ls.all natD)
  | _ => false
section
variable {P : Program} {w : World} {K : PySem.W.Frag} {mg : Str → Option Value} {base : Heap}
def spWhole : Sp := fun vs H Q _ => ∃ v d, vs = [v] ∧ Th H v d ∧ Q (.bl (isW d)) H
def spWithin : Sp := fun vs H Q _ => ∃ v d a b, vs = [v, .int a, .int b] ∧ Th H v d ∧ Q (.bl (inR d a b)) H
/-- which bounds are asked -/
def Asked (a b : Int) : Prop := a = 0 ∧ b = 2000 ∨ a = 0 ∧ b = 10 ^ 18 ∨ a = 1 ∧ b = 12 ∨ a = 1 ∧ b = 6 ∨ a = 1 ∧ b = 10 ^ 18 ∨ a = 0 ∧ b = 10 ^ 36
def spCount (C : Addr) : Sp := fun vs H Q E => ∃ v d a b, vs = [v, .int a, .int b] ∧ Asked a b ∧ Th H v d ∧ (inR d a b = true → Q .non H) ∧ (inR d a b = false → E (.ref C) none H)
/-! ### coders -/
/-- the coder c stands at v -/
def Cat (H : Hp) (v : V) (c : Cd) : Prop := ∃ a b, v = .ref a ∧ H a = some (.tup [.int (c.1 : Int), .ref b]) ∧ H b = some (.tup (c.2.map vN))
theorem Cat.same {H H2 : Hp} {v : V} {c : Cd} (s : Same H H2) (h : Cat H v c) : Cat H2 v c := by
  obtain ⟨a, b, e, h1, h2⟩ := h
  exact ⟨a, b, e, s _ _ h1, s _ _ h2⟩
def cdD (c : Cd) : PyData := .tuple [.int (c.1 : Int), .tuple (c.2.map dN)]
def CdOk (c : Cd) : Prop := COk c ∧ c.2.length ≤ 12
theorem CdOk.pos {c : Cd} (h : CdOk c) : 0 < c.2.length := Nat.lt_of_le_of_lt (Nat.zero_le _) h.1
theorem ints_nat {H : Hp} : ∀ ls : List Nat, ThAll H (ls.map vN) (ls.map dN)
  | [] => .nil
  | n :: ls => .cons (.int n) (ints_nat ls)
theorem nat_ints {H : Hp} : ∀ {vs : List V} {ls : List Nat}, ThAll H vs (ls.map dN) → vs = ls.map vN
  | _, [], h => by cases h; rfl
  | _, n :: ls, h => by
    cases h with
    | cons a m =>
      cases a
      rw [nat_ints m]
      rfl
theorem Cat.th {H : Hp} {v : V} {c : Cd} (h : Cat H v c) : Th H v (cdD c) := by
  obtain ⟨a, b, rfl, h1, h2⟩ := h
  exact .tup h1 (.cons (.int _) (.cons (.tup h2 (ints_nat c.2)) .nil))
theorem Th.cat {H : Hp} {v : V} {c : Cd} (h : Th H v (cdD c)) : Cat H v c := by
  unfold cdD at h
  cases h with
  | tup e m =>
    cases m with
    | cons a m =>
      cases m with
      | cons b m =>
        cases m
        cases a
        cases b with
        | tup e2 m2 =>
          rw [nat_ints m2] at e2
          exact ⟨_, _, rfl, e, e2⟩
theorem nats_of : ∀ {ds : List PyData}, ds.all natD = true → ∃ ls : List Nat, ds = ls.map dN
  | [], _ => ⟨[], rfl⟩
  | d :: ds, h => by
    rw [List.all_cons, Bool.and_eq_true] at h
    obtain ⟨ls, rfl⟩ := nats_of h.2
    cases d with
    | int i =>
      have z : 0 ≤ i := of_decide_eq_true h.1
      exact ⟨i.toNat :: ls, by rw [List.map_cons]; show _ = PyData.int _ :: _; rw [Int.toNat_of_nonneg z]⟩
    | _ => cases h.1
theorem isCd_of {d : PyData} (h : isCd d = true) : ∃ c, d = cdD c ∧ CdOk c := by
  unfold isCd at h
  split at h
  · rename_i p ls
    rw [Bool.and_eq_true, Bool.and_eq_true, Bool.and_eq_true, decide_eq_true_eq, decide_eq_true_eq] at h
    obtain ⟨⟨h1, h2⟩, h3, h4⟩ := h
    obtain ⟨ns, rfl⟩ := nats_of h4
    rw [List.length_map] at h1 h2 h3
    cases p with
    | int i =>
      have z : (decide (0 ≤ i) && decide (i ≤ (ns.length : Int) - 1)) = true := h3
      rw [Bool.and_eq_true, decide_eq_true_eq, decide_eq_true_eq] at z
      exact ⟨(i.toNat, ns), by unfold cdD; rw [Int.toNat_of_nonneg z.1], by show i.toNat < ns.length; omega, h2⟩
    | _ => cases h3
  · cases h
theorem natD_all : ∀ ls : List Nat, (ls.map dN).all natD = true
  | [] => rfl
  | n :: ls => by
    rw [List.map_cons, List.all_cons, natD_all ls, Bool.and_true]
    exact decide_eq_true (show (0 : Int) ≤ (n : Int) by omega)
theorem isCd_cdD {c : Cd} (h : CdOk c) : isCd (cdD c) = true := by
  have h1 : c.1 < c.2.length := h.1
  have h2 := h.2
  show ((decide (1 ≤ _) && decide (_ ≤ 12)) && (inR (.int (c.1 : Int)) 0 _ && List.all _ natD)) = true
  rw [List.length_map, natD_all, Bool.and_true, decide_eq_true (show 1 ≤ c.2.length by omega), decide_eq_true h2]
  show ((true && true) && (decide ((0 : Int) ≤ (c.1 : Int)) && decide ((c.1 : Int) ≤ (c.2.length : Int) - 1))) = true
  rw [decide_eq_true (by omega), decide_eq_true (by omega)]
  rfl
def spIsCoder : Sp := fun vs H Q _ => ∃ v d, vs = [v] ∧ Th H v d ∧ ∀ H', Same H H' → Q (.bl (isCd d)) H'
theorem isCd_two {ds : List PyData} (h : ds.length ≠ 2) : isCd (.tuple ds) = false := by
  unfold isCd
  split
  · rename_i e
    cases e
    exact absurd rfl h
  · rfl
theorem isCd_no {p l : PyData} (h : isT l = false) : isCd (.tuple [p, l]) = false := by
  cases l <;> first | rfl | (cases h)
end
end Lk
end
section
set_option maxRecDepth 100000
set_option maxHeartbeats 2000000
/-! refuse_no_coder, next_coder, step, words_of, behind. -/
namespace Lk
open PySem PySem.Spec PyProof.Rows L2
/-- a slice of a tuple, new or not -/
def rCut (K : PySem.W.Frag) : V → Option Int → Option Int → Hp → VK → Prop := fun x lo hi H Q => ∃ a xs, x = .ref a ∧ SqT K H a xs ∧ ∀ b H', Same H H' → SqT K H' b (cutV xs lo hi) → (H' b = none ∨ H' b = some (.tup (cutV xs lo hi)) ∨ True) → Q (.ref b) H'
theorem sl_cut {X : Cx} : SlR X (rCut X.K) := by
  intro pins s σ H x v vl vu lo hi sl Q I rx hs pl pu h
  obtain ⟨a, xs, rfl, hx, q⟩ := h
  refine sl_tupA pins s σ H _ v vl vu _ _ sl Q I rx hs pl pu ⟨a, xs, rfl, hx, fun z => ?_, fun z p hp => ?_⟩
  · refine q a H (Same.refl H) ?_ (.inr (.inr trivial))
    have e : cutV xs lo hi = xs := by
      unfold cutV
      rw [z.1, z.2, List.drop_zero, Nat.sub_zero, List.take_length]
    rw [e]
    exact hx
  · exact q p _ (same_new hp) (.inl (.inl upd_same)) (.inr (.inr trivial))
theorem set_cut (l : List Nat) (i v : Nat) (h : i < l.length) : l.take i ++ v :: l.drop (i + 1) = l.set i v := by
  rw [List.set_eq_take_append_cons_drop, if_pos h]
theorem nat_at {l : List Nat} {i : Nat} (h : i < l.length) : (l.map vN)[i]? = some (V.int ((l.getD i 0 : Nat) : Int)) := by
  rw [List.getElem?_map, List.getD_eq_getElem?_getD, List.getElem?_eq_getElem h]
  rfl
/-- no list, no dict in it -/
def noL : PyData → Bool
  | .list _ => false
  | .dict _ => false
  | .tuple ds => noLs ds
  | _ => true
where noLs : List PyData → Bool
  | [] => true
  | d :: ds => noL d && noLs ds
mutual
theorem Th.but {H H2 : Hp} {W : Addr} {ws : List V} (hW : H W = some (.lst ws)) (s : SameBut W H H2) : ∀ (d : PyData) {v : V}, noL d = true → Th H v d → Th H2 v d
  | .none, _, _, h => by cases h; exact .non
  | .bool b, _, _, h => by cases h; exact .bl b
  | .int i, _, _, h => by cases h; exact .int i
  | .str x, _, _, h => by cases h; exact .str x
  | .list ds, _, n, _ => by cases n
  | .tuple ds, _, n, h => by
    cases h with
    | tup e m => exact .tup (s _ _ (fun z => by rw [z, hW] at e; cases e) e) (ThAll.but hW s ds n m)
  | .dict kvs, _, n, h => by cases n
theorem ThAll.but {H H2 : Hp} {W : Addr} {ws : List V} (hW : H W = some (.lst ws)) (s : SameBut W H H2) : ∀ (ds : List PyData) {vs : List V}, noL.noLs ds = true → ThAll H vs ds → ThAll H2 vs ds
  | [], _, _, h => by cases h; exact .nil
  | d :: ds, _, n, h => by
    have n2 : (noL d && noL.noLs ds) = true := n
    rw [Bool.and_eq_true] at n2
    cases h with
    | cons a b => exact .cons (Th.but hW s d n2.1 a) (ThAll.but hW s ds n2.2 b)
end
theorem noLs_append {ds es : List PyData} (a : noL.noLs ds = true) (b : noL.noLs es = true) : noL.noLs (ds ++ es) = true := by
  induction ds with
  | nil => exact b
  | cons d ds ih =>
    have n2 : (noL d && noL.noLs ds) = true := a
    rw [Bool.and_eq_true] at n2
    show (noL d && noL.noLs (ds ++ es)) = true
    rw [n2.1, ih n2.2]
    rfl
theorem noLs_map {α : Type} {f : α → PyData} (h : ∀ x, noL (f x) = true) : ∀ l : List α, noL.noLs (l.map f) = true
  | [] => rfl
  | x :: l => by
    show (noL (f x) && noL.noLs (l.map f)) = true
    rw [h, noLs_map h l]
    rfl
theorem noL_cdD (c : Cd) : noL (cdD c) = true := by
  show (true && (noL.noLs _ && true)) = true
  rw [noLs_map (f := dN) (fun _ => rfl) c.2]
  rfl
theorem Cat.but {H H2 : Hp} {W : Addr} {ws : List V} {v : V} {c : Cd} (hW : H W = some (.lst ws)) (s : SameBut W H H2) (h : Cat H v c) : Cat H2 v c := (Th.but hW s (cdD c) (noL_cdD c) h.th).cat
def dW (w : Nat × Nat) : PyData := .tuple [dN w.1, dN w.2]
theorem noL_dW (w : Nat × Nat) : noL (dW w) = true := rfl
section
variable {P : Program} {w : World} {K : PySem.W.Frag} {mg : Str → Option Value} {base : Heap}
def spRefCoder (C : Addr) : Sp := fun vs H Q E => ∃ v d, vs = [v] ∧ Th H v d ∧ (isCd d = true → ∀ H', Same H H' → Q .non H') ∧ (isCd d = false → ∀ H', Same H H' → E (.ref C) none H')
/-- the lengths with one word more at a place -/
def spLonger : Sp := fun vs H Q _ => ∃ (b : Addr) (ls : List Nat) (p : Nat), vs = [.ref b, .int (p : Int)] ∧ H b = some (.tup (ls.map vN)) ∧ p < ls.length ∧ ls.length ≤ 12 ∧ ∀ b' H', Same H H' → H' b' = some (.tup ((ls.set p (ls.getD p 0 + 1)).map vN)) → Q (.ref b') H'
/-- so many rounds later: the lengths are as much more -/
def spLater : Sp := fun vs H Q _ => ∃ v c m, vs = [v, .int ((m : Nat) : Int)] ∧ Cat H v c ∧ CdOk c ∧ ∀ v' H', Same H H' → Cat H' v' (c.1, c.2.map (· + m * c.2.length)) → Q v' H'
def spTill : Sp := fun vs H Q _ => ∃ p : Nat, vs = [.int (p : Int)] ∧ 1 ≤ p ∧ p ≤ 12 ∧ Q (.int (((p - 1) * (p - 1) + 1 : Nat) : Int)) H
def spNext : Sp := fun vs H Q _ => ∃ v c, vs = [v] ∧ Cat H v c ∧ CdOk c ∧ ∀ v' H', Same H H' → Cat H' v' (nx c) → Q v' H'
end
end Lk
end
section
set_option maxRecDepth 100000
set_option maxHeartbeats 2000000
namespace Lk
open PySem PySem.Spec PyProof.Rows L2
theorem it_cdOk {c : Cd} (n : Nat) (h : CdOk c) : CdOk (it n c) := ⟨it_ok n h.1, by rw [it_len]; exact h.2⟩
theorem nx_cdOk {c : Cd} (h : CdOk c) : CdOk (nx c) := it_cdOk 1 h
theorem dW_at {H : Hp} {t : Addr} {a b : Nat} (e : H t = some (.tup [.int (a : Int), .int (b : Int)])) : Th H (.ref t) (dW (a, b)) := .tup e (.cons (.int _) (.cons (.int _) .nil))
section
variable {P : Program} {w : World} {K : PySem.W.Frag} {mg : Str → Option Value} {base : Heap}
/-- NoCoder, then NoCount of a number beyond m; else what is told of the coder and the number -/
def spOf (C1 C2 : Addr) (m : Nat) (told : Cd → Nat → VK → Hp → Prop) : Sp := fun vs H Q E => ∃ v u d e, vs = [v, u] ∧ Th H v d ∧ Th H u e ∧ (isCd d = false → ∀ H', Same H H' → E (.ref C1) none H') ∧
  (isCd d = true → inR e 0 m = false → ∀ H', Same H H' → E (.ref C2) none H') ∧ (∀ c (n : Nat), d = cdD c → CdOk c → e = .int n → n ≤ m → told c n Q H)
def toldWords (c : Cd) (n : Nat) (Q : VK) (H : Hp) : Prop := ∀ p H' ws, H p = none → Same H H' → H' p = some (.lst ws) → ThAll H' ws ((wds n c).map dW) → Q (.ref p) H'
def toldCoder (c : Cd) (n : Nat) (Q : VK) (H : Hp) : Prop := ∀ v H', Same H H' → Cat H' v (it n c) → Q v H'
theorem count_of {e : PyData} {m : Nat} (h : inR e 0 m = true) : ∃ n : Nat, e = .int n ∧ n ≤ m := by
  cases e with
  | int i =>
    have z : (decide ((0 : Int) ≤ i) && decide (i ≤ (m : Int))) = true := h
    rw [Bool.and_eq_true, decide_eq_true_eq, decide_eq_true_eq] at z
    exact ⟨i.toNat, by rw [Int.toNat_of_nonneg z.1], by omega⟩
  | _ => cases h
end
end Lk
end
section
set_option maxRecDepth 100000
set_option maxHeartbeats 2000000
/-! last_goings, ring_from, ring. -/
namespace Lk
open PySem PySem.Spec PyProof.Rows L2
def gos (c : Cd) : List Nat := (List.range c.2.length).map (go c)
theorem gos_len (c : Cd) : (gos c).length = c.2.length := by
  unfold gos
  rw [List.length_map, List.length_range]
theorem gos_at {c : Cd} {i : Nat} (h : i < c.2.length) : (gos c)[i]? = some (go c i) := by
  unfold gos
  rw [List.getElem?_map, List.getElem?_range h]
  rfl
theorem inV_nat (k : Nat) : ∀ l : List Nat, inV (vN k) (l.map vN) = decide (k ∈ l)
  | [] => rfl
  | x :: l => by
    show ((x : Int) == (k : Int) || inV (vN k) (l.map vN)) = _
    rw [inV_nat k l]
    by_cases e : k = x
    · rw [e, decide_eq_true List.mem_cons_self, beq_self_eq_true, Bool.true_or]
    · have e2 : ((x : Int) == (k : Int)) = false := beq_eq_false_iff_ne.mpr fun z => e (by omega)
      rw [e2, Bool.false_or]
      by_cases m : k ∈ l
      · rw [decide_eq_true m, decide_eq_true (List.mem_cons_of_mem _ m)]
      · rw [decide_eq_false m, decide_eq_false fun z => (List.mem_cons.mp z).elim e m]
theorem flat_nat : ∀ l : List Nat, (l.map vN).all flatV = true
  | [] => rfl
  | x :: l => by
    rw [List.map_cons, List.all_cons, flat_nat l]
    rfl
section
variable {P : Program} {w : World} {K : PySem.W.Frag} {mg : Str → Option Value} {base : Heap}
def spLast : Sp := fun vs H Q _ => ∃ v c, vs = [v] ∧ Cat H v c ∧ CdOk c ∧ ∀ p H', H p = none → Same H H' → H' p = some (.lst ((gos c).map vN)) → Q (.ref p) H'
/-- a list of places, new, or None -/
def ListV (H H' : Hp) (v : V) : Option (List Nat) → Prop
  | none => v = .non
  | some l => ∃ p, v = .ref p ∧ H p = none ∧ H' p = some (.lst (l.map vN))
def spRingFrom : Sp := fun vs H Q _ => ∃ (v : V) (c : Cd) (a : Nat), vs = [v, .int (a : Int)] ∧ Cat H v c ∧ CdOk c ∧ a < c.2.length ∧ ∀ r v' H', RingFrom c a r → Same H H' → ListV H H' v' r → Q v' H'
theorem ringL_one (c : Cd) (a : Nat) : ringL c a 1 = [a] := rfl
theorem ringL_len (c : Cd) (a k : Nat) : (ringL c a k).length = k := by
  unfold ringL
  rw [List.length_map, List.length_range]
end
end Lk
end
section
set_option maxRecDepth 100000
set_option maxHeartbeats 2000000
/-! ring, in_round, enter_round, ahead, round_of. -/
namespace Lk
open PySem PySem.Spec PyProof.Rows L2
theorem bl_iff {b : Bool} {A : Prop} (h : b = true ↔ A) : ∀ {a : Bool}, (a = true ↔ A) → a = b := fun {a} g => by
  cases a with
  | true => exact (h.mpr (g.mp rfl)).symm
  | false =>
    cases b with
    | false => rfl
    | true => exact absurd (g.mpr (h.mp rfl)) Bool.false_ne_true
theorem cdD_inj {x y : Cd} (e : cdD x = cdD y) : x = y := by
  unfold cdD at e
  injection e with e
  injection e with e1 e
  injection e with e2 _
  injection e1 with e1
  injection e2 with e2
  refine Prod.ext (by omega) ?_
  refine List.map_inj_right (f := dN) (fun a b h => ?_) |>.mp e2
  injection h with h
  omega
theorem dW_of {H : Hp} {v : V} {x : Nat × Nat} (h : Th H v (dW x)) : ∃ t, v = .ref t ∧ H t = some (.tup [.int (x.1 : Int), .int (x.2 : Int)]) := by
  cases h with
  | tup e m =>
    cases m with
    | cons a m =>
      cases m with
      | cons b m =>
        cases m
        cases a
        cases b
        exact ⟨_, rfl, e⟩
theorem ListV.at {H H1 H2 : Hp} {v : V} {r : Option (List Nat)} (s : Same H1 H2) (h : ListV H H1 v r) : ListV H H2 v r := by
  cases r with
  | none => exact h
  | some l =>
    obtain ⟨p, e, n, q⟩ := h
    exact ⟨p, e, n, s _ _ q⟩
theorem ListV.from {H H1 H2 : Hp} {v : V} {r : Option (List Nat)} (s : Same H H1) (h : ListV H1 H2 v r) : ListV H H2 v r := by
  cases r with
  | none => exact h
  | some l =>
    obtain ⟨p, e, n, q⟩ := h
    exact ⟨p, e, s.free n, q⟩
section
variable {P : Program} {w : World} {K : PySem.W.Frag} {mg : Str → Option Value} {base : Heap}
/-- NoCoder of what is none; else what is told of the coder -/
def spOne (C : Addr) (told : Cd → VK → Hp → Prop) : Sp := fun vs H Q E => ∃ v d, vs = [v] ∧ Th H v d ∧ (isCd d = false → ∀ H', Same H H' → E (.ref C) none H') ∧ (∀ c, d = cdD c → CdOk c → told c Q H)
def toldRing (c : Cd) (Q : VK) (H : Hp) : Prop := ∀ r v H', RingOf c r → Same H H' → ListV H H' v r → Q v H'
def toldIn (c : Cd) (Q : VK) (H : Hp) : Prop := ∀ b H', (b = true ↔ Free c) → Same H H' → Q (.bl b) H'
def toldEnter (c : Cd) (Q : VK) (H : Hp) : Prop := ∀ n v p H', Ahead c n → Same H H' → Cat H' v (it n c) → H' p = some (.tup [.int (n : Int), v]) → Q (.ref p) H'
def toldAhead (c : Cd) (Q : VK) (H : Hp) : Prop := ∀ (n : Nat) H', Ahead c n → Same H H' → Q (.int (n : Int)) H'
def toldRound (c : Cd) (Q : VK) (H : Hp) : Prop := ∀ n p H' ws, Ahead c n → H p = none → Same H H' → H' p = some (.lst ws) → ThAll H' ws ((wds (c.2.length * c.2.length) (it n c)).map fun x => dW (x.1, x.2 % c.2.length)) → Q (.ref p) H'
end
end Lk
end
section
set_option maxRecDepth 100000
set_option maxHeartbeats 2000000
/-! A lambda with one parameter, handed to a def, and by that to a second one. -/
namespace Lk
open PySem PySem.Spec PyProof.Rows L2 LamX NdefX
section
variable {X : Cx} {pins : List (Addr × Obj)} {σ : L2.St} {H : Hp} {s : Shared}
/-- from the running frame's state on is from its entry on -/
theorem un_push (I : Inv X pins σ H s) (hex : X.ex = []) {H2 : Hp} {s2 : Shared} (u : Un (frs X.stack) [] H H2 s.heap s2.heap) : Un X.fs [] X.H_0 H2 X.s_0.heap s2.heap := by
  have base := I.base
  rw [hex] at base
  have sub : ∀ b ∈ X.fs, b ∈ frs X.stack := fun b hb => by
    rcases I.ok.stk with e | ⟨e, f⟩
    · rw [e]; exact hb
    · rw [e]
      show b ∈ List.filterMap _ (_ :: _)
      rw [List.filterMap_cons, f]
      exact List.mem_cons_of_mem _ hb
  have nin : ∀ b o, X.s_0.heap.get? b = some o → b ∉ X.fs → b ∉ frs X.stack := fun b o e hb z => by
    rcases I.ok.stk with e2 | ⟨e2, f⟩
    · rw [e2] at z; exact hb z
    · rw [e2] at z
      have z2 : b ∈ List.filterMap (·.frame) (X.env :: X.outer) := z
      rw [List.filterMap_cons, f] at z2
      rcases List.mem_cons.mp z2 with z3 | z3
      · have a := I.ok.above
        have l := Heap.lt_size e
        rw [z3] at l
        exact Nat.lt_irrefl _ (Nat.lt_of_lt_of_le l a)
      · exact hb z3
  refine ⟨fun b o e n hf hx => ?_, fun b o e n hf hx => ?_, fun b o e n hx => ?_, fun b o e hx => ?_, fun b xs e => u.tups b xs (base.tups b xs e), fun b o v e => u.frzs b o v (base.frzs b o v e), fun b ps e => ?_⟩
  · exact u.keep b o (base.keep b o e n hf hx) (base.free b o e n hx) (nin b o e hf) hx
  · obtain ⟨sl, e1⟩ := base.slot b o e n hf hx
    obtain ⟨sl2, e2⟩ := u.slot b _ e1 (base.free b o e n hx) (sub b hf) hx
    exact ⟨sl2, e2⟩
  · obtain ⟨o2, e1⟩ := base.there b o e hx
    exact u.free b o2 e1 (base.free b o e n hx) hx
  · obtain ⟨o2, e1⟩ := base.there b o e hx
    exact u.there b o2 e1 hx
  · obtain ⟨m1, e1⟩ := base.tbls b ps e
    obtain ⟨m2, e2⟩ := u.tbls b _ e1
    exact ⟨m1 ++ m2, by rw [← Array.append_assoc]; exact e2⟩
end
theorem vals_snoc {v : V} : ∀ {vs : List V} {us : List Value}, Vals (vs ++ [v]) us → ∃ us' u, us = us' ++ [u] ∧ Vals vs us' ∧ L2.RelV v u
  | [], _, .cons r .nil => ⟨[], _, rfl, .nil, r⟩
  | _ :: _, _, .cons r m => by
    obtain ⟨us', u, e, a, b⟩ := vals_snoc m
    exact ⟨_ :: us', u, by rw [e]; rfl, .cons r a, b⟩
abbrev TL := V → Hp → VK → Prop
/-- f, called with one thing from s0 on, does as tl tells -/
structure Acts (P : Program) (w : World) (K : PySem.W.Frag) (mg : Str → Option Value) (base : Heap) (fs : List Addr) (k : Nat) (f : Addr) (tl : TL) (s0 : Shared) (H0 : Hp) : Prop where
  fn : ∀ (s : Shared) (H : Hp), Un fs [] H0 H s0.heap s.heap → PySem.W.FnAt f s.heap
  run : ∀ (A : Around) (outer : List Env) (s : Shared) (H : Hp) (u : Value) (v : V) (Q : VK), Room k A → Env0 P w K mg base A outer s H → Un fs [] H0 H s0.heap s.heap → RelV v u → tl v H Q → codeAny (model P w) A (.call (.ref f) ⟨[u], []⟩) (CR C8.CX0 outer P w H s Q C8.E0) s
theorem Acts.later {X : Cx} {pins : List (Addr × Obj)} {σ : L2.St} {H : Hp} {s : Shared} {k : Nat} {f : Addr} {tl : TL} (a : Acts X.prog X.w X.K X.mg X.base X.fs k f tl X.s_0 X.H_0) (I : Inv X pins σ H s) (hex : X.ex = []) : Acts X.prog X.w X.K X.mg X.base (frs X.stack) k f tl s H :=
  ⟨fun s2 H2 u => a.fn s2 H2 (un_push I hex u), fun A outer s2 H2 u v Q hr e0 un r q => a.run A outer s2 H2 u v Q hr e0 (un_push I hex un) r q⟩
theorem Acts.imp {P : Program} {w : World} {K : PySem.W.Frag} {mg : Str → Option Value} {base : Heap} {fs : List Addr} {k : Nat} {f : Addr} {tl tl' : TL} {s0 : Shared} {H0 : Hp} (a : Acts P w K mg base fs k f tl s0 H0) (h : ∀ v H Q, tl' v H Q → tl v H Q) : Acts P w K mg base fs k f tl' s0 H0 :=
  ⟨a.fn, fun A outer s H u v Q hr e0 un r q => a.run A outer s H u v Q hr e0 un r (h _ _ _ q)⟩
theorem Acts.mono {P : Program} {w : World} {K : PySem.W.Frag} {mg : Str → Option Value} {base : Heap} {fs : List Addr} {j k : Nat} {f : Addr} {tl : TL} {s0 : Shared} {H0 : Hp} (a : Acts P w K mg base fs j f tl s0 H0) (h : j ≤ k) : Acts P w K mg base fs k f tl s0 H0 :=
  ⟨a.fn, fun A outer s H u v Q hr => a.run A outer s H u v Q (hr.mono h)⟩
section
variable {X : Cx} {j k i : Nat} {f : Addr} {tl : TL} {a x : Str} {e : Expr} {t : TA} {p p2 pos : Pos}
/-- a(e), in the def that got it -/
theorem pe_actA (act : Acts X.prog X.w X.K X.mg X.base X.fs k f tl X.s_0 X.H_0) (hex : X.ex = []) (hr : Room j X.A) (hk : k ≤ j) (hN : X.N[i]? = some a) (hv : Vis X.env.scope a) (ha : PA X [e] t)
    (hd : (a == ("__debug__" : Str)) = false := by decide) (hcd : (a == ("__classdict__" : Str)) = false := by decide)
    (he : starEach [e] X.env = (false, eval e X.env) :: starEach [] X.env := by rfl) (hpl : (backTo pos (starEach [] X.env)).any (·.1) = false := by rfl) :
    PE X (.Call (.Name a p) [e] [] pos) (fun σ H Q => σ[i]? = some (some (.ref f)) ∧ t σ H fun vs H1 => ∃ v, vs = [v] ∧ tl v H1 Q) := by
  refine ⟨fun pins s σ H Q I h => ?_⟩
  obtain ⟨hs, ht⟩ := h
  refine wpAny_Call_Name_kw (thn ((pe_var (pos := p) hN hv hd hcd).run pins s σ H (fun v H1 => v = .ref f ∧ H1 = H) I ⟨.ref f, hs, rfl, rfl⟩) fun u s1 ⟨v, H1, I1, r1, q1⟩ => ?_)
  obtain ⟨ev, eH⟩ := q1
  subst ev
  rw [eH] at I1
  obtain rfl : u = Value.ref f := r1
  refine PySem.W.callWith_F (first := []) ((act.later I1 hex).fn _ _ Un.refl) (thn (ha.run pos pins s1 σ H _ I1 ht) fun us s2 ⟨vs, H2, I2, r, v, ev, q⟩ => ⟨(act.later I2 hex).fn _ _ Un.refl, ?_⟩) he hpl
  subst ev
  cases r with
  | cons r1 r2 =>
    cases r2
    show wpAny _ _ (call (.ref f) [_]) _ _ _
    refine wpAny_call (codeAny_mono ((act.later I2 hex).run X.A X.stack s2 H2 _ v Q (hr.mono hk) I2.env0 Un.refl r1 q) fun r s' hq => ?_)
    cases r with
    | error e => exact (show False from hq).elim
    | ok fl =>
      cases fl with
      | ret u => exact I2.after hq
      | next => exact False.elim hq
      | brk => exact False.elim hq
      | cont => exact False.elim hq
end
/-- a def whose last argument is such a function -/
structure CalA (P : Program) (w : World) (K : PySem.W.Frag) (mg : Str → Option Value) (base : Heap) (ka k : Nat) (x : Str) (sp : TL → List V → Hp → VK → Prop) : Prop where
  ex : ∃ g, mg x = some (.ref g) ∧ PySem.W.keepIn K (.ref g) = true ∧ ∀ (A : Around) (outer : List Env) (s : Shared) (H : Hp) (us : List Value) (vs : List V) (f : Addr) (tl : TL) (Q : VK), Room k A → Env0 P w K mg base A outer s H → Acts P w K mg base (frs outer) ka f tl s H →
    Vals vs us → sp tl vs H Q → codeAny (model P w) A (.call (.ref g) ⟨us ++ [.ref f], []⟩) (CR C8.CX0 outer P w H s Q C8.E0) s
theorem calA_of {P : Program} {w : World} {K : PySem.W.Frag} {mg : Str → Option Value} {base : Heap} {ka k : Nat} {x qual : Str} {st : Stmt} {g : Addr} {fd : FuncData} {N ps : List Str} {sp : TL → List V → Hp → VK → Prop} (KX : K.In base) (F : Fun K x qual st g fd) (S : FnScope N ps (defScope st)) (gx : mg x = some (.ref g)) (bd : Binds K fd ps [])
    (len : ∀ tl vs H Q, sp tl vs H Q → vs.length + 1 = ps.length)
    (hbody : ∀ (cdv : Value) (A : Around) (outer : List Env) (s : Shared) (H : Hp) (vs : List V) (f : Addr) (tl : TL) (Q : VK), Acts P w K mg base (frs outer) ka f tl s H → Room k (A.deeper (envOfC qual (defScope st) s.heap.objs.size g cdv)) → sp tl vs H Q →
      ∃ t, PSs (cxOf C8.CX0 P w K mg base N qual (defScope st) g cdv A outer s H C8.E0).nox (defBody st) t ∧ t { nx := fun _ H' => Q .non H', rt := Q } (L2.start N (vs ++ [.ref f])) H) : CalA P w K mg base ka (k + 1) x sp := by
  obtain ⟨oc, od, kV, doc, pm, an, cdv, ct, osl, rfl, lk, hcd⟩ := F.ex
  refine ⟨g, gx, F.kp, fun A outer s H us vs f tl Q hr e0 act r hsp => ?_⟩
  have hl := len _ _ _ _ hsp
  have hul : us.length = vs.length := r.length.symm
  have hus : (us ++ [Value.ref f] ++ []).length = ps.length := by
    rw [List.append_nil, List.length_append, hul]
    exact hl
  have bt := bd s (us ++ [.ref f]) (e0.mod.kin.keeps fun b o e => (e0.bs b o e).1) hus
  rw [List.append_nil] at bt
  refine run_ofS (N := N) (ps := ps) (us := us ++ [.ref f]) (vs := vs ++ [.ref f]) lk hcd S hr e0 bt (Vals.append r (.cons (show L2.RelV (V.ref f) (Value.ref f) from rfl) .nil)) (by rw [List.length_append]; exact hl) fun hr' => ?_
  obtain ⟨t, h, q⟩ := hbody cdv A outer s H vs f tl Q act hr' hsp
  exact ⟨t, h.nox, q⟩
section
variable {X : Cx} {j k ka : Nat} {f : Addr} {tl : TL} {x : Str} {e : Expr} {es : List Expr} {t : TA} {p pos : Pos} {sp : TL → List V → Hp → VK → Prop}
theorem call_end {pins : List (Addr × Obj)} {σ : L2.St} {H : Hp} {s : Shared} {Q : VK} {c : Code} (I : Inv X pins σ H s) (h : codeAny (model X.prog X.w) X.A c (CR C8.CX0 X.stack X.prog X.w H s Q C8.E0) s) :
    codeAny (model X.prog X.w) X.A c (fun r s' => match r with | .ok (.ret u) => EP X pins σ Q u s' | .ok _ => False | .error e => X.xe e s') s := codeAny_mono h fun r s' hq => by
  cases r with
  | error e => exact (show False from hq).elim
  | ok fl =>
    cases fl with
    | ret u => exact I.after hq
    | next => exact False.elim hq
    | brk => exact False.elim hq
    | cont => exact False.elim hq
/-- x(e, a), a the function got -/
theorem pe_passA (c : CalA X.prog X.w X.K X.mg X.base ka k x sp) (act : Acts X.prog X.w X.K X.mg X.base X.fs ka f tl X.s_0 X.H_0) (hex : X.ex = []) (hr : Room j X.A) (hk : k ≤ j) (hg : Gl X x) (ha : PA X (e :: es) t)
    (hdb : (x == ("__debug__" : Str)) = false := by decide) (he : starEach (e :: es) X.env = (false, eval e X.env) :: starEach es X.env := by rfl) (hpl : (backTo pos (starEach es X.env)).any (·.1) = false := by rfl) :
    PE X (.Call (.Name x p) (e :: es) [] pos) (fun σ H Q => t σ H fun vs H1 => ∃ vs', vs = vs' ++ [.ref f] ∧ sp tl vs' H1 Q) := by
  obtain ⟨g, hm, kp, F⟩ := c.ex
  refine ⟨fun pins s σ H Q I ht => ?_⟩
  refine wpAny_Call_Name_kw (ld_glob I hg hm ?_ hdb)
  refine PySem.W.callWith_K (h₀ := X.base) I.ok.mod.kin kp (thn (ha.run pos pins s σ H _ I ht) fun us s1 ⟨vs, H1, I1, r, vs', ev, q⟩ => ⟨I1.kIn, ?_⟩) he hpl
  subst ev
  obtain ⟨us', u2, rfl, r1, r2⟩ := vals_snoc r
  obtain rfl := (show _ = Value.ref f from r2)
  exact wpAny_call (call_end I1 (F X.A X.stack s1 H1 us' vs' f tl Q (hr.mono hk) I1.env0 (act.later I1 hex) r1 q))
end
/-! ### the lambda -/
section
variable {X : Cx} {pins : List (Addr × Obj)} {σ : L2.St} {H : Hp} {s : Shared} {N fr : List Str} {x : Str} {scope : Scope} {body : Expr} {params : Arguments} {cl : List (Str × Addr)} {ws : List (Option V)} {k : Nat} {q : Str}
theorem CellsAt.un {fs : List Addr} {H2 : Hp} {s2 : Shared} (C : CellsAt cl fr ws s.heap H) (u : Un fs [] H H2 s.heap s2.heap) : CellsAt cl fr ws s2.heap H2 := by
  have kp : ∀ y c, cl.lookup y = some c → ∀ v, s.heap.IsCell c v → s2.heap.IsCell c v := fun y c e v ⟨o, ho, hd⟩ => by
    obtain ⟨sl, e2⟩ := u.any ho (C.all y c e).1 (by simp)
    exact ⟨_, e2, hd⟩
  refine ⟨C.len, fun y c e => ?_, C.inj, fun i y e => ?_⟩
  · obtain ⟨n, v, z⟩ := C.all y c e
    refine ⟨?_, v, kp y c e v z⟩
    obtain ⟨o, ho, _⟩ := z
    exact u.free c o ho n (by simp)
  · obtain ⟨c, hc, hv⟩ := C.has i y e
    refine ⟨c, hc, fun v ev => ?_⟩
    obtain ⟨u2, r, z⟩ := hv v ev
    exact ⟨u2, r, kp y c hc _ z⟩
abbrev lamNF (q : Str) (params : Arguments) (scope : Scope) (cl : List (Str × Addr)) (c' : Addr) : NF := ⟨"<lambda>", q, params, [], scope, cl, c'⟩
/-- what the lambda does -/
def tlOf (c' : Addr) (q : Str) (tl : TL) : TL := fun v H Q => H c' = some (CodeO c' q) ∧ tl v H Q
theorem acts_made {P : Program} {w : World} {K : PySem.W.Frag} {mg : Str → Option Value} {base : Heap} {fs : List Addr} {f c' : Addr} {pm ctv : Value} {tl : TL} (hf : s.heap.get? f = some (PySem.W.kla_obj "<lambda>" q params body scope cl pm c' ctv)) (hfn : H f = none) (hfr : f ∉ fs) (C : CellsAt cl fr ws s.heap H) (S : NScope N [x] fr scope)
    (hbind : ∀ (cv : Value) (u : Value), bindArgs (PySem.W.kla_fn "<lambda>" q params body scope cl pm cv ctv) ⟨[u], []⟩ = pure [(x, u)])
    (hbody : ∀ (A : Around) (outer : List Env) (s : Shared) (H : Hp) (v : V) (Q : VK), Room k (A.deeper (envF (lamNF q params scope cl c') f s.heap.objs.size)) → tl v H Q → ∃ te, PE (ncx C8.CX0 P w K mg base N (lamNF q params scope cl c') f A outer s H C8.E0) body te ∧ te (startF N [v] ws) H Q) :
    Acts P w K mg base fs (k + 1) f (tlOf c' q tl) s H := by
  refine ⟨fun s2 H2 u => ⟨_, _, _, _, u.keep f _ hf hfn hfr (by simp)⟩, fun A outer s2 H2 u v Q hr e0 un r ⟨hc, ht⟩ => ?_⟩
  have of1 := un.keep f _ hf hfn hfr (by simp)
  obtain ⟨⟨oc, vs, t, hoc, hdc, hvc⟩, _, _⟩ := e0.hok c' _ hc
  have lim : s2.heap.NoLimit := e0.mod.nolimit.keeps fun b o e => (e0.bs b o e).1
  refine PySem.W.kla_callFunE hr.depth of1 rfl S.co S.gen rfl ⟨c', oc, vs, t, rfl, hoc, hdc, hvc⟩ ?_
  rw [hbind]
  refine wpAny_pure (wpAny_newFunctionEnv S.nocell (fun y hy => ?_) (fun h₁ hns hsb => ⟨lim.fresh _ hsb, ?_⟩) S.kind)
  · have e : y = (x, u) := List.mem_singleton.mp hy
    rw [e]
    exact S.par x (List.mem_singleton.mpr rfl)
  show codeAny _ _ (.expr body (envF (lamNF q params scope cl c') f s2.heap.objs.size)) _ _
  have kp : ∀ b o, s2.heap.get? b = some o → h₁.get? b = some o := fun b o e => hsb.extBut b o (Nat.ne_of_lt (Heap.lt_size e)) (Heap.get?_push_of_some _ e)
  obtain ⟨te, hp, hq⟩ := hbody A outer s2 H2 v Q (hr.deeper _) ht
  have J : Inv (ncx C8.CX0 P w K mg base N (lamNF q params scope cl c') f A outer s2 H2 C8.E0) [] (startF N [v] ws) H2 { s2 with heap := h₁, toks := s2.toks + ([(x, u)] : List (Str × Value)).length } :=
    inv_startN (ps := [x]) (us := [u]) S hr.hd e0 rfl (.cons r .nil) (CellsAt.un C un) hns kp
  refine PySem.W.kla_codeExpr (wpAny_mono (hp.run [] _ _ H2 Q J hq) (fun v s' hq => ?_) fun e s' hq => hq)
  obtain ⟨w', H', J', rv, q'⟩ := hq
  exact ⟨w', H', J'.os, J'.bare, J'.base, J'.hok, rv, q'⟩
end
section
variable {X : Cx} {j k ka kb : Nat} {x y : Str} {e : Expr} {te : TE} {p lpos pos : Pos} {sp : TL → List V → Hp → VK → Prop} {T : List (Addr × Str)} {c P : Addr} {params : Arguments} {body : Expr} {scope : Scope} {N fr : List Str} {js : List Nat} {tl : List (Option V) → TL}
/-- x(e, lambda y: body) -/
theorem pe_lamA (cx : CalA X.prog X.w X.K X.mg X.base ka k x sp) (hr : Room j X.A) (hk : k ≤ j) (hka : kb + 1 ≤ ka) (hg : Gl X x) (he1 : PE X e te)
    (TB : TabB X.base X.mg c P) (hcode : X.env.code = .ref c) (hmT : (P, X.env.qual ++ "<lambda>") ∈ T) (hu : ∀ p ∈ T, p.1 = P → p.2 = X.env.qual ++ "<lambda>") (hdef : defaultsOf params X.env = ([], []))
    (hnd : ndefB X.env.scope scope fr = true) (hjs : js.map (fun j => X.N[j]?) = fr.map some) (S : NScope N [y] fr scope)
    (hbind : ∀ (q : Str) (cl : List (Str × Addr)) (pm cv ctv u : Value), bindArgs (PySem.W.kla_fn "<lambda>" q params body scope cl pm cv ctv) ⟨[u], []⟩ = pure [(y, u)])
    (hbody : ∀ (ws : List (Option V)) (f c' : Addr) (cl : List (Str × Addr)) (A : Around) (outer : List Env) (s : Shared) (H : Hp) (v : V) (Q : VK), Room kb (A.deeper (envF (lamNF (X.env.qual ++ "<lambda>") params scope cl c') f s.heap.objs.size)) → tl ws v H Q →
      ∃ te, PE (ncx C8.CX0 X.prog X.w X.K X.mg X.base N (lamNF (X.env.qual ++ "<lambda>") params scope cl c') f A outer s H C8.E0) body te ∧ te (startF N [v] ws) H Q)
    (hdb : (x == ("__debug__" : Str)) = false := by decide) (he : starEach [e, .Lambda params body scope lpos] X.env = (false, eval e X.env) :: starEach [.Lambda params body scope lpos] X.env := by rfl) (hpl : (backTo pos (starEach [.Lambda params body scope lpos] X.env)).any (·.1) = false := by rfl) :
    PE X (.Call (.Name x p) [e, .Lambda params body scope lpos] [] pos) (fun σ H Q => te σ H fun v H1 => Tabs T H1 ∧ ∀ (c' : Addr) (H2 : Hp), ExtN H1 H2 → Tabs T H2 → H2 c' = some (CodeO c' (X.env.qual ++ "<lambda>")) → sp (tlOf c' (X.env.qual ++ "<lambda>") (tl (js.map (slotAt σ)))) [v] H2 Q) := by
  obtain ⟨g, hm, kp, F⟩ := cx.ex
  refine ⟨fun pins s σ H Q I ht => ?_⟩
  refine wpAny_Call_Name_kw (ld_glob I hg hm ?_ hdb)
  have hfree := ndef_free hnd
  have hfc : ∀ y ∈ scope.names, y.2 = .free → ∃ c, X.env.cells.lookup y.1 = some c := fun y hy e => (hfree y hy e).elim (fun z => I.ok.has _ (.inl z)) fun z => I.ok.has _ (.inr z)
  refine PySem.W.callWith_K (h₀ := X.base) I.ok.mod.kin kp ?_ he hpl
  rw [he, show starEach [.Lambda params body scope lpos] X.env = (false, eval (.Lambda params body scope lpos) X.env) :: starEach [] X.env from rfl]
  show wpAny _ _ (spliced ((false, eval e X.env) :: (false, eval (.Lambda params body scope lpos) X.env) :: backTo pos (starEach [] X.env))) _ _ s
  refine Calls.spliced_cons (thn (he1.run pins s σ H _ I ht) fun u1 s1 ⟨v, H1, I1, r1, hT, q⟩ => ?_)
  refine Calls.spliced_cons (lam_make2 I1 TB hcode hmT hu hT hdef hfc fun f c' pm' ctv H2 s2 I2 eN T2 hf hfn hfr hco => ?_)
  refine Calls.spliced_nil ⟨I2.kIn, ?_⟩
  have C : CellsAt (cloFrom X.env.cells scope.names []) fr (js.map (slotAt σ)) s2.heap H2 := cells_of I2 (Caps.made I2.ok hfree (ndef_fr hnd) hjs)
  have act := acts_made (P := X.prog) (w := X.w) (K := X.K) (mg := X.mg) (base := X.base) (fs := frs X.stack) (tl := tl (js.map (slotAt σ))) hf hfn hfr C S (fun cv u => hbind _ _ _ _ _ _) (hbody _ _ _ _)
  exact wpAny_call (call_end I2 (F X.A X.stack s2 H2 [u1] [v] f _ Q (hr.mono hk) I2.env0 (act.mono hka) (.cons r1 .nil) (q c' H2 eN T2 hco)))
end
end Lk
end
section
set_option maxRecDepth 100000
set_option maxHeartbeats 2000000
/-! A caught error that a name keeps behind its suite; isinstance of it. -/
namespace Lk
open PySem PySem.Spec PyProof.Rows L2
/-- an error's object of the class cls, its own dict at d, caught before -/
def ExT (cls : Value) (d : Option Addr) (a : Addr) : HO := .ext fun h => ∃ (oe : Obj) (vs : Array Value), h.get? a = some oe ∧ Zc cls d oe ∧ oe.data = .fields vs
theorem exT_ok {P : Program} {w : World} {H : Hp} {h : Heap} {a : Addr} {cls : Value} {d : Option Addr} {oe : Obj} {vs : Array Value} (e : h.get? a = some oe) (z : Zc cls d oe) (hd : oe.data = .fields vs) : ObjOk P w H h a (ExT cls d a) :=
  ⟨⟨oe, vs, e, z, hd⟩, ⟨oe, e⟩, fun _ _ ⟨o, v, q, r⟩ k => ⟨o, v, k o q, r⟩⟩
section
variable {X : Cx} {pins : List (Addr × Obj)} {σ : L2.St} {H : Hp} {s : Shared}
/-- what is pinned and was made since the entry may be tracked -/
theorem tracked {a : Addr} {oe : Obj} {o : HO} (I : Inv X ((a, oe) :: pins) σ H s) (h0 : X.s_0.heap.get? a = none) (hp : ∀ p ∈ X.pn ++ pins, p.1 ≠ a) (new : ObjOk X.prog X.w (upd H a o) s.heap a o) : Inv X pins σ (upd H a o) s := by
  obtain ⟨ha, hn, nL, nF, nc⟩ := I.pin (a, oe) (List.mem_append.mpr (.inr List.mem_cons_self))
  refine ⟨I.ok, I.os, I.bare, ⟨I.base.keep, I.base.slot, fun b u e n hx => ?_, I.base.there, fun b xs e => ?_, fun b u xs e => ?_, fun b ps e => ?_⟩, I.loc, I.cell, ?_, fun x c e => ?_, fun p h => ?_, I.hok.laidN (fun _ _ e => e) hn new, I.len⟩
  · rw [upd_ne (fun z => by rw [z, h0] at e; cases e)]
    exact I.base.free b u e n hx
  · rw [upd_ne (ne_of_none (I.base.tups b xs e) hn)]
    exact I.base.tups b xs e
  · rw [upd_ne (ne_of_none (I.base.frzs b u xs e) hn)]
    exact I.base.frzs b u xs e
  · obtain ⟨m, q⟩ := I.base.tbls b ps e
    exact ⟨m, by rw [upd_ne (ne_of_none q hn)]; exact q⟩
  · rw [upd_ne nL.symm]
    exact I.free
  · rw [upd_ne (fun z => ?_)]
    · exact I.freeC x c e
    · obtain ⟨v, o', q1, q2⟩ := I.cell x c e
      have q3 : s.heap.get? a = some o' := by rw [← z]; exact q1
      rw [show s.heap.get? a = some oe from ha] at q3
      cases q3
      exact nc v q2
  · have hm : p ∈ X.pn ++ ((a, oe) :: pins) := by
      rcases List.mem_append.mp h with h | h
      · exact List.mem_append.mpr (.inl h)
      · exact List.mem_append.mpr (.inr (List.mem_cons_of_mem _ h))
    obtain ⟨q1, q2, q3⟩ := I.pin p hm
    exact ⟨q1, by rw [upd_ne (hp p h)]; exact q2, q3⟩
theorem unsuiteP {a : Addr} {q : Addr × Obj} (I : Inv (X.suite a (q :: (X.pn ++ pins))) [] σ H s) (ok : X.Ok) : Inv X (q :: pins) σ H s :=
  ⟨ok, I.os, I.bare, I.base, I.loc, I.cell, I.free, I.freeC, fun p hp => I.pin p (by
    rw [List.append_nil]
    show p ∈ q :: (X.pn ++ pins)
    rcases List.mem_append.mp hp with h | h
    · exact List.mem_cons_of_mem _ (List.mem_append.mpr (.inl h))
    · rcases List.mem_cons.mp h with e | h
      · rw [e]; exact List.mem_cons_self
      · exact List.mem_cons_of_mem _ (List.mem_append.mpr (.inr h))), I.hok, I.len⟩
end
/-- the wish of a clause that takes whatever comes, and behind which the error is kept -/
def wKeep (K : PySem.W.Frag) (c : Value) (i : Nat) (ts : Addr → Value → Option Addr → TS) (D : Ends) : WX := fun cls d σ H =>
  PySem.W.exmOne K cls c = some true ∧ ∀ a, H a = none → ts a cls d { nx := fun σ' H' => H' a = none → D.nx (σ'.set i none) (upd H' a (ExT cls d a)), rt := fun _ _ => False, bk := fun _ _ => False, ct := fun _ _ => False } (σ.set i (some (.ref a))) H
section
variable {X : Cx} {x n : Str} {c : Value} {i : Nat} {body suite : List Stmt} {b₀ : Stmt} {np pos pos' : Pos} {tb : WX → TS} {ts : Addr → Value → Option Addr → TS}
/-- what is known of an error that came down: its object where it landed, that it is new, that the frame's state stands -/
structure Down (X : Cx) (pins : List (Addr × Obj)) (a : Addr) (cls : Value) (d : Option Addr) (σ : L2.St) (H : Hp) (s : Shared) : Prop where
  st : Inv X pins σ H s
  ob : ∃ oe vs, s.heap.get? a = some oe ∧ Zc cls d oe ∧ oe.data = .fields vs
  nH : H a = none
  n0 : X.s_0.heap.get? a = none
  nP : ∀ p ∈ X.pn ++ pins, p.1 ≠ a
  nL : a ≠ X.env.locals
  nF : a ∉ X.fs
theorem down {pins : List (Addr × Obj)} {a : Addr} {B : Heap} {cls : Value} {d : Option Addr} {σ : L2.St} {H : Hp} {sI s' : Shared} {h : Heap} (hs : X.stack = X.env :: X.outer) (hf : X.env.frame = some X.env.locals) (hex : X.ex = [])
    (J : Inv X pins σ H sI) (nb : ∀ b o, sI.heap.get? b = some o → b ∉ frs X.stack → B.get? b = some o) (up : sI.heap.UpToSlots h) (os : s'.os = sI.os) (ag : AllBare s'.gens) (na : H a = none)
    (fl : HandSPX.FlyingZ B (X.env :: X.outer) a (Zc cls d) h) : Down X pins a cls d σ H { s' with heap := h } := by
  obtain ⟨oe, vs, he, hz, hd⟩ := fl.there
  have off : a ∉ frs (X.env :: X.outer) := fun hm => by
    obtain ⟨_, o, e, q⟩ := fl.2.2.1.mem hm
    have z : oe = o := Option.some.inj (he.symm.trans e)
    exact q vs (by rw [← z]; exact hd)
  have gone : sI.heap.get? a = none := by
    rcases e : sI.heap.get? a with _ | o
    · rfl
    · have z := nb a o e (by rw [hs]; exact off)
      rw [fl.2.1] at z
      cases z
  refine ⟨J.landed nb fl.1 up os ag, ⟨oe, vs, he, hz, hd⟩, na, ?_, fun p hp z => ?_, fun z => off ?_, fun hm => off ?_⟩
  · rcases e : X.s_0.heap.get? a with _ | o
    · rfl
    · obtain ⟨u, z⟩ := J.base.there a o e (by rw [hex]; exact fun z => nomatch z)
      rw [gone] at z
      cases z
  · have q := (J.pin p hp).1
    rw [z, gone] at q
    cases q
  · exact List.mem_filterMap.mpr ⟨X.env, List.mem_cons_self, by rw [hf, z]⟩
  · obtain ⟨e, he, q⟩ := List.mem_filterMap.mp hm
    exact List.mem_filterMap.mpr ⟨e, List.mem_cons_of_mem _ he, q⟩
/-- a body that ran through a try ran -/
theorem through {pins : List (Addr × Obj)} {xe : Value → Shared → Prop} {D : Ends} {s1 : Shared} (ok : X.Ok) : ∀ {f : Flow}, SP (X.tr (X.pn ++ pins) xe) [] D f s1 → SP X pins D f s1
  | .next, ⟨σ, H, J, q⟩ => ⟨σ, H, J.ofTry ok, q⟩
  | .brk, ⟨σ, H, J, q⟩ => ⟨σ, H, J.ofTry ok, q⟩
  | .cont, ⟨σ, H, J, q⟩ => ⟨σ, H, J.ofTry ok, q⟩
  | .ret _, ⟨v, σ, H, J, r, q⟩ => ⟨v, σ, H, J.ofTry ok, r, q⟩
/-- the suite runs, its name goes, the error is tracked from then on -/
theorem kept {pins : List (Addr × Obj)} {a : Addr} {cls : Value} {d : Option Addr} {σ : L2.St} {H : Hp} {s : Shared} {D : Ends} (ok : X.Ok) (hN : X.N.Nodup) (hi : X.N[i]? = some n) (hln : X.env.kindOf n = some .local)
    (hsu : ∀ (oe : Obj) (pn : List (Addr × Obj)), Zc cls d oe → (∃ vs, oe.data = .fields vs) → PSs (X.suite a ((a, oe) :: pn)) (b₀ :: suite) (ts a cls d)) (W : Down X pins a cls d σ H s)
    (h : ts a cls d { nx := fun σ' H' => H' a = none → D.nx (σ'.set i none) (upd H' a (ExT cls d a)), rt := fun _ _ => False, bk := fun _ _ => False, ct := fun _ _ => False } (σ.set i (some (.ref a))) H)
    {R : Flow → Shared → Prop} {E1 E2 : Value → Shared → Prop} (hR : ∀ s6, wpAny (model X.prog X.w) X.A (do bindName X.env n .none; unbindBehindTheSuite X.env n pos') (fun _ s7 => SP X pins D .next s7) X.xe s6 → R .next s6) :
    wpAny (model X.prog X.w) (X.A.mark (some (.ref a))) (storeName X.env n (.ref a)) (fun _ s5 => wpAny (model X.prog X.w) (X.A.mark (some (.ref a))) (execs (b₀ :: suite) X.env) R E2 s5) E1 s := by
  obtain ⟨oe, vs, he, hz, hd⟩ := W.ob
  have S := W.st.suite he hd W.nH W.nL W.nF
  refine store_ok (X := X.suite a ((a, oe) :: (X.pn ++ pins))) (v := .ref a) S hN hi (.inl hln) rfl (fun s5 S5 => ?_) (.inr hln)
  refine wpAny_mono ((hsu oe (X.pn ++ pins) hz ⟨_, hd⟩).run [] s5 _ H _ S5 h) (fun f s6 z => ?_) fun _ _ z => z.elim
  match f, z with
  | .next, ⟨σ6, H6, S6, q6⟩ =>
    refine hR s6 (gone_ok (unsuiteP S6 ok) hN hi hln fun s7 J7 => ?_)
    obtain ⟨p1, p2, _⟩ := J7.pin (a, oe) (List.mem_append.mpr (.inr List.mem_cons_self))
    exact ⟨_, _, tracked J7 W.n0 W.nP (exT_ok p1 hz hd), q6 p2⟩
  | .brk, ⟨_, _, _, q⟩ => exact q.elim
  | .cont, ⟨_, _, _, q⟩ => exact q.elim
  | .ret _, ⟨_, _, _, _, _, q⟩ => exact q.elim
theorem ps_try_keep (hs : X.stack = X.env :: X.outer) (hf : X.env.frame = some X.env.locals) (hex : X.ex = []) (hN : X.N.Nodup) (hi : X.N[i]? = some n) (hln : X.env.kindOf n = some .local) (hc : Names X x c)
    (hb : ∀ (W : WX) (pn : List (Addr × Obj)) (xe : Value → Shared → Prop), Takes (X.tr pn xe) W → PassesOwn (model X.prog X.w) X.A X.env xe → PSs (X.tr pn xe) body (tb W))
    (hsu : ∀ (a : Addr) (oe : Obj) (cls : Value) (d : Option Addr) (pn : List (Addr × Obj)), Zc cls d oe → (∃ vs, oe.data = .fields vs) → PSs (X.suite a ((a, oe) :: pn)) (b₀ :: suite) (ts a cls d)) :
    PS X (.Try body [.ExceptHandler (some (.Name x np)) (some n) (b₀ :: suite) pos'] [] [] pos) (fun D σ H => tb (wKeep X.K c i ts D) D σ H) := by
  refine ⟨fun pins s σ H D I h => wpAny_Try_except ?_⟩
  have hfr : X.A.frames = some (X.env :: X.outer) := I.ok.frames.trans (by rw [hs])
  refine wpAny_mono ((hb (wKeep X.K c i ts D) (X.pn ++ pins) _ (fun u s' xx => ?_) PassesOwn.looking).run [] s σ H D (I.toTry _) h) (fun f s1 z => ?_) (fun _ _ z => z)
  rotate_left
  · have z' := through I.ok z
    match f, z' with
    | .next, ⟨_, _, J, q⟩ => exact wpAny_execs_nil ⟨_, _, J, q⟩
    | .brk, z' => exact z'
    | .cont, z' => exact z'
    | .ret _, z' => exact z'
  · obtain ⟨a, B, sI, _, σ', H', cls, d, rfl, J', nb, up, sky, na, os, ag, hex1, hyes⟩ := xx
    have J : Inv X pins σ' H' sI := J'.ofTry I.ok
    rw [show (X.tr (X.pn ++ pins) _).stack = X.env :: X.outer from hs] at sky
    refine Sky.land Zc.steady hfr hf sky fun h3 fl3 up3 => ?_
    have W3 := down hs hf hex J nb (up.trans up3) os ag na fl3
    obtain ⟨oe, vs, he, hz, hd⟩ := W3.ob
    have S3 := W3.st.suite he hd na W3.nL W3.nF
    refine wpAny_handleBy_cons (codeAny_handlers_test ?_) fun q => nomatch q
    have look : PySem.W.Looks (model X.prog X.w) h3 (typeOf (.ref a)) cls := fun A Q E s k q => wpAny_typeOf_ref (k _ _ he) (by rw [hz.1]; exact q)
    have name : ∀ {Q : Value → Shared → Prop} {E : Value → Shared → Prop}, Q c { s' with heap := h3 } → wpAny (model X.prog X.w) (X.A.mark (some (.ref a))) (eval (.Name x np) X.env) Q E { s' with heap := h3 } := fun q => by
      rcases hc with ⟨k1, k2, k3 | ⟨k3, k4, k5⟩⟩
      · exact ld_glob S3 k1 k3 q k2
      · exact ld_blt S3 k1 k3 k4 q k5 k2
    refine name ((PySem.W.exm_one W3.st.kIn look hex1).here (codeAny_handlers_suite_as (HandSPX.lands_againZ fl3 fun h4 fl4 up4 => ?_)))
    exact kept I.ok hN hi hln (hsu a · cls d ·) (down hs hf hex J nb ((up.trans up3).trans up4) os ag na fl4) (hyes a na) (fun _ z => z)
end
/-! ### isinstance of such -/
section
variable {X : Cx}
/-- the class of such an error is known to be read rightly -/
theorem exT_at {pins : List (Addr × Obj)} {σ : L2.St} {H : Hp} {s : Shared} {a D : Addr} (I : Inv X pins σ H s) (ha : H a = some (ExT (.ref D) none a)) : ∃ oe, PySem.W.InstAt s.heap a oe D none := by
  obtain ⟨⟨oe, vs, he, hz, hd⟩, _⟩ := I.hok a _ ha
  refine ⟨oe, ?_⟩
  obtain ⟨oc, od, oda, osl⟩ := oe
  obtain ⟨h1, h2⟩ := hz
  dsimp only at h1 h2 hd
  subst h1 h2 hd
  exact ⟨he, rfl, rfl, trivial⟩
def rIsX (K : PySem.W.Frag) : List V → Hp → VK → Prop := fun xs H Q => ∃ (a D : Addr) (c : V) (u : Value) (b : Bool), xs = [.ref a, c] ∧ ExcC K D ∧ H a = some (ExT (.ref D) none a) ∧ ClsV c u ∧ PySem.W.kitOne K (.ref D) u = some b ∧ Q (.bl b) H
theorem call_isX : CallR X (.builtin "isinstance") (rIsX X.K) := by
  intro pins s σ H xs us Q I r h
  obtain ⟨a, D, c, u, b, rfl, C, ha, k, e, q⟩ := h
  obtain ⟨u1, u2, rfl, r1, r2⟩ := vals2 r
  have e2 := k.eq r2
  subst e2
  cases (show u1 = Value.ref a from r1)
  obtain ⟨oe, J⟩ := exT_at I ha
  exact PySem.W.kia_one (PySem.W.handS_kitx_exc C.hg C.hk C.hs C.hd C.ha C.hn C.ht C.hm) I.kIn J e (fun z => nomatch z) fun tk => ⟨.bl b, H, I.tok tk, rfl, q⟩
def rIsXT (K : PySem.W.Frag) : List V → Hp → VK → Prop := fun xs H Q => ∃ (a D tp : Addr) (cs : List V) (us : List Value) (b : Bool), xs = [.ref a, .ref tp] ∧ ExcC K D ∧ H a = some (ExT (.ref D) none a) ∧ H tp = some (.tup cs) ∧ Paired ClsV cs us ∧ PySem.W.kitAny K (.ref D) us = some b ∧ Q (.bl b) H
theorem call_isXT : CallR X (.builtin "isinstance") (rIsXT X.K) := by
  intro pins s σ H xs us Q I r h
  obtain ⟨a, D, tp, cs, ws, b, rfl, C, ha, hT, k, e, q⟩ := h
  obtain ⟨u1, u2, rfl, r1, r2⟩ := vals2 r
  cases (show u2 = Value.ref tp from r2)
  cases (show u1 = Value.ref a from r1)
  obtain ⟨oe, J⟩ := exT_at I ha
  obtain ⟨_, its, rv, o, h1, h2, n, h3⟩ := (show ObjOk X.prog X.w H s.heap tp (.tup cs) from I.hok tp _ hT)
  have e3 := ClsV.all k rv
  subst e3
  obtain ⟨oc, od, dt, sl⟩ := o
  simp only at h2 h3
  subst h2 h3
  exact PySem.W.kia_tup (PySem.W.handS_kitx_exc C.hg C.hk C.hs C.hd C.ha C.hn C.ht C.hm) I.kIn J h1 e (fun z => nomatch z) fun tk => ⟨.bl b, H, I.tok tk, rfl, q⟩
end
end Lk
end
section
set_option maxRecDepth 100000
set_option maxHeartbeats 2000000
/-! is_ring of anything, befores, before: what is told. -/
namespace Lk
open PySem PySem.Spec PyProof.Rows L2
theorem depthAll_ints : ∀ l : List Nat, PyData.depthAll (l.map dN) = 0
  | [] => by simp [PyData.depthAll]
  | n :: l => by simp [PyData.depthAll, PyData.depth, depthAll_ints l]
theorem layAll_ints : ∀ l : List Nat, PyData.canLayAll0 (l.map dN) = true
  | [] => by simp [PyData.canLayAll0]
  | n :: l => by simp [PyData.canLayAll0, PyData.canLay0, layAll_ints l]
theorem shaped_ints (l : List Nat) : SeqAt.shaped (.list (l.map dN)) = true := by
  unfold SeqAt.shaped
  rw [Bool.and_eq_true]
  refine ⟨by simp [PyData.canLay0, layAll_ints l], decide_eq_true ?_⟩
  simp only [PyData.depth, depthAll_ints]
  decide
theorem shaped_none : SeqAt.shaped .none = true := by
  unfold SeqAt.shaped
  rw [Bool.and_eq_true]
  exact ⟨by simp [PyData.canLay0], decide_eq_true (by simp [PyData.depth])⟩
theorem eqv_list_none (ds : List PyData) : PyData.eqv (.list ds) .none = false := by simp [PyData.eqv]
theorem eqv_ints (l m : List Nat) : PyData.eqv (.list (l.map dN)) (.list (m.map dN)) = decide (l = m) := by
  have key : ∀ l m : List Nat, PyData.eqvAll (l.map dN) (m.map dN) = decide (l = m) := by
    intro l
    induction l with
    | nil => intro m; cases m <;> simp [PyData.eqvAll]
    | cons a l ih =>
      intro m
      cases m with
      | nil => simp [PyData.eqvAll]
      | cons b m =>
        simp only [List.map_cons, PyData.eqvAll, PyData.eqv, ih]
        by_cases e : a = b
        · subst e
          simp
        · have e2 : ¬ ((a : Int) = (b : Int)) := by omega
          simp [e, e2]
  simp only [PyData.eqv, key]
mutual
/-- data without dicts, as the hand layer tells it -/
theorem Th.dp {K : PySem.W.Frag} {H : Hp} : ∀ (d : PyData) {v : V}, d.canLay0 = true → Th H v d → Dp K H v d
  | .none, _, _, h => by cases h; exact .non
  | .bool b, _, _, h => by cases h; exact .bl b
  | .int i, _, _, h => by cases h; exact .int i
  | .str x, _, _, h => by cases h; exact .str x
  | .list ds, _, n, h => by
    cases h with
    | lst e m => exact .lst (SqL.of e) (ThAll.dp ds (by simpa [PyData.canLay0] using n) m)
  | .tuple ds, _, n, h => by
    cases h with
    | tup e m => exact .tup (SqT.of e) (ThAll.dp ds (by simpa [PyData.canLay0] using n) m)
  | .dict kvs, _, n, _ => by simp [PyData.canLay0] at n
theorem ThAll.dp {K : PySem.W.Frag} {H : Hp} : ∀ (ds : List PyData) {vs : List V}, PyData.canLayAll0 ds = true → ThAll H vs ds → DpAll K H vs ds
  | [], _, _, h => by cases h; exact .nil
  | d :: ds, _, n, h => by
    have n2 : d.canLay0 = true ∧ PyData.canLayAll0 ds = true := by simpa [PyData.canLayAll0] using n
    cases h with
    | cons a b => exact .cons (Th.dp d n2.1 a) (ThAll.dp ds n2.2 b)
end
theorem dp_ints {K : PySem.W.Frag} {H : Hp} {p : Addr} {l : List Nat} (e : H p = some (.lst (l.map vN))) : Dp K H (.ref p) (.list (l.map dN)) :=
  .lst (SqL.of e) (ThAll.dp _ (layAll_ints l) (ints_nat l))
def ringD (c : Cd) (e : PyData) : Prop := ∃ a k, a < c.2.length ∧ RingK c a k ∧ e = .list ((ringL c a k).map dN)
def spIsRing (C : Addr) : Sp := fun vs H Q E => ∃ v u d e, vs = [v, u] ∧ Th H v d ∧ Th H u e ∧ (∀ ds, e = .list ds → ds.length ≤ 100000) ∧ (isCd d = false → ∀ H', Same H H' → E (.ref C) none H') ∧
  (∀ c, d = cdD c → CdOk c → ∀ b H', (b = true ↔ ringD c e) → Same H H' → Q (.bl b) H')
/-- the coder ahead of whose step at k its word wasn't known -/
def prv (c : Cd) (k : Nat) : Cd := (k, c.2.set k (len c k - 1))
def bef (c : Cd) : List Nat := (List.range c.2.length).filter fun i => decide (go c i = c.1) && decide (0 < len c i)
theorem bef_le (c : Cd) : (bef c).length ≤ c.2.length := by
  unfold bef
  exact Nat.le_trans (List.length_filter_le _ _) (by rw [List.length_range]; exact Nat.le_refl _)
theorem bef_mem {c : Cd} {k : Nat} : k ∈ bef c ↔ k < c.2.length ∧ go c k = c.1 ∧ 0 < len c k := by
  unfold bef
  rw [List.mem_filter, List.mem_range, Bool.and_eq_true, decide_eq_true_eq, decide_eq_true_eq]
theorem prv_ok {c : Cd} (h : CdOk c) {k : Nat} (hk : k < c.2.length) : CdOk (prv c k) := by
  refine ⟨?_, ?_⟩
  · show k < (c.2.set k _).length
    rw [List.length_set]
    exact hk
  · show (c.2.set k _).length ≤ 12
    rw [List.length_set]
    exact h.2
def spTaken : Sp := fun vs H Q _ => ∃ (v : V) (c : Cd) (k : Nat), vs = [v, .int (k : Int)] ∧ Cat H v c ∧ CdOk c ∧ k < c.2.length ∧ 0 < len c k ∧ ∀ v' H', Same H H' → Cat H' v' (prv c k) → Q v' H'
def toldBefores (c : Cd) (Q : VK) (H : Hp) : Prop := ∀ p H' ws, H p = none → Same H H' → H' p = some (.lst ws) → ThAll H' ws ((bef c).map fun k => cdD (prv c k)) → Q (.ref p) H'
/-- the first of these that is free, or None -/
def BefV (c : Cd) (H' : Hp) (v : V) : Prop := (v = .non ∧ ∀ k, k ∈ bef c → ¬ Free (prv c k)) ∨ ∃ (i k : Nat), (bef c)[i]? = some k ∧ Free (prv c k) ∧ (∀ (j m : Nat), j < i → (bef c)[j]? = some m → ¬ Free (prv c m)) ∧ Cat H' v (prv c k)
def spBefore (C1 C2 : Addr) : Sp := fun vs H Q E => ∃ v d, vs = [v] ∧ Th H v d ∧ (isCd d = false → ∀ H', Same H H' → E (.ref C1) none H') ∧
  (∀ c, d = cdD c → CdOk c → (¬ Free c → ∀ H', Same H H' → E (.ref C2) none H') ∧ (Free c → ∀ v' H', Same H H' → BefV c H' v' → Q v' H'))
end Lk
end
section
set_option maxRecDepth 100000
set_option maxHeartbeats 4000000
/-! tuple * int, of any small number. -/
namespace Lk
open PySem PySem.Spec PyProof.Rows L2
theorem tup_mul_one (l : Addr) (items : Array Value) (n : Nat) (dd : Option Addr) (sl : Array (Option Value)) (u : Tok) :
    Meets (Builtin.«tuple.__mul__» ⟨[.ref l, .int 1 u], []⟩) (fun _ R s => s.heap.get? l = some { cls := .type "tuple", dict := dd, data := .seq items n, slots := sl } ∧ R (.ok (.ret (Value.ref l))) s) :=
  .of_wp fun prog w A R s h => by
    obtain ⟨hp, g, d, tk, os⟩ := s
    obtain ⟨hl, h⟩ := h
    have f1 := AutoSeq1.idx_int
    wp_walk using wpAny_loadPart' hl
    repeat (first
      | (refine wpAny_ite_false (decide_eq_false (by decide)) ?_; wp_walk using wpAny_loadPart' hl)
      | (refine wpAny_ite_true (decide_eq_true (by simp)) ?_; wp_walk using wpAny_loadPart' hl))
    exact ⟨_, rfl, h⟩
theorem tup_mul_none (l : Addr) (items : Array Value) (n : Nat) (dd : Option Addr) (sl : Array (Option Value)) (x : Int) (u : Tok) (h0 : x ≤ 0) (hb : -(2 ^ 63) ≤ x) (hi : items.isEmpty = false) :
    Meets (Builtin.«tuple.__mul__» ⟨[.ref l, .int x u], []⟩) (fun _ R s => s.heap.get? l = some { cls := .type "tuple", dict := dd, data := .seq items n, slots := sl } ∧
      R (.ok (.ret (Value.ref s.heap.objs.size))) { s with heap := s.heap.push { cls := Value.type "tuple", data := Data.seq #[] } }) :=
  .of_wp fun prog w A R s h => by
    obtain ⟨hp, g, d, tk, os⟩ := s
    obtain ⟨hl, h⟩ := h
    have f1 := AutoSeq1.idx_int
    have c0 : (decide (x < -(2 ^ 63)) || decide (x ≥ 2 ^ 63)) = false := by
      rw [decide_eq_false (by omega), decide_eq_false (by omega)]
      rfl
    have c1 : (items.isEmpty || x == 1) = false := by
      rw [hi, Bool.false_or]
      exact beq_eq_false_iff_ne.mpr (by omega)
    have c2 : (decide (x ≤ 0) || items.isEmpty) = true := by
      rw [decide_eq_true h0]
      rfl
    wp_walk using wpAny_loadPart' hl
    repeat (first
      | (refine wpAny_ite_false (decide_eq_false (by rw [c0]; exact Bool.false_ne_true)) ?_; wp_walk using wpAny_loadPart' hl)
      | (refine wpAny_ite_false (decide_eq_false (by rw [c1]; exact Bool.false_ne_true)) ?_; wp_walk using wpAny_loadPart' hl)
      | (refine wpAny_ite_true (decide_eq_true (by rw [c2])) ?_; wp_walk using wpAny_loadPart' hl))
    exact ⟨_, rfl, h⟩
/-- xs * k, new or not -/
def rMulT (K : PySem.W.Frag) : R2 := fun x y H Q => ∃ l k xs, x = .ref l ∧ y = .int k ∧ SqT K H l xs ∧ xs ≠ [] ∧ -1000 ≤ k ∧ k ≤ 1000 ∧ xs.length ≤ 1000 ∧ ∀ p H', Same H H' → (SqT K H' p (List.replicate k.toNat xs).flatten) → (H' p = some (.tup (List.replicate k.toNat xs).flatten) ∨ k = 1 ∧ p = l) → Q (.ref p) H'
theorem op_mulT {X : Cx} : OpR X (binaryOp .Mult) (rMulT X.K) := by
  intro pins s σ H x y v u Q I rx ry h
  obtain ⟨l, k, xs, rfl, rfl, hT, hne, h1, h2, hz, q⟩ := h
  by_cases g2 : 2 ≤ k
  · exact op_repT pins s σ H _ _ v u Q I rx ry ⟨l, k, xs, rfl, rfl, hT, hne, g2, h2, hz, fun p hp => q p _ (same_new hp) (.inl (.inl upd_same)) (.inl upd_same)⟩
  · cases rx
    obtain ⟨t, rfl⟩ := ry
    obtain ⟨its, r, ⟨⟨cls, dd, data, sl⟩, ho, hc, n, hd⟩, hs⟩ := I.tuple hT
    simp only at hc hd
    subst hc hd
    have hi : its.toArray.isEmpty = false := by
      cases its with
      | nil =>
        cases r
        exact absurd rfl hne
      | cons a b => rfl
    by_cases g1 : k = 1
    · subst g1
      refine wpAny_binaryOp_repeat_ref (T := "tuple") (U := "int") (by decide) ⟨_, ho, rfl⟩ (fun s' => typeIs_int s' 1 t) noFill_tuple_mul PySem.F.fills_int_mul PySem.F.slot_int_rmul repeat_tuple PySem.F.slot_int_index.lookup
        (call_meets PySem.F.slot_int_rmul (typeIs_int s 1 t) PySem.F.entry_int_rmul (PySem.F.args_int_rmul_2 _ _) (int_rmul_tuple 1 t l its.toArray n dd sl)
          ⟨ho, rfl, ⟨_, ho, rfl⟩, call_meets PySem.F.slot_tuple_mul ⟨_, ho, rfl⟩ PySem.F.entry_tuple_mul (PySem.F.args_tuple_mul_2 _ _) (tup_mul_one l its.toArray n dd sl t) ⟨ho, ?_⟩⟩)
      refine ⟨.ref l, H, I, rfl, q l H (Same.refl H) ?_ (.inr ⟨rfl, rfl⟩)⟩
      rw [show (List.replicate (1 : Int).toNat xs).flatten = xs by simp]
      exact hT
    · have g0 : k ≤ 0 := by omega
      refine wpAny_binaryOp_repeat_ref (T := "tuple") (U := "int") (by decide) ⟨_, ho, rfl⟩ (fun s' => typeIs_int s' k t) noFill_tuple_mul PySem.F.fills_int_mul PySem.F.slot_int_rmul repeat_tuple PySem.F.slot_int_index.lookup
        (call_meets PySem.F.slot_int_rmul (typeIs_int s k t) PySem.F.entry_int_rmul (PySem.F.args_int_rmul_2 _ _) (int_rmul_tuple k t l its.toArray n dd sl)
          ⟨ho, rfl, ⟨_, ho, rfl⟩, call_meets PySem.F.slot_tuple_mul ⟨_, ho, rfl⟩ PySem.F.entry_tuple_mul (PySem.F.args_tuple_mul_2 _ _) (tup_mul_none l its.toArray n dd sl k t g0 (by omega) hi) ⟨ho, ?_⟩⟩)
      have e0 : (List.replicate k.toNat xs).flatten = [] := by rw [show k.toNat = 0 by omega]; rfl
      have hf : H s.heap.objs.size = none := I.hok.fresh (Nat.le_refl _)
      refine ⟨.ref s.heap.objs.size, upd H s.heap.objs.size (.tup []), I.laid (t' := s.toks) (o := .tup []) (fun b ob q => Heap.get?_push_of_some _ q) (Nat.le_refl _) ?_, rfl, q _ _ (same_new hf) ?_ ?_⟩
      · exact ⟨by show 0 ≤ sizeLine; exact Nat.zero_le _, [], .nil, IsTup.new _ _⟩
      · rw [e0]
        exact .inl (.inl upd_same)
      · rw [e0]
        exact .inl upd_same
/-! ### tuples that were made in the run -/
def rCutT : V → Option Int → Option Int → Hp → VK → Prop := fun x lo hi H Q => ∃ a xs, x = .ref a ∧ H a = some (.tup xs) ∧ ∀ b H', Same H H' → H' b = some (.tup (cutV xs lo hi)) → Q (.ref b) H'
theorem sl_cutT {X : Cx} : SlR X rCutT := by
  intro pins s σ H x v vl vu lo hi sl Q I rx hs pl pu h
  obtain ⟨a, xs, rfl, hx, q⟩ := h
  refine sl_tupA pins s σ H _ v vl vu _ _ sl Q I rx hs pl pu ⟨a, xs, rfl, SqT.of hx, fun z => ?_, fun z p hp => ?_⟩
  · refine q a H (Same.refl H) ?_
    have e : cutV xs lo hi = xs := by
      unfold cutV
      rw [z.1, z.2, List.drop_zero, Nat.sub_zero, List.take_length]
    rw [e]
    exact hx
  · exact q p _ (same_new hp) upd_same
def rAddT : R2 := fun x y H Q => ∃ a b xs ys, x = .ref a ∧ y = .ref b ∧ H a = some (.tup xs) ∧ H b = some (.tup ys) ∧ xs.length + ys.length ≤ sizeLine ∧ ∀ p H', Same H H' → H' p = some (.tup (xs ++ ys)) → Q (.ref p) H'
theorem op_addT {X : Cx} : OpR X (binaryOp .Add) rAddT := by
  intro pins s σ H x y v u Q I rx ry h
  obtain ⟨a, b, xs, ys, rfl, rfl, ha, hb, hl, q⟩ := h
  refine op_catA pins s σ H _ _ v u Q I rx ry ⟨a, b, xs, ys, rfl, rfl, SqT.of ha, SqT.of hb, hl, fun e => ?_, fun _ e => ?_, fun _ _ p hp => q p _ (same_new hp) upd_same⟩
  · subst e
    exact q b H (Same.refl H) hb
  · subst e
    exact q a H (Same.refl H) (by rw [List.append_nil]; exact ha)
def rRepTT : R2 := fun x y H Q => ∃ l k xs, x = .ref l ∧ y = .int k ∧ H l = some (.tup xs) ∧ xs ≠ [] ∧ -1000 ≤ k ∧ k ≤ 1000 ∧ xs.length ≤ 1000 ∧ ∀ p H', Same H H' → H' p = some (.tup (List.replicate k.toNat xs).flatten) → Q (.ref p) H'
theorem op_repTT {X : Cx} : OpR X (binaryOp .Mult) rRepTT := by
  intro pins s σ H x y v u Q I rx ry h
  obtain ⟨l, k, xs, rfl, rfl, hT, hne, h1, h2, hz, q⟩ := h
  refine op_mulT pins s σ H _ _ v u Q I rx ry ⟨l, k, xs, rfl, rfl, SqT.of hT, hne, h1, h2, hz, fun p H' s1 _ z => q p H' s1 ?_⟩
  rcases z with z | ⟨rfl, rfl⟩
  · exact z
  · rw [show (List.replicate (1 : Int).toNat xs).flatten = xs by simp]
    exact s1 _ _ hT
end Lk
end
section
set_option maxRecDepth 100000
set_option maxHeartbeats 2000000
namespace Lk
open PySem PySem.Spec PyProof.Rows L2
/-! ### xs.count(b), a list of truths -/
def eqB (k : Bool) (v : Value) : Bool := match v with
  | .bool n => n == k
  | _ => false
theorem bools_of : ∀ {bs : List Bool} {us : List Value}, Vals (bs.map V.bl) us → us = bs.map Value.bool
  | [], _, r => by cases r; rfl
  | b :: bs, _, r => by
    cases r with
    | cons r1 r2 =>
      rw [bools_of r2]
      cases (show _ = Value.bool b from r1)
      rfl
theorem eqB_count (k : Bool) : ∀ bs : List Bool, (bs.map Value.bool).countP (eqB k) = bs.count k
  | [] => rfl
  | b :: bs => by
    rw [List.map_cons, List.countP_cons, List.count_cons, eqB_count k bs]
    rfl
section
variable {X : Cx}
def rCntB (K : PySem.W.Frag) : V → List V → Hp → VK → Prop := fun x xs H Q => ∃ (p : Addr) (bs : List Bool) (k : Bool), x = .ref p ∧ xs = [.bl k] ∧ SqL K H p (bs.map V.bl) ∧ Q (.int (bs.count k : Nat)) H
theorem mt_lcountB : MtR X "list.count" (rCntB X.K) := by
  intro pins s σ H x xs v us Q I rx rxs h
  obtain ⟨p, bs, k, rfl, rfl, hs, q⟩ := h
  cases rx
  obtain ⟨u, rfl, ru⟩ := rxs.one
  cases (show u = Value.bool k from ru)
  obtain ⟨its, rv, ⟨⟨cls, dd, data, sl⟩, n, ho, hc, hdn, hd⟩, hlen⟩ := I.list hs
  simp only at hc hd
  subst hc hd
  have hi := bools_of rv
  subst hi
  refine call_meets PySem.F.slot_list_count ⟨_, ho, rfl⟩ PySem.F.entry_list_count (PySem.F.args_list_count_2 _ _)
    (SeqAt.list_countAt p (bs.map Value.bool).toArray n dd sl (.bool k) (eqB k)) ⟨ho, fun y hy => ?_, ?_⟩
  · have hy' : y ∈ bs.map Value.bool := by simpa using hy
    obtain ⟨b, _, rfl⟩ := List.mem_map.mp hy'
    exact SeqAt.EqAt.bool_bool b k
  · refine ⟨.int (bs.count k : Nat), H, I.tok _, ⟨s.toks, ?_⟩, q⟩
    show Value.int (((bs.map Value.bool).toArray.toList.countP (eqB k) : Nat) : Int) s.toks = Value.int ((bs.count k : Nat) : Int) s.toks
    rw [show (bs.map Value.bool).toArray.toList = bs.map Value.bool from rfl, eqB_count]
end
theorem kit_self {K : PySem.W.Frag} (C : Addr) : PySem.W.kitOne K (.ref C) (.ref C) = some true := by
  unfold PySem.W.kitOne
  rw [if_pos (beq_self_eq_true _)]
/-- isinstance(caught, x), x a class of the program's own; caught in slot 0 -/
def tIsG (K : PySem.W.Frag) (C : Addr) : TE := fun σ H Q => ∃ a D b, σ[0]? = some (some (.ref a)) ∧ ExcC K D ∧ H a = some (ExT (.ref D) none a) ∧ PySem.W.kitOne K (.ref D) (.ref C) = some b ∧ Q (.bl b) H
theorem pe_isG {X : Cx} {x : Str} {C : Addr} {p p1 p2 pos : Pos} (mi : X.mg "isinstance" = none) (g : X.mg x = some (.ref C)) (hi : Gl X "isinstance") (hg : Gl X x) (hN : X.N[0]? = some ("caught" : Str)) (hv : Vis X.env.scope ("caught" : Str)) (hd : (x == ("__debug__" : Str)) = false := by decide)
    (hs1 : starEach [Expr.Name "caught" p1, Expr.Name x p2] X.env = (false, eval (.Name "caught" p1) X.env) :: starEach [Expr.Name x p2] X.env := by rfl) (hs2 : starEach [Expr.Name x p2] X.env = (false, eval (.Name x p2) X.env) :: starEach [] X.env := by rfl) :
    PE X (.Call (.Name "isinstance" p) [.Name "caught" p1, .Name x p2] [] pos) (tIsG X.K C) := by
  have h : PE X (.Call (.Name "isinstance" p) [.Name "caught" p1, .Name x p2] [] pos) _ := pe_callB call_isX hi mi (by decide +kernel) (pa_cons (pv 0 hN hv) (pa_cons (pe_glob (v := .ref C) hg g rfl hd) pa_nil))
  refine ⟨fun pins s σ H Q I q => h.run pins s σ H Q I ?_⟩
  obtain ⟨a, D, b, e, c, ha, k, q⟩ := q
  exact ⟨.ref a, e, a, D, .ref C, _, b, rfl, c, ha, .own C, k, q⟩
/-- x names a class that the class at CL is under or not -/
def IsB (K : PySem.W.Frag) (mg : Str → Option Value) (CL : Addr) (x : Str) (b : Bool) : Prop := ∃ C, mg x = some (.ref C) ∧ PySem.W.kitOne K (.ref CL) (.ref C) = some b
/-- the classes of errors, seen from the one at CL -/
structure Errs (K : PySem.W.Frag) (mg : Str → Option Value) (CL : Addr) (b1 b2 b3 b4 b5 b6 b7 : Bool) : Prop where
  C : ExcC K CL
  ve : mg "ValueError" = none
  yes : PySem.W.kitOne K (.ref CL) (.type "ValueError") = some true
  iso : mg "isinstance" = none
  e1 : IsB K mg CL "NoKnown" b1
  e2 : IsB K mg CL "NoText" b2
  e3 : IsB K mg CL "NoPairs" b3
  e4 : IsB K mg CL "NoLoop" b4
  e5 : IsB K mg CL "NoCoder" b5
  e6 : IsB K mg CL "NoCount" b6
  e7 : IsB K mg CL "NotRound" b7
  f1 : IsB K mg CL "NoCounts" false
  f2 : IsB K mg CL "NoLog" false
  f3 : IsB K mg CL "NoPlace" false
  f4 : IsB K mg CL "NoRow" false
  f5 : IsB K mg CL "NoSign" false
  f6 : IsB K mg CL "NoTree" false
  f7 : IsB K mg CL "NoWord" false
  f8 : IsB K mg CL "NotLike" false
  f9 : IsB K mg CL "Nothing" false
def OneHot (b1 b2 b3 b4 b5 b6 b7 : Bool) : Prop := (b1 = true ∧ b2 = false ∧ b3 = false ∧ b4 = false ∧ b5 = false ∧ b6 = false ∧ b7 = false) ∨ (b1 = false ∧ b2 = true ∧ b3 = false ∧ b4 = false ∧ b5 = false ∧ b6 = false ∧ b7 = false) ∨ (b1 = false ∧ b2 = false ∧ b3 = true ∧ b4 = false ∧ b5 = false ∧ b6 = false ∧ b7 = false) ∨ (b1 = false ∧ b2 = false ∧ b3 = false ∧ b4 = true ∧ b5 = false ∧ b6 = false ∧ b7 = false) ∨ (b1 = false ∧ b2 = false ∧ b3 = false ∧ b4 = false ∧ b5 = true ∧ b6 = false ∧ b7 = false) ∨ (b1 = false ∧ b2 = false ∧ b3 = false ∧ b4 = false ∧ b5 = false ∧ b6 = true ∧ b7 = false) ∨ (b1 = false ∧ b2 = false ∧ b3 = false ∧ b4 = false ∧ b5 = false ∧ b6 = false ∧ b7 = true)
/-- the name by which the law knows it -/
def clsName (b1 b2 b3 b4 b5 b6 b7 : Bool) : Str := if b1 then "NoKnown" else if b2 then "NoText" else if b3 then "NoPairs" else if b4 then "NoLoop" else if b5 then "NoCoder" else if b6 then "NoCount" else if b7 then "NotRound" else "odd"
def spClass (CL : Addr) (nm : Str) : Sp := fun vs H Q _ => ∃ a, vs = [.ref a] ∧ H a = some (ExT (.ref CL) none a) ∧ ∀ H', Same H H' → Q (.str nm) H'
end Lk
end
section
set_option maxRecDepth 100000
set_option maxHeartbeats 2000000
/-! The law's bag and what it draws: what is promised. -/
namespace Lk
open PySem PySem.Spec PyProof.Rows L2
theorem but_of {a : Addr} {H H' : Hp} (h : Same H H') : SameBut a H H' := fun b o _ e => h b o e
def bagO (b : Int × Int × Int) : HO := .lst [.int b.1, .int b.2.1, .int b.2.2]
def Bag (H : Hp) (a : Addr) : Prop := ∃ b, H a = some (bagO b)
def spBag : Sp := fun vs H Q _ => ∃ c : Int, vs = [.int c] ∧ ∀ p b, H p = none → Q (.ref p) (upd H p (bagO b))
def spPick : Sp := fun vs H Q _ => ∃ (a : Addr) (m : Int), vs = [.ref a, .int m] ∧ Bag H a ∧ 0 < m ∧ m ≤ 10 ^ 40 ∧ ∀ v H', 0 ≤ v → v < m → Bag H' a → SameBut a H H' → Q (.int v) H'
theorem pick_div {i j : Int} (h0 : 0 < j) (h1 : j ≤ 10 ^ 40) : CDivW i j := wide_div h0 (b := 200) (by
  have e : (2 : Nat) ^ 200 > 10 ^ 40 := by decide +kernel
  omega) (by decide) (by decide)
def spCoder : Sp := fun vs H Q _ => ∃ (a : Addr) (m : Int), vs = [.ref a, .int m] ∧ Bag H a ∧ 1 ≤ m ∧ m ≤ 12 ∧
  ∀ v c H', CdOk c → (c.2.length : Int) ≤ m → (∀ n ∈ c.2, n < 10 ^ 29) → Bag H' a → SameBut a H H' → Cat H' v c → Q v H'
theorem Bag.ne {H : Hp} {a p : Addr} (h : Bag H a) (n : H p = none) : a ≠ p := by
  obtain ⟨b, e⟩ := h
  exact ne_of_none e n
theorem Bag.same {H H' : Hp} {a : Addr} (h : Bag H a) (s : Same H H') : Bag H' a := by
  obtain ⟨b, e⟩ := h
  exact ⟨b, s _ _ e⟩
/-- the classes that are known by these names -/
def spCls (L : List (Addr × Str)) : Sp := fun vs H Q _ => ∃ a CL nm, vs = [.ref a] ∧ (CL, nm) ∈ L ∧ H a = some (ExT (.ref CL) none a) ∧ ∀ H', Same H H' → Q (.str nm) H'
theorem fnOk_nil {P : Program} {w : World} {K : PySem.W.Frag} {mg : Str → Option Value} {base : Heap} {k : Nat} {f : Addr} {fd : FuncData} : FnOk P w K mg base CX0 k f fd ["caught"] (spCls []) :=
  ⟨fun _ _ _ _ h => (by obtain ⟨_, _, _, _, m, _⟩ := h; cases m), fun _ _ _ _ _ _ _ _ _ _ _ _ _ h => (by obtain ⟨_, _, _, _, m, _⟩ := h; cases m)⟩
theorem fnOk_cls {P : Program} {w : World} {K : PySem.W.Frag} {mg : Str → Option Value} {base : Heap} {k : Nat} {f CL : Addr} {fd : FuncData} {nm : Str} {L : List (Addr × Str)} (h1 : FnOk P w K mg base CX0 k f fd ["caught"] (spClass CL nm)) (h2 : FnOk P w K mg base CX0 k f fd ["caught"] (spCls L)) :
    FnOk P w K mg base CX0 k f fd ["caught"] (spCls ((CL, nm) :: L)) := by
  refine ⟨fun vs H Q E h => ?_, fun A outer s H args us vs Q E hr e0 hb r h => ?_⟩
  · obtain ⟨a, _, _, rfl, _⟩ := h
    rfl
  · obtain ⟨a, C, n, e, m, ha, q⟩ := h
    rcases List.mem_cons.mp m with z | z
    · cases z
      exact h1.run A outer s H args us vs Q E hr e0 hb r ⟨a, e, ha, q⟩
    · exact h2.run A outer s H args us vs Q E hr e0 hb r ⟨a, C, n, e, z, ha, q⟩
end Lk
end
section
set_option maxRecDepth 100000
set_option maxHeartbeats 2000000
/-! The rules that lay a new object, told without the heap's text: what was stays, the object is there. -/
namespace Lk
open PySem PySem.Spec PyProof.Rows L2
section
variable {X : Cx} {es : List Expr} {t : TA} {pos : Pos}
def tTupS (t : TA) : TE := fun σ H Q => t σ H fun xs H1 => xs.length ≤ sizeLine ∧ ∀ p H2, H1 p = none → Same H1 H2 → H2 p = some (.tup xs) → Q (.ref p) H2
def tLstS (t : TA) : TE := fun σ H Q => t σ H fun xs H1 => xs.length ≤ sizeLine ∧ ∀ p H2, H1 p = none → Same H1 H2 → H2 p = some (.lst xs) → Q (.ref p) H2
theorem pe_tupS {x1} (h : PA X es t) : PE X (.Tuple es x1 pos) (tTupS t) := by
  refine ⟨fun pins s σ H Q I hq => wpAny_Tuple_spliced (thn (h.run pos pins s σ H _ I hq) fun us s1 ⟨xs, H1, I1, r, z, q⟩ => ⟨by rw [← r.length]; exact z, ?_⟩)⟩
  have free : H1 s1.heap.objs.size = none := I1.hok.fresh (Nat.le_refl _)
  refine ⟨.ref s1.heap.objs.size, _, I1.laid (o := .tup xs) (t' := s1.toks) (fun b u e => Heap.get?_push_of_some _ e) (Nat.le_refl _) ?_, rfl, q _ _ free (same_new free) upd_same⟩
  exact ⟨z, us, r, ⟨_, Heap.get?_push_size _ rfl, rfl, _, rfl⟩⟩
theorem pe_lstS (h : PA X es t) : PE X (.List es pos) (tLstS t) := by
  refine ⟨fun pins s σ H Q I hq => wpAny_List_spliced (thn (h.run pos pins s σ H _ I hq) fun us s1 ⟨xs, H1, I1, r, z, q⟩ => ⟨by rw [← r.length]; exact z, ?_⟩)⟩
  have free : H1 s1.heap.objs.size = none := I1.hok.fresh (Nat.le_refl _)
  refine ⟨.ref s1.heap.objs.size, _, I1.laid (o := .lst xs) (t' := s1.toks) (fun b u e => Heap.get?_push_of_some _ e) (Nat.le_refl _) ?_, rfl, q _ _ free (same_new free) upd_same⟩
  exact ⟨z, us, 0, r, Heap.get?_push_size _ rfl⟩
def rCatS : R2 := fun x y H Q => ∃ a b xs ys, x = .ref a ∧ y = .ref b ∧ H a = some (.lst xs) ∧ H b = some (.lst ys) ∧ xs.length + ys.length ≤ sizeLine ∧ ∀ p H2, H p = none → Same H H2 → H2 p = some (.lst (xs ++ ys)) → Q (.ref p) H2
theorem op_catS : OpR X (binaryOp .Add) rCatS := by
  intro pins s σ H x y v u Q I rx ry h
  obtain ⟨a, b, xs, ys, rfl, rfl, ha, hb, hl, q⟩ := h
  exact op_cat pins s σ H _ _ v u Q I rx ry ⟨a, b, xs, ys, rfl, rfl, ha, hb, hl, fun p hp => q p _ hp (same_new hp) upd_same⟩
/-- tuple(xs) of a list, tuple(t) of a tuple -/
def rTupS : List V → Hp → VK → Prop := fun vs H Q => ∃ p xs, vs = [.ref p] ∧ ((H p = some (.lst xs) ∧ ∀ l H2, H l = none → Same H H2 → H2 l = some (.tup xs) → Q (.ref l) H2) ∨ (H p = some (.tup xs) ∧ Q (.ref p) H))
theorem call_tupS : CallR X (.type "tuple") rTupS := by
  intro pins s σ H xs us Q I r h
  obtain ⟨p, ys, rfl, h⟩ := h
  rcases h with ⟨h, q⟩ | ⟨h, q⟩
  · exact call_tuple_of pins s σ H _ us Q I r ⟨p, ys, rfl, .inl ⟨SqL.of h, fun l hl => q l _ hl (same_new hl) upd_same⟩⟩
  · exact call_tuple_of pins s σ H _ us Q I r ⟨p, ys, rfl, .inr ⟨SqT.of h, q⟩⟩
/-- list(xs), list(t) -/
def rLisS : List V → Hp → VK → Prop := fun vs H Q => ∃ p xs, vs = [.ref p] ∧ (H p = some (.lst xs) ∨ H p = some (.tup xs)) ∧ ∀ l H2, H l = none → Same H H2 → H2 l = some (.lst xs) → Q (.ref l) H2
theorem call_lisS : CallR X (.type "list") rLisS := by
  intro pins s σ H xs us Q I r h
  obtain ⟨p, ys, rfl, h, q⟩ := h
  refine call_list_of pins s σ H _ us Q I r ⟨p, ys, rfl, ?_, fun l hl => q l _ hl (same_new hl) upd_same⟩
  exact h.imp SqL.of SqT.of
end
/-- the cells: the script's first ones, and 0 -/
theorem cells_ints {ns : List Int} {k : Int} : ∀ x ∈ cutV (ns.map V.int) none (some k) ++ [V.int 0], ∃ z, x = V.int z := by
  intro x hx
  rcases List.mem_append.mp hx with h | h
  · unfold cutV at h
    obtain ⟨z, _, e⟩ := List.mem_map.mp (List.mem_of_mem_drop (List.mem_of_mem_take h))
    exact ⟨z, e.symm⟩
  · exact ⟨0, List.mem_singleton.mp h⟩
theorem cells_len {ns : List Int} {k : Int} (h : ns.length ≤ 63) : (cutV (ns.map V.int) none (some k)).length ≤ 63 := by
  unfold cutV
  rw [List.length_take, List.length_drop, List.length_map]
  omega
end Lk
end
section
set_option maxRecDepth 100000
set_option maxHeartbeats 2000000
/-! The law's urn. -/
namespace Lk
open PySem PySem.Spec PyProof.Rows L2
def CPowW (i j : Int) : Prop := 0 ≤ j ∧ j ≤ 8 ∧ i.natAbs < 2 ^ 1000
theorem op_powW {X : Cx} : OpR X (binaryOp .Pow) (rI CPowW fun i j => .int (i ^ j.toNat)) := opI fun i j _ _ _ _ _ hc q => by
  obtain ⟨h0, h8, hi⟩ := hc
  refine pow_int h0 ?_ q
  have l := PySem.Flt.log2_lt_of (by decide : 0 < 1000) hi
  have b : Builtin.Int.intBits i ≤ 1000 := by
    unfold Builtin.Int.intBits
    split <;> omega
  have h1 : (Builtin.Int.intBits i : Int) * j ≤ 1000 * j := Int.mul_le_mul_of_nonneg_right (by omega) h0
  omega
def Urn (H : Hp) (a : Addr) (n : Int) : Prop := ∃ u0 u1 u2 : Int, H a = some (.lst [.int u0, .int u1, .int u2]) ∧ 0 ≤ u1 ∧ u1 < 10 ^ 36 ∧ 0 ≤ u2 ∧ u2 ≤ n
theorem Urn.ne {H : Hp} {a p : Addr} {n : Int} (h : Urn H a n) (e : H p = none) : a ≠ p := by
  obtain ⟨_, _, _, e2, _⟩ := h
  exact ne_of_none e2 e
theorem Urn.same {H H' : Hp} {a : Addr} {n : Int} (h : Urn H a n) (s : Same H H') : Urn H' a n := by
  obtain ⟨u0, u1, u2, e, r⟩ := h
  exact ⟨u0, u1, u2, s _ _ e, r⟩
theorem Urn.le {H : Hp} {a : Addr} {n m : Int} (h : Urn H a n) (l : n ≤ m) : Urn H a m := by
  obtain ⟨u0, u1, u2, e, h1, h2, h3, h4⟩ := h
  exact ⟨u0, u1, u2, e, h1, h2, h3, Int.le_trans h4 l⟩
theorem Urn.cat {H H2 : Hp} {a : Addr} {n : Int} {v : V} {c : Cd} (h : Urn H a n) (s : SameBut a H H2) (k : Cat H v c) : Cat H2 v c := by
  obtain ⟨_, _, _, e, _⟩ := h
  exact k.but e s
def spUrn : Sp := fun vs H Q _ => ∃ c : Int, vs = [.int c] ∧ ∀ p H', H p = none → Same H H' → Urn H' p 0 → Q (.ref p) H'
def spPull : Sp := fun vs H Q _ => ∃ (a : Addr) (m n : Int), vs = [.ref a, .int m] ∧ Urn H a n ∧ n ≤ 100000 ∧ 0 < m ∧ m ≤ 10 ^ 40 ∧ ∀ v H', 0 ≤ v → v < m → Urn H' a (n + 1) → SameBut a H H' → Q (.int v) H'
end Lk
end
section
set_option maxRecDepth 100000
set_option maxHeartbeats 2000000
/-! Going home; the tree of a round. -/
namespace Lk
open PySem PySem.Spec PyProof.Rows L2
/-- where one stands behind so many turns, who stays at home -/
def hw (c : Cd) : Nat → Nat → Nat
  | 0, i => i
  | k + 1, i => if hw c k i = c.1 then hw c k i else go c (hw c k i)
theorem hw_run (c : Cd) (i : Nat) : ∀ k, ((∃ j, j ≤ k ∧ gon c j i = c.1) ∧ hw c k i = c.1) ∨ ((∀ j, j ≤ k → gon c j i ≠ c.1) ∧ hw c k i = gon c k i)
  | 0 => by
    by_cases e : i = c.1
    · exact .inl ⟨⟨0, Nat.le_refl _, e⟩, e⟩
    · refine .inr ⟨fun j hj => ?_, rfl⟩
      rw [Nat.le_zero.mp hj]
      exact e
  | k + 1 => by
    rcases hw_run c i k with ⟨⟨j, hj, e⟩, h⟩ | ⟨h1, h2⟩
    · refine .inl ⟨⟨j, by omega, e⟩, ?_⟩
      show (if hw c k i = c.1 then hw c k i else go c (hw c k i)) = c.1
      rw [if_pos h]
      exact h
    · have e : hw c (k + 1) i = gon c (k + 1) i := by
        show (if hw c k i = c.1 then hw c k i else go c (hw c k i)) = gon c (k + 1) i
        rw [h2, if_neg (h1 k (Nat.le_refl _)), gon_succ]
      by_cases z : gon c (k + 1) i = c.1
      · exact .inl ⟨⟨k + 1, Nat.le_refl _, z⟩, e.trans z⟩
      · refine .inr ⟨fun j hj => ?_, e⟩
        rcases Nat.lt_or_ge j (k + 1) with l | g
        · exact h1 j (by omega)
        · rw [show j = k + 1 by omega]
          exact z
theorem rch_near {c : Cd} (h : COk c) {i : Nat} (hi : i < c.2.length) (r : Rch c i) : ∃ j, j < c.2.length ∧ gon c j i = c.1 := by
  obtain ⟨j, hj, hl⟩ := least_of (Q := fun k => gon c k i = c.1) r.choose_spec
  refine ⟨j, ?_, hj⟩
  have nd : ((List.range (j + 1)).map fun k => gon c k i).Nodup := by
    refine List.pairwise_map.mpr (List.Pairwise.imp_of_mem (R := fun a b => a < b) (fun {a b} ha hb l e => ?_) List.pairwise_lt_range)
    rw [List.mem_range] at ha hb
    refine hl (a + (j - b)) (by omega) ?_
    rw [gon_add, e, ← gon_add, show b + (j - b) = j by omega]
    exact hj
  have z := nodup_below nd fun x hx => by
    obtain ⟨k, _, rfl⟩ := List.mem_map.mp hx
    exact gon_lt h hi k
  rw [List.length_map, List.length_range] at z
  omega
theorem hw_home {c : Cd} (h : COk c) {i : Nat} (hi : i < c.2.length) {k : Nat} (hk : c.2.length ≤ k + 1) : hw c k i = c.1 ↔ Rch c i := by
  rcases hw_run c i k with ⟨⟨j, _, e⟩, e2⟩ | ⟨h1, h2⟩
  · exact ⟨fun _ => ⟨j, e⟩, fun _ => e2⟩
  · refine ⟨fun z => ⟨k, h2.symm.trans z⟩, fun r => ?_⟩
    obtain ⟨j, hj, e⟩ := rch_near h hi r
    exact absurd e (h1 j (by omega))
theorem hw_lt {c : Cd} (h : COk c) {i : Nat} (hi : i < c.2.length) : ∀ k, hw c k i < c.2.length
  | 0 => hi
  | k + 1 => by
    show (if hw c k i = c.1 then hw c k i else go c (hw c k i)) < c.2.length
    split
    · exact hw_lt h hi k
    · exact go_lt h _
def Home0 (c : Cd) : Prop := c.1 = 0 ∧ len c 0 % c.2.length = 0
instance (c : Cd) : Decidable (Home0 c) := inferInstanceAs (Decidable (_ ∧ _))
theorem visit : ∀ (n : Nat) {c : Cd} (i v : Nat), COk c → len c i ≤ v → v < len (it n c) i → ∃ t, t < n ∧ (it t c).1 = i ∧ len (it t c) i = v
  | 0, c, i, v, _, h1, h2 => by
    have z : len (it 0 c) i = len c i := rfl
    omega
  | n + 1, c, i, v, hc, h1, h2 => by
    by_cases e : c.1 = i ∧ len c i = v
    · exact ⟨0, by omega, e.1, e.2⟩
    · have l : len (nx c) i ≤ v := by
        by_cases e2 : c.1 = i
        · have ne : len c i ≠ v := fun z => e ⟨e2, z⟩
          have z := len_nx_same hc
          rw [e2] at z
          omega
        · rw [len_nx_ne (fun z => e2 z.symm)]
          exact h1
      obtain ⟨t, ht, e1, e2⟩ := visit n i v (nx_ok hc) l h2
      exact ⟨t + 1, by omega, e1, e2⟩
def Hm (d : Cd) (j : Nat) : Prop := Home0 (it j d) ∧ ∀ k, k < j → ¬ Home0 (it k d)
theorem hm_is {d : Cd} (h : COk d) (f : Free d) : ∃ j, Hm d j := by
  have hp : 0 < d.2.length := Nat.lt_of_le_of_lt (Nat.zero_le _) h
  have e : len (it (d.2.length * d.2.length) d) 0 = len d 0 + d.2.length := by
    rw [it_round h f]
    exact getD_map_add _ _ hp
  obtain ⟨v, v1, v2, v3⟩ : ∃ v, len d 0 ≤ v ∧ v < len d 0 + d.2.length ∧ v % d.2.length = 0 := by
    by_cases z : len d 0 = 0
    · exact ⟨0, by omega, by omega, Nat.zero_mod _⟩
    · obtain ⟨v, a1, a2, a3⟩ := some_to (p := d.2.length) 0 (len d 0 - 1) 0 hp
      rw [Nat.zero_add] at a3
      exact ⟨v, by omega, by omega, a3⟩
  obtain ⟨t, _, t1, t2⟩ := visit (d.2.length * d.2.length) 0 v h v1 (by rw [e]; exact v2)
  have hm : Home0 (it t d) := ⟨t1, by rw [it_len, t2]; exact v3⟩
  exact least_of (Q := fun k => Home0 (it k d)) hm
theorem hm_one {d : Cd} {j k : Nat} (a : Hm d j) (b : Hm d k) : j = k := by
  rcases Nat.lt_trichotomy j k with l | e | l
  · exact absurd a.1 (b.2 j l)
  · exact e
  · exact absurd b.1 (a.2 k l)
/-- the tree of the round to which c comes -/
def TreeOf (c : Cd) (t : List Nat) : Prop := ∃ n j, Ahead c n ∧ Hm (it n c) j ∧ t = (gos (it (n + j) c)).drop 1
theorem treeOf_one {c : Cd} {t u : List Nat} (a : TreeOf c t) (b : TreeOf c u) : t = u := by
  obtain ⟨n, j, a1, a2, rfl⟩ := a
  obtain ⟨m, k, b1, b2, rfl⟩ := b
  have e := ahead_one a1 b1
  subst e
  rw [hm_one a2 b2]
theorem treeOf_len {c : Cd} {t : List Nat} (a : TreeOf c t) : t.length = c.2.length - 1 := by
  obtain ⟨n, j, _, _, rfl⟩ := a
  rw [List.length_drop, gos_len, it_len]
theorem treeOf_lt {c : Cd} (h : COk c) {t : List Nat} (a : TreeOf c t) : ∀ x ∈ t, x < c.2.length := by
  obtain ⟨n, j, _, _, rfl⟩ := a
  intro x hx
  have hx2 := List.mem_of_mem_drop hx
  unfold gos at hx2
  obtain ⟨i, _, rfl⟩ := List.mem_map.mp hx2
  have z := go_lt (it_ok (n + j) h) i
  rw [it_len] at z
  exact z
theorem ne_no {A B : Prop} {x y : V} (e : x = y) (h : B) : if (!decide (x = y)) = true then A else B := by
  rw [decide_eq_true e]
  exact iteF h
theorem ne_yes {A B : Prop} {x y : V} (e : ¬ x = y) (h : A) : if (!decide (x = y)) = true then A else B := by
  rw [decide_eq_false e]
  exact iteT h
def toldTree (c : Cd) (Q : VK) (H : Hp) : Prop := ∀ t p H', TreeOf c t → Same H H' → H' p = some (.tup (t.map vN)) → Q (.ref p) H'
def spGoals : Sp := fun vs H Q _ => ∃ v c, vs = [v] ∧ Cat H v c ∧ CdOk c ∧ ∀ p H', H p = none → Same H H' → H' p = some (.lst ((gos c).map vN)) → Q (.ref p) H'
def spHome : Sp := fun vs H Q _ => ∃ g c, vs = [.ref g, .int ((c.1 : Nat) : Int)] ∧ H g = some (.lst ((gos c).map vN)) ∧ COk c ∧ c.2.length ≤ 12 ∧ ∀ b, (b = true ↔ Free c) → Q (.bl b) H
def spEnter : Sp := fun vs H Q _ => ∃ v c, vs = [v] ∧ Cat H v c ∧ CdOk c ∧ toldEnter c Q H
def spTree : Sp := fun vs H Q _ => ∃ v c, vs = [v] ∧ Cat H v c ∧ CdOk c ∧ toldTree c Q H
def spUCoder : Sp := fun vs H Q _ => ∃ (a : Addr) (m n : Int), vs = [.ref a, .int m] ∧ Urn H a n ∧ n ≤ 90000 ∧ 1 ≤ m ∧ m ≤ 12 ∧
  ∀ v c H', CdOk c → (c.2.length : Int) ≤ m → (∀ n ∈ c.2, n < 10 ^ 31) → Urn H' a (n + 100) → SameBut a H H' → Cat H' v c → Q v H'
end Lk
end
section
set_option maxRecDepth 100000
set_option maxHeartbeats 2000000
/-! How long the text of data is. -/
namespace Lk
open PySem PySem.Spec PyProof.Rows L2
theorem textFrom_le : ∀ (ts : List Str) (k : Nat) (acc : Str), (textFrom k acc ts).length ≤ acc.length + piled ts
  | [], _, acc => Nat.le_add_right _ _
  | t :: r, k, acc => by
    have ih := textFrom_le r (k + 1) (acc ++ (if k > 0 then ", " else "" : String) ++ t)
    have e : (acc ++ (if k > 0 then ", " else "" : String) ++ t).length ≤ acc.length + 2 + t.length := by
      rw [strLen_append, strLen_append]
      split
      · exact Nat.le_refl _
      · show acc.length + 0 + t.length ≤ _
        omega
    rw [piled_cons]
    show (textFrom (k + 1) _ r).length ≤ _
    omega
theorem listText_le (ts : List Str) : (listText ts).length ≤ 2 + piled ts := by
  unfold listText
  rw [strLen_append]
  have h := textFrom_le ts 0 "["
  have e1 : (("[" : String) : Str).length = 1 := rfl
  have e2 : (("]" : String) : Str).length = 1 := rfl
  omega
theorem tupleText_le (ts : List Str) : (tupleText ts).length ≤ 3 + piled ts := by
  unfold tupleText
  rw [strLen_append, strLen_append]
  have e1 : ((("(" : String) : Str)).length = 1 := rfl
  have e3 : (((if ts.length == 1 then ",)" else ")" : String) : Str)).length ≤ 2 := by split <;> decide
  by_cases h : ts = []
  · subst h
    have e4 : (Str.join ", " []).length = 0 := rfl
    omega
  · have j := join_length_add ts h
    omega
mutual
/-- a bound of the length of the text -/
def wt : PyData → Nat
  | .none => 4
  | .bool _ => 5
  | .int i => (toString i).length
  | .str x => (reprText x).length
  | .list ds => 2 + wts ds
  | .tuple ds => 3 + wts ds
  | .dict kvs => (dictText (PyData.shownKv kvs)).length
def wts : List PyData → Nat
  | [] => 0
  | d :: ds => wt d + 2 + wts ds
end
mutual
theorem shown_wt : ∀ d : PyData, d.shown.length ≤ wt d
  | .none => by simp only [PyData.shown, wt]; decide
  | .bool b => by cases b <;> (simp only [PyData.shown, wt]; decide)
  | .int i => by simp only [PyData.shown, wt]; rw [PySem.ofString_length]; exact Nat.le_refl _
  | .str x => by simp only [PyData.shown, wt]; exact Nat.le_refl _
  | .list ds => by
    simp only [PyData.shown, wt]
    have h := listText_le (PyData.shownAll ds)
    have g := piled_wts ds
    omega
  | .tuple ds => by
    simp only [PyData.shown, wt]
    have h := tupleText_le (PyData.shownAll ds)
    have g := piled_wts ds
    omega
  | .dict kvs => by simp only [PyData.shown, wt]; exact Nat.le_refl _
theorem piled_wts : ∀ ds : List PyData, piled (PyData.shownAll ds) ≤ wts ds
  | [] => by simp [PyData.shownAll, wts, piled]
  | d :: ds => by
    have h := shown_wt d
    have g := piled_wts ds
    simp only [PyData.shownAll, wts, piled_cons]
    omega
end
theorem wts_append : ∀ ds es : List PyData, wts (ds ++ es) = wts ds + wts es
  | [], es => by simp [wts]
  | d :: ds, es => by
    show wt d + 2 + wts (ds ++ es) = wt d + 2 + wts ds + wts es
    rw [wts_append ds es]
    omega
theorem wts_le {B : Nat} : ∀ {ds : List PyData}, (∀ d ∈ ds, wt d ≤ B) → wts ds ≤ ds.length * (B + 2)
  | [], _ => Nat.zero_le _
  | d :: ds, h => by
    have ih := wts_le (ds := ds) fun x hx => h x (List.mem_cons_of_mem _ hx)
    have h1 := h d List.mem_cons_self
    show wt d + 2 + wts ds ≤ (ds.length + 1) * (B + 2)
    rw [Nat.add_mul, Nat.one_mul]
    omega
theorem wt_int {i : Int} (h : i.natAbs < 10 ^ 45) : wt (.int i) ≤ 46 := int_text_length_le10 (by decide) h
theorem wt_nat {n : Nat} (h : n < 10 ^ 45) : wt (dN n) ≤ 46 := wt_int (by omega)
theorem wts_nats {ls : List Nat} (h : ∀ n ∈ ls, n < 10 ^ 45) : wts (ls.map dN) ≤ ls.length * 48 := by
  have z := wts_le (B := 46) (ds := ls.map dN) fun d hd => by
    obtain ⟨n, hn, rfl⟩ := List.mem_map.mp hd
    exact wt_nat (h n hn)
  rw [List.length_map] at z
  exact z
theorem showAll_nats : ∀ {ls : List Nat}, (∀ n ∈ ls, n < 10 ^ 45) → PyData.showableAll (ls.map dN) = true
  | [], _ => by simp [PyData.showableAll]
  | n :: ls, h => by
    have h1 := h n List.mem_cons_self
    have lt : ((n : Int).natAbs).log2 < 1920 := by
      have e : ((n : Int).natAbs) = n := by omega
      rw [e]
      by_cases z : n = 0
      · subst z
        decide
      · exact (Nat.log2_lt z).mpr (Nat.lt_trans h1 (by decide +kernel))
    simp only [List.map_cons, PyData.showableAll, PyData.showable, showAll_nats (fun x hx => h x (List.mem_cons_of_mem _ hx)), decide_eq_true lt, Bool.and_self]
theorem show_cd {c : Cd} (h0 : c.1 < 10 ^ 45) (h : ∀ n ∈ c.2, n < 10 ^ 45) : (cdD c).showable = true := by
  have a := showAll_nats h
  have b := showAll_nats (ls := [c.1]) fun n hn => by rw [List.mem_singleton.mp hn]; exact h0
  simp only [List.map_cons, List.map_nil, PyData.showableAll, Bool.and_true] at b
  simp only [cdD, PyData.showable, PyData.showableAll, a, Bool.and_true]
  simpa only [PyData.showable] using b
theorem wt_cd {c : Cd} (h0 : c.1 < 10 ^ 45) (h : ∀ n ∈ c.2, n < 10 ^ 45) (h12 : c.2.length ≤ 12) : wt (cdD c) ≤ 1000 := by
  have a := wts_nats h
  have b := wt_nat h0
  have e : wt (cdD c) = 3 + (wt (dN c.1) + 2 + (3 + wts (c.2.map dN) + 2 + 0)) := rfl
  omega
theorem depth_cd (c : Cd) : (cdD c).depth ≤ 64 := by
  simp only [cdD, PyData.depth, PyData.depthAll, depthAll_ints]
  decide
/-- what the repr of a coder asks, and tells -/
theorem rep_cd {K : PySem.W.Frag} {H : Hp} {Q : VK} {v : V} {c : Cd} (cat : Cat H v c) (ok : CdOk c) (h : ∀ n ∈ c.2, n < 10 ^ 45) (q : Q (.str (cdD c).shown) H) : rRep K [v] H Q := by
  have h0 : c.1 < 10 ^ 45 := Nat.lt_trans ok.1 (Nat.lt_of_le_of_lt ok.2 (by decide +kernel))
  refine ⟨v, cdD c, rfl, Th.dq _ cat.th, (fun kvs z => nomatch z), show_cd h0 h, depth_cd c, ?_, q⟩
  have a := shown_wt (cdD c)
  have b := wt_cd h0 h ok.2
  rw [sizeLine_eq]
  omega
end Lk
end
section
set_option maxRecDepth 100000
set_option maxHeartbeats 2000000
/-! == of coders. -/
namespace Lk
open PySem PySem.Spec PyProof.Rows L2
theorem eqvAll_ints : ∀ l m : List Nat, PyData.eqvAll (l.map dN) (m.map dN) = decide (l = m) := by
  intro l
  induction l with
  | nil => intro m; cases m <;> simp [PyData.eqvAll]
  | cons a l ih =>
    intro m
    cases m with
    | nil => simp [PyData.eqvAll]
    | cons b m =>
      simp only [List.map_cons, PyData.eqvAll, PyData.eqv, ih]
      by_cases e : a = b
      · subst e
        simp
      · have e2 : ¬ ((a : Int) = (b : Int)) := by omega
        simp [e, e2]
theorem eqv_cd (c d : Cd) : PyData.eqv (cdD c) (cdD d) = decide (c = d) := by
  obtain ⟨a, l⟩ := c
  obtain ⟨b, m⟩ := d
  simp only [cdD, PyData.eqv, PyData.eqvAll, eqvAll_ints]
  by_cases e : a = b
  · subst e
    by_cases e2 : l = m
    · subst e2
      simp
    · simp [e2]
  · have e3 : ¬ ((a : Int) = (b : Int)) := by omega
    simp [e, e3]
theorem lay_cd (c : Cd) : (cdD c).canLay0 = true := by
  simp [cdD, PyData.canLay0, PyData.canLayAll0, layAll_ints]
theorem shaped_cd (c : Cd) : SeqAt.shaped (cdD c) = true := by
  unfold SeqAt.shaped
  rw [Bool.and_eq_true]
  refine ⟨lay_cd c, decide_eq_true ?_⟩
  simp only [cdD, PyData.depth, PyData.depthAll, depthAll_ints]
  decide
end Lk
end
section
set_option maxRecDepth 100000
set_option maxHeartbeats 2000000
/-! Tuples of places as texts, held against one another. -/
namespace Lk
open PySem PySem.Spec PyProof.Rows L2
theorem free_hw {c : Cd} (h : COk c) : Free c ↔ ∀ i, i < c.2.length → hw c c.2.length i = c.1 :=
  ⟨fun f i hi => (hw_home h hi (by omega)).mpr (f i hi), fun f i hi => (hw_home h hi (by omega)).mp (f i hi)⟩
def tD (t : List Nat) : PyData := .tuple (t.map dN)
theorem th_tD {H : Hp} {p : Addr} {t : List Nat} (e : H p = some (.tup (t.map vN))) : Th H (.ref p) (tD t) := .tup e (ints_nat t)
theorem lay_tD (t : List Nat) : (tD t).canLay0 = true := by
  simp [tD, PyData.canLay0, layAll_ints]
theorem shaped_tD (t : List Nat) : SeqAt.shaped (tD t) = true := by
  unfold SeqAt.shaped
  rw [Bool.and_eq_true]
  refine ⟨lay_tD t, decide_eq_true ?_⟩
  simp only [tD, PyData.depth, depthAll_ints]
  decide
theorem eqv_tD (t u : List Nat) : PyData.eqv (tD t) (tD u) = decide (t = u) := by
  simp only [tD, PyData.eqv, eqvAll_ints]
theorem rep_tD {K : PySem.W.Frag} {H : Hp} {Q : VK} {p : Addr} {t : List Nat} (e : H p = some (.tup (t.map vN))) (h12 : t.length ≤ 12) (h : ∀ n ∈ t, n < 10 ^ 45) (q : Q (.str (tD t).shown) H) : rRep K [.ref p] H Q := by
  refine ⟨.ref p, tD t, rfl, Th.dq _ (th_tD e), (fun kvs z => nomatch z), ?_, ?_, ?_, q⟩
  · simp only [tD, PyData.showable, showAll_nats h]
  · simp only [tD, PyData.depth, depthAll_ints]
    decide
  · have a := shown_wt (tD t)
    have b := wts_nats h
    have c : wt (tD t) = 3 + wts (t.map dN) := rfl
    rw [sizeLine_eq]
    omega
theorem tree_three : TreeOf (0, [0, 0, 0]) [0, 1] := by
  have ok : ∀ n, COk (it n (0, [0, 0, 0])) := fun n => it_ok n (show (0 : Nat) < 3 by decide)
  refine ⟨2, 5, ⟨(free_hw (ok 2)).mpr (by decide), fun m hm => ?_⟩, ⟨by decide, fun k hk => ?_⟩, by decide⟩
  · match m, hm with
    | 0, _ => exact fun f => absurd ((free_hw (ok 0)).mp f) (by decide)
    | 1, _ => exact fun f => absurd ((free_hw (ok 1)).mp f) (by decide)
  · revert k
    decide
end Lk
end
section
set_option maxRecDepth 100000
set_option maxHeartbeats 2000000
/-! Rows of goals as coders; trees. -/
namespace Lk
open PySem PySem.Spec PyProof.Rows L2
/-- a coder at place 0 whose last goings are these -/
def cdOf (g : List Nat) : Cd := (0, (List.range g.length).map fun i => (g.getD i 0 + (g.length - i)) % g.length)
theorem cdOf_len (g : List Nat) : (cdOf g).2.length = g.length := by
  show ((List.range g.length).map _).length = _
  rw [List.length_map, List.length_range]
theorem cdOf_ok {g : List Nat} (h : 0 < g.length) : COk (cdOf g) := by
  show 0 < (cdOf g).2.length
  rw [cdOf_len]
  exact h
theorem cdOf_lenAt {g : List Nat} {i : Nat} (h : i < g.length) : len (cdOf g) i = (g.getD i 0 + (g.length - i)) % g.length := by
  show ((List.range g.length).map _).getD i 0 = _
  rw [List.getD_eq_getElem?_getD, List.getElem?_map, List.getElem?_range h]
  rfl
theorem cdOf_go {g : List Nat} (hg : ∀ x ∈ g, x < g.length) {i : Nat} (h : i < g.length) : go (cdOf g) i = g.getD i 0 := by
  have e : g.getD i 0 < g.length := hg _ (by
    rw [List.getD_eq_getElem?_getD, List.getElem?_eq_getElem h]
    exact List.getElem_mem h)
  show (i + len (cdOf g) i) % (cdOf g).2.length = _
  rw [cdOf_len, cdOf_lenAt h, Nat.add_mod_mod, show i + (g.getD i 0 + (g.length - i)) = g.getD i 0 + g.length by omega, Nat.add_mod_right, Nat.mod_eq_of_lt e]
theorem cdOf_gos {g : List Nat} (hg : ∀ x ∈ g, x < g.length) : gos (cdOf g) = g := by
  refine List.ext_getElem? fun i => ?_
  by_cases h : i < g.length
  · rw [gos_at (by rw [cdOf_len]; exact h), cdOf_go hg h, List.getD_eq_getElem?_getD, List.getElem?_eq_getElem h]
    rfl
  · rw [List.getElem?_eq_none (by rw [gos_len, cdOf_len]; omega), List.getElem?_eq_none (by omega)]
theorem gon_home {c : Cd} (h0 : c.1 = 0) (hg : go c 0 = 0) : ∀ k, gon c k 0 = 0
  | 0 => rfl
  | k + 1 => by rw [gon_succ, gon_home h0 hg k, hg]
/-- all come first who have come behind so many turns -/
theorem come_all {c : Cd} (h : COk c) (h0 : c.1 = 0) (hg : go c 0 = 0) : (∀ i, i < c.2.length → gon c c.2.length i = 0) ↔ Free c := by
  refine ⟨fun f i hi => ⟨c.2.length, (f i hi).trans h0.symm⟩, fun f i hi => ?_⟩
  obtain ⟨j, hj, e⟩ := rch_near h hi (f i hi)
  rw [show c.2.length = j + (c.2.length - j) by omega, gon_add, e, h0]
  exact gon_home h0 hg _
/-- what is a tree of p places -/
def IsTr (p : Nat) (d : PyData) : Prop := ∃ t : List Nat, d = tD t ∧ t.length + 1 = p ∧ (∀ x ∈ t, x < p) ∧ Free (cdOf (0 :: t))
theorem tD_inj {t u : List Nat} (e : tD t = tD u) : t = u := by
  have z : t.map dN = u.map dN := PyData.tuple.inj e
  have inj : ∀ a b : Nat, dN a = dN b → a = b := fun a b e => by injection e with e; omega
  exact List.map_inj_right (fun a b e => inj a b e) |>.mp z
def spCome : Sp := fun vs H Q _ => ∃ a t, vs = [.ref a] ∧ H a = some (.tup (t.map vN)) ∧ t.length ≤ 11 ∧ (∀ x ∈ t, x < t.length + 1) ∧ ∀ b H', (b = true ↔ Free (cdOf (0 :: t))) → Same H H' → Q (.bl b) H'
def spIsTree (C : Addr) : Sp := fun vs H Q E => ∃ u v e d, vs = [u, v] ∧ Th H u e ∧ Th H v d ∧ (inR e 1 12 = false → ∀ H', Same H H' → E (.ref C) none H') ∧
  (∀ p : Nat, e = .int (p : Int) → 1 ≤ p → p ≤ 12 → ∀ b H', (b = true ↔ IsTr p d) → Same H H' → Q (.bl b) H')
def spDue : Sp := fun vs H Q _ => ∃ (p : Nat) (v : V) (d : PyData), vs = [.int (p : Int), v] ∧ Th H v d ∧ 1 ≤ p ∧ p ≤ 12 ∧ ∀ b H', (b = true ↔ IsTr p d) → Same H H' → Q (.bl b) H'
theorem all_take {bs : List Bool} {n : Nat} (h : n = bs.length) : bs.take n = bs := by rw [h, List.take_length]
end Lk
end
section
set_option maxRecDepth 100000
set_option maxHeartbeats 2000000
/-! Drawn trees; heaps but for one object. -/
namespace Lk
open PySem PySem.Spec PyProof.Rows L2
/-- a list's method within a comprehension -/
theorem pe_bmK {X : Cx} {K : PySem.W.Frag} {o e : Expr} {es : List Expr} {to : TE} {t : TA} {name : Str} {apos cpos : Pos} {T id : String} {r : V → List V → Hp → VK → Prop} (hK : X.K = K) (pa : PlainAttrs T) (slot : Slot T name id) (hty : typeOf (.builtin id) = pure (.type "method_descriptor")) (hm : MtR X id r) (ho : PE X o to) (ha : PA X (e :: es) t)
    (hbase : attributeBase o name X.env (eval o X.env) = eval o X.env := by rfl)
    (hfew : ((backTo cpos (starEach (e :: es) X.env)).all (fun x => !x.1) && (backToKw cpos (keywordEach [] X.env)).all (fun x => x.1.isSome)
      && decide ((e :: es).length + ([] : List Keyword).length + (if ([] : List Keyword).isEmpty then 0 else 1) < 30)) = true := by rfl)
    (hline : (apos.endLine == cpos.line) = true := by rfl) (hs : starEach (e :: es) X.env = (false, eval e X.env) :: starEach es X.env := by rfl) (hplain : (backTo cpos (starEach es X.env)).any (·.1) = false := by rfl) :
    PE X (.Call (.Attribute o name apos) (e :: es) [] cpos) (tBM K T r to t) := by
  subst hK
  exact pe_bm pa slot hty hm ho ha hbase hfew hline hs hplain
theorem flat_rep (x : Nat) : ∀ n : Nat, (List.replicate n [V.int (x : Int)]).flatten = (List.replicate n x).map vN
  | 0 => rfl
  | n + 1 => by
    rw [List.replicate_succ, List.replicate_succ, List.flatten_cons, flat_rep x n]
    rfl
theorem ixN_at {n j : Nat} (hj : j < n) : ixN n (j : Int) = some j := by
  unfold ixN
  rw [if_pos (by omega), if_pos (by omega)]
  simp
theorem seq_at {n : Nat} {i : Int} (h0 : 0 ≤ i) (h1 : i < n) : seqIndex? i n = some i.toNat := by
  have z := ixN_seq (n := n) (i := i) (j := i.toNat) (by
    have e : i = ((i.toNat : Nat) : Int) := by omega
    rw [e]
    exact ixN_at (by omega))
  exact z.1
def spDTree : Sp := fun vs H Q _ => ∃ (a : Addr) (p : Nat) (n : Int), vs = [.ref a, .int (p : Int)] ∧ Urn H a n ∧ n ≤ 99000 ∧ 1 ≤ p ∧ p ≤ 12 ∧
  ∀ (t : List Nat) (pt : Addr) H', t.length + 1 = p → (∀ x ∈ t, x < p) → Urn H' a (n + 30) → SameBut a H H' → H pt = none → H' pt = some (.tup (t.map vN)) → Q (.ref pt) H'
/-- the heap without one object -/
def rm (a : Addr) (H : Hp) : Hp := fun b => if b = a then none else H b
theorem rm_ne {a b : Addr} {H : Hp} (h : b ≠ a) : rm a H b = H b := if_neg h
theorem rm_same {a : Addr} {H : Hp} : Same (rm a H) H := fun b o e => by
  by_cases h : b = a
  · rw [h] at e
    unfold rm at e
    rw [if_pos rfl] at e
    cases e
  · rw [← rm_ne (H := H) h]
    exact e
theorem rm_but {a : Addr} {H H2 : Hp} (s : SameBut a H H2) : Same (rm a H) (rm a H2) := fun b o e => by
  by_cases h : b = a
  · rw [h] at e
    unfold rm at e
    rw [if_pos rfl] at e
    cases e
  · rw [rm_ne h] at e ⊢
    exact s b o h e
theorem eraseIdx_map {l : List Nat} (k : Nat) : (l.map vN).eraseIdx k = (l.eraseIdx k).map vN := by
  induction l generalizing k with
  | nil => rfl
  | cons x l ih =>
    cases k with
    | zero => rfl
    | succ k =>
      show vN x :: (l.map vN).eraseIdx k = vN x :: (l.eraseIdx k).map vN
      rw [ih]
end Lk
end
section
set_option maxRecDepth 100000
set_option maxHeartbeats 2000000
/-! Things that are shown; things that hang not on the urn. -/
namespace Lk
open PySem PySem.Spec PyProof.Rows L2
def Good (d : PyData) : Prop := d.showable = true ∧ d.depth ≤ 8 ∧ wt d ≤ 2000
theorem th_tup {H : Hp} {a p : Addr} {n : Int} {xs : List V} {ds : List PyData} (u : Urn H a n) (e : H p = some (.tup xs)) (m : ThAll (rm a H) xs ds) : Th (rm a H) (.ref p) (.tuple ds) := by
  refine .tup ?_ m
  rw [rm_ne (fun z => ?_)]
  · exact e
  · obtain ⟨_, _, _, e2, _⟩ := u
    rw [z, e2] at e
    cases e
theorem th_lst {H : Hp} {a p : Addr} {xs : List V} {ds : List PyData} (ne : p ≠ a) (e : H p = some (.lst xs)) (m : ThAll (rm a H) xs ds) : Th (rm a H) (.ref p) (.list ds) := .lst (by rw [rm_ne ne]; exact e) m
theorem th_dct {H : Hp} {a p : Addr} (ne : p ≠ a) (e : H p = some (.dK [])) : Th (rm a H) (.ref p) (.dict []) := .dct (by rw [rm_ne ne]; exact e)
theorem Th.up {H H2 : Hp} {a : Addr} {v : V} {d : PyData} (h : Th (rm a H) v d) (s : SameBut a H H2) : Th (rm a H2) v d := Th.same (rm_but s) d h
theorem ThAll.up {H H2 : Hp} {a : Addr} {vs : List V} {ds : List PyData} (h : ThAll (rm a H) vs ds) (s : SameBut a H H2) : ThAll (rm a H2) vs ds := ThAll.same (rm_but s) ds h
theorem wt_small {n : Nat} (h : n < 10 ^ 45) : wt (dN n) ≤ 46 := wt_nat h
theorem dep_ints : ∀ l : List Nat, PyData.depthAll (l.map dN) = 0 := depthAll_ints
theorem good_tup {t : List Nat} (h : ∀ x ∈ t, x < 10 ^ 45) (l : t.length ≤ 30) : Good (.tuple (t.map dN)) := by
  refine ⟨?_, ?_, ?_⟩
  · simp only [PyData.showable, showAll_nats h]
  · simp only [PyData.depth, depthAll_ints]
    decide
  · have b := wts_nats h
    show 3 + wts (t.map dN) ≤ 2000
    omega
theorem good_lst {t : List Nat} (h : ∀ x ∈ t, x < 10 ^ 45) (l : t.length ≤ 30) : Good (.list (t.map dN)) := by
  refine ⟨?_, ?_, ?_⟩
  · simp only [PyData.showable, showAll_nats h]
  · simp only [PyData.depth, depthAll_ints]
    decide
  · have b := wts_nats h
    show 2 + wts (t.map dN) ≤ 2000
    omega
def GoodS (d : PyData) : Prop := d.showable = true ∧ d.depth ≤ 6 ∧ wt d ≤ 200
theorem GoodS.good {d : PyData} (h : GoodS d) : Good d := ⟨h.1, by have := h.2.1; omega, by have := h.2.2; omega⟩
theorem showAll_app : ∀ {ds es : List PyData}, PyData.showableAll ds = true → PyData.showableAll es = true → PyData.showableAll (ds ++ es) = true
  | [], _, _, h => h
  | d :: ds, es, h1, h2 => by
    simp only [PyData.showableAll, Bool.and_eq_true] at h1
    simp only [List.cons_append, PyData.showableAll, Bool.and_eq_true]
    exact ⟨h1.1, showAll_app h1.2 h2⟩
theorem depAll_le {B : Nat} : ∀ {ds : List PyData}, (∀ d ∈ ds, d.depth ≤ B) → PyData.depthAll ds ≤ B
  | [], _ => by simp [PyData.depthAll]
  | d :: ds, h => by
    have a := h d List.mem_cons_self
    have b := depAll_le (ds := ds) fun x hx => h x (List.mem_cons_of_mem _ hx)
    simp only [PyData.depthAll]
    omega
theorem showAll_of : ∀ {ds : List PyData}, (∀ d ∈ ds, d.showable = true) → PyData.showableAll ds = true
  | [], _ => by simp [PyData.showableAll]
  | d :: ds, h => by
    simp only [PyData.showableAll, Bool.and_eq_true]
    exact ⟨h d List.mem_cons_self, showAll_of fun x hx => h x (List.mem_cons_of_mem _ hx)⟩
theorem goodS_int {i : Int} (h : i.natAbs < 10 ^ 45) : GoodS (.int i) := by
  refine ⟨?_, by simp [PyData.depth], ?_⟩
  · have z := showAll_nats (ls := [i.natAbs]) (by intro n hn; rw [List.mem_singleton.mp hn]; exact h)
    simp only [List.map_cons, PyData.showableAll, PyData.showable, Bool.and_eq_true] at z ⊢
    simpa using z.1
  · have := wt_int h
    omega
/-- a tuple of a few small things -/
theorem good_some {ds : List PyData} (h : ∀ d ∈ ds, GoodS d ∧ wt d ≤ 60) (l : ds.length ≤ 30) : Good (.tuple ds) := by
  refine ⟨?_, ?_, ?_⟩
  · simp only [PyData.showable]
    exact showAll_of fun d hd => (h d hd).1.1
  · have z := depAll_le (B := 6) fun d hd => (h d hd).1.2.1
    simp only [PyData.depth]
    omega
  · have z := wts_le (B := 60) (ds := ds) fun d hd => (h d hd).2
    have z2 : ds.length * 62 ≤ 30 * 62 := Nat.mul_le_mul_right _ l
    show 3 + wts ds ≤ 2000
    omega
/-- what the repr of a list of such things asks -/
theorem rep_good {K : PySem.W.Frag} {H : Hp} {Q : VK} {p : Addr} {xs : List V} {ds : List PyData} (e : H p = some (.lst xs)) (m : ThAll H xs ds) (g : ∀ d ∈ ds, Good d) (l : ds.length ≤ 100) (q : Q (.str (PyData.list ds).shown) H) : rRep K [.ref p] H Q := by
  refine ⟨.ref p, .list ds, rfl, Th.dq _ (.lst e m), (fun kvs z => nomatch z), ?_, ?_, ?_, q⟩
  · simp only [PyData.showable]
    exact showAll_of fun d hd => (g d hd).1
  · have z := depAll_le (B := 8) fun d hd => (g d hd).2.1
    simp only [PyData.depth]
    omega
  · have a := shown_wt (.list ds)
    have z := wts_le (B := 2000) (ds := ds) fun d hd => (g d hd).2.2
    have z2 : ds.length * 2002 ≤ 100 * 2002 := Nat.mul_le_mul_right _ l
    have c : wt (.list ds) = 2 + wts ds := rfl
    rw [sizeLine_eq]
    omega
theorem rm_mono {a : Addr} {H H2 : Hp} (s : Same H H2) : Same (rm a H) (rm a H2) := rm_but fun b o _ e => s b o e
theorem rm_new {S : Addr} {H H2 : Hp} (h : H S = none) (s : Same H H2) : Same H (rm S H2) := fun b o e => by
  rw [rm_ne (ne_of_none e h)]
  exact s b o e
theorem rm_none {a S : Addr} {H : Hp} (h : H S = none) : rm a H S = none := by
  unfold rm
  split
  · rfl
  · exact h
theorem rm_upd {S : Addr} {H : Hp} {o : HO} : Same (rm S H) (rm S (upd H S o)) := rm_but sameBut_upd
theorem rm_upd2 {a S : Addr} {H : Hp} {o : HO} : Same (rm S (rm a H)) (rm S (rm a (upd H S o))) := fun b x e => by
  by_cases h : b = S
  · rw [h] at e
    unfold rm at e
    rw [if_pos rfl] at e
    cases e
  · rw [rm_ne h] at e ⊢
    by_cases h2 : b = a
    · rw [h2] at e
      unfold rm at e
      rw [if_pos rfl] at e
      cases e
    · rw [rm_ne h2] at e ⊢
      rw [upd_ne h]
      exact e
theorem th2_tup {H : Hp} {a S p : Addr} {n : Int} {xs ws : List V} {ds : List PyData} (u : Urn H a n) (eS : H S = some (.lst ws)) (e : H p = some (.tup xs)) (m : ThAll (rm S (rm a H)) xs ds) : Th (rm S (rm a H)) (.ref p) (.tuple ds) := by
  refine .tup ?_ m
  rw [rm_ne (fun z => ?_), rm_ne (fun z => ?_)]
  · exact e
  · obtain ⟨_, _, _, e2, _⟩ := u
    rw [z, e2] at e
    cases e
  · rw [z, eS] at e
    cases e
theorem th2_lst {H : Hp} {a S p : Addr} {xs : List V} {ds : List PyData} (n1 : p ≠ a) (n2 : p ≠ S) (e : H p = some (.lst xs)) (m : ThAll (rm S (rm a H)) xs ds) : Th (rm S (rm a H)) (.ref p) (.list ds) := .lst (by rw [rm_ne n2, rm_ne n1]; exact e) m
theorem th2_dct {H : Hp} {a S p : Addr} (n1 : p ≠ a) (n2 : p ≠ S) (e : H p = some (.dK [])) : Th (rm S (rm a H)) (.ref p) (.dict []) := .dct (by rw [rm_ne n2, rm_ne n1]; exact e)
theorem flat_any (x : V) : ∀ n : Nat, (List.replicate n [x]).flatten = List.replicate n x
  | 0 => rfl
  | n + 1 => by
    rw [List.replicate_succ, List.replicate_succ, List.flatten_cons, flat_any x n]
    rfl
theorem thAll_rep {H : Hp} {v : V} {d : PyData} (h : Th H v d) : ∀ n : Nat, ThAll H (List.replicate n v) (List.replicate n d)
  | 0 => .nil
  | n + 1 => .cons h (thAll_rep h n)
theorem good_rep {d : PyData} (g : GoodS d) (w : wt d ≤ 60) {n : Nat} (h : n ≤ 30) : Good (.tuple (List.replicate n d)) :=
  good_some (fun x hx => by rw [List.eq_of_mem_replicate hx]; exact ⟨g, w⟩) (by rw [List.length_replicate]; exact h)
def spThings : Sp := fun vs H Q _ => ∃ (a : Addr) (p : Nat) (n : Int), vs = [.ref a, .int (p : Int)] ∧ Urn H a n ∧ n ≤ 98000 ∧ 1 ≤ p ∧ p ≤ 12 ∧
  ∀ D H' ws ds, H' D = some (.lst ws) → ThAll (rm a H') ws ds → (∀ d ∈ ds, Good d) → ds.length ≤ 40 → Urn H' a (n + 130) → SameBut a H H' → Q (.ref D) H'
end Lk
end
section
set_option maxRecDepth 100000
set_option maxHeartbeats 2000000
/-! enumerate(t, start=k) of a tuple. -/
namespace Lk
open PySem PySem.Spec PyProof.Rows L2
theorem callWithT_kw {M : Model} {A : Around} {E : Value → Shared → Prop} {s : Shared} {env : Env} {pos : Pos} {T : String} {e : Expr} {rest : List Expr} {kws : List Keyword} {Q : Value → Shared → Prop}
    (h : wpAny M A (spliced (backTo pos (starEach (e :: rest) env))) (fun vs s₁ => wpAny M A (evalAll ((backToKw pos (keywordEach kws env)).map (·.2)))
      (fun kvs s₂ => wpAny M A (call (.type T) vs (((backToKw pos (keywordEach kws env)).filterMap (·.1)).zip kvs)) Q E s₂) E s₁) E s)
    (he : backTo pos (starEach (e :: rest) env) = (false, eval e env) :: backTo pos (starEach rest env))
    (hplain : (backTo pos (starEach (e :: rest) env)).any (·.1) = false)
    (hall : (backToKw pos (keywordEach kws env)).all (·.1.isSome) = true)
    (hkw : (backToKw pos (keywordEach kws env)).any (·.1.isNone) = false) :
    wpAny M A (callWith pos (.type T) [] (backTo pos (starEach (e :: rest) env)) (backToKw pos (keywordEach kws env))) Q E s := by
  unfold callWith
  refine wpAny_bind (wpAny_holding (wpAny_mono (?_ : wpAny M A (evalArgs (.type T) true (backTo pos (starEach (e :: rest) env)) (backToKw pos (keywordEach kws env))) (fun a s₁ => wpAny M A (call (.type T) ([] ++ a.pos) a.kw) Q E s₁) E s) (fun a s₁ h₁ => wpAny_bind (wpAny_standAt ?_)) fun _ _ x => x))
  · rw [he] at h ⊢
    exact evalArgs_kwB hall h
  · simp only [hplain, hkw, Bool.or_false]
    refine wpAny_bind (wpAny_pure ?_)
    exact wpAny_bind (wpAny_mono h₁ (fun r s₂ hr => wpAny_bind (wpAny_holding (wpAny_point (wpAny_pure hr)))) fun _ _ x => x)
def iEnumS (K : PySem.W.Frag) (ta tk : TA) : TI := fun σ H R => ta σ H fun vs H1 => tk σ H1 fun zs H2 => ∃ (a : Addr) (xs : List V) (c : Int), vs = [.ref a] ∧ zs = [.int c] ∧ 0 ≤ c ∧ c < 1000 ∧ SqT K H2 a xs ∧ R (IteT K a c) H2
theorem pi_enumS {X : Cx} {e e2 : Expr} {ta tk : TA} {p pos tpos kpos : Pos} {elts : List Expr} {kk : Nat} (hg : Gl X "enumerate") (hm : X.mg "enumerate" = none) (ha : PA X [e] ta) (hk : PK X [⟨some "start", e2, kpos⟩] tk)
    (he : backTo pos (starEach [e] X.env) = (false, eval e X.env) :: backTo pos (starEach [] X.env) := by rfl) (hpl : (backTo pos (starEach [e] X.env)).any (·.1) = false := by rfl)
    (hall : (backToKw pos (keywordEach [⟨some "start", e2, kpos⟩] X.env)).all (·.1.isSome) = true := by rfl) (hnone : (backToKw pos (keywordEach [⟨some "start", e2, kpos⟩] X.env)).any (·.1.isNone) = false := by rfl)
    (hks : (backToKw pos (keywordEach [⟨some "start", e2, kpos⟩] X.env)).filterMap (·.1) = [Str.ofString "start"] := by rfl) :
    PI X (.Tuple elts kk tpos) (.Call (.Name "enumerate" p) [e] [⟨some "start", e2, kpos⟩] pos) (iEnumS X.K ta tk) := by
  refine ⟨fun pins s σ H R I h => wpAny_Call_Name_kw (ld_blt I hg hm boot_enumerate ?_)⟩
  refine callWithT_kw (thn (ha.run pos pins s σ H _ I h) fun us s1 ⟨vs, H1, I1, r1, q1⟩ => thn (hk.run pos pins s1 σ H1 _ I1 q1) fun ws s2 ⟨zs, H2, I2, r2, q2⟩ => ?_) he hpl hall hnone
  rw [hks]
  obtain ⟨a, xs, c, ex, ez, c0, c1, hq, q⟩ := q2
  subst ex ez
  cases r1 with
  | cons r rr =>
    cases rr
    cases r
    cases r2 with
    | cons r2 rr2 =>
      cases rr2
      obtain ⟨tt, rfl⟩ := r2
      obtain ⟨its, rv, tp, hz⟩ := I2.tuple hq
      refine enum_begins_start (begins_tuple a its.toArray) tp (by omega) (by omega) fun h2 he hit hsz hk2 => wpAny_pyIter_enum he ?_
      have I3 : Inv X pins σ H2 { s2 with heap := h2 } := I2.kept (t' := s2.toks) hk2
      refine ⟨s2.heap.objs.size + 1, [s2.heap.objs.size + 1, s2.heap.objs.size], _, _, H2, rfl, I3, turn_enumT a (s2.heap.objs.size + 1) s2.heap.objs.size, ⟨⟨.none, ?_⟩, ⟨_, hit, rfl, rfl⟩, Nat.succ_ne_self _⟩, fun b hb => ?_, q⟩
      · rw [show c + ((0 : Nat) : Int) = c by omega]
        exact he
      · have hle : s2.heap.objs.size ≤ b := by
          rcases List.mem_cons.mp hb with z | z
          · rw [z]; exact Nat.le_add_right _ _
          · rw [List.mem_singleton.mp z]; exact Nat.le_refl _
        exact I2.fpOk hle (I2.hok.fresh hle)
end Lk
end
section
set_option maxRecDepth 100000
set_option maxHeartbeats 2000000
/-! The coder of a tree. -/
namespace Lk
open PySem PySem.Spec PyProof.Rows L2
def lensOf (t : List Nat) : List Nat := (List.range t.length).map fun i => (t.getD i 0 + (t.length + 1 - (i + 1))) % (t.length + 1)
theorem lensOf_len (t : List Nat) : (lensOf t).length = t.length := by
  unfold lensOf
  rw [List.length_map, List.length_range]
theorem lensOf_at {t : List Nat} {i : Nat} (h : i < t.length) : (lensOf t)[i]? = some ((t.getD i 0 + (t.length + 1 - (i + 1))) % (t.length + 1)) := by
  unfold lensOf
  rw [List.getElem?_map, List.getElem?_range h]
  rfl
theorem cdOf_cons (t : List Nat) : cdOf (0 :: t) = (0, 0 :: lensOf t) := by
  show (0, (List.range (t.length + 1)).map _) = _
  rw [List.range_succ_eq_map, List.map_cons, List.map_map]
  refine Prod.ext rfl ?_
  show ((0 :: t).getD 0 0 + ((0 :: t).length - 0)) % (0 :: t).length :: _ = 0 :: lensOf t
  rw [List.length_cons]
  have e : ((0 :: t).getD 0 0 + (t.length + 1 - 0)) % (t.length + 1) = 0 := by
    show (0 + (t.length + 1)) % (t.length + 1) = 0
    rw [Nat.zero_add, Nat.mod_self]
  rw [e]
  refine congrArg (List.cons 0) ?_
  unfold lensOf
  refine List.map_congr_left fun i _ => ?_
  rfl
/-- a row of goals that is a tree -/
def TOk (p : Nat) (t : List Nat) : Prop := t.length + 1 = p ∧ (∀ x ∈ t, x < p) ∧ Free (cdOf (0 :: t))
theorem TOk.isTr {p : Nat} {t : List Nat} (h : TOk p t) : IsTr p (tD t) := ⟨t, rfl, h.1, h.2.1, h.2.2⟩
theorem TOk.cons {p : Nat} {t : List Nat} (h : TOk p t) : ∀ x ∈ 0 :: t, x < (0 :: t).length := fun x hx => by
  rw [List.length_cons, h.1]
  rcases List.mem_cons.mp hx with e | m
  · have := h.1
    omega
  · exact h.2.1 x m
theorem cdOf_home (t : List Nat) : Home0 (cdOf (0 :: t)) := by
  refine ⟨rfl, ?_⟩
  rw [cdOf_cons]
  show 0 % _ = 0
  exact Nat.zero_mod _
theorem tree_cdOf {p : Nat} {t : List Nat} (h : TOk p t) : TreeOf (cdOf (0 :: t)) t := by
  refine ⟨0, 0, ⟨h.2.2, fun m hm => absurd hm (Nat.not_lt_zero _)⟩, ⟨cdOf_home t, fun k hk => absurd hk (Nat.not_lt_zero _)⟩, ?_⟩
  show t = (gos (cdOf (0 :: t))).drop 1
  rw [cdOf_gos h.cons]
  rfl
theorem cdOf_cdOk {p : Nat} {t : List Nat} (h : TOk p t) (p12 : p ≤ 12) : CdOk (cdOf (0 :: t)) := ⟨cdOf_ok (Nat.succ_pos _), by rw [cdOf_len, List.length_cons, h.1]; exact p12⟩
theorem gon_same {d : Cd} (h : COk d) : ∀ (k i : Nat), i < d.2.length → gon (cdOf (gos d)) k i = gon d k i
  | 0, _, _ => rfl
  | k + 1, i, hi => by
    have hg : ∀ x ∈ gos d, x < (gos d).length := fun x hx => by
      rw [gos_len]
      unfold gos at hx
      obtain ⟨j, _, rfl⟩ := List.mem_map.mp hx
      exact go_lt h j
    have e : go (cdOf (gos d)) i = go d i := by
      rw [cdOf_go hg (by rw [gos_len]; exact hi), List.getD_eq_getElem?_getD, gos_at hi]
      rfl
    show gon (cdOf (gos d)) k (go (cdOf (gos d)) i) = gon d k (go d i)
    rw [e]
    exact gon_same h k _ (go_lt h i)
/-- the tree of a coder is one -/
theorem treeOf_ok {c : Cd} (h : COk c) {t : List Nat} (a : TreeOf c t) : TOk c.2.length t := by
  have hp : 0 < c.2.length := Nat.lt_of_le_of_lt (Nat.zero_le _) h
  have l := treeOf_len a
  refine ⟨by omega, treeOf_lt h a, ?_⟩
  obtain ⟨n, j, a1, a2, rfl⟩ := a
  rw [it_add]
  have okd : COk (it j (it n c)) := it_ok j (it_ok n h)
  have frd : Free (it j (it n c)) := free_it j (it_ok n h) a1.1
  have h0 := a2.1
  generalize hd : it j (it n c) = d at *
  have dl : d.2.length = c.2.length := by rw [← hd, it_len, it_len]
  have e0 : go d 0 = 0 := by
    show (0 + len d 0) % d.2.length = 0
    rw [Nat.zero_add]
    exact h0.2
  have eg : 0 :: (gos d).drop 1 = gos d := by
    cases hg : gos d with
    | nil =>
      have z := gos_len d
      rw [hg] at z
      have z2 : 0 = d.2.length := z
      omega
    | cons x l =>
      have z := gos_at (c := d) (i := 0) (by omega)
      rw [hg, e0] at z
      have z2 : x = 0 := Option.some.inj z
      rw [z2]
      rfl
  rw [eg]
  intro i hi
  rw [cdOf_len, gos_len] at hi
  obtain ⟨k, hk⟩ := frd i hi
  refine ⟨k, ?_⟩
  rw [gon_same okd k i hi, hk]
  exact h0.1
def spCoderOf : Sp := fun vs H Q _ => ∃ (p : Nat) (a : Addr) (t : List Nat), vs = [.int (p : Int), .ref a] ∧ H a = some (.tup (t.map vN)) ∧ TOk p t ∧ p ≤ 12 ∧ ∀ v H', Same H H' → Cat H' v (cdOf (0 :: t)) → Q v H'
theorem ist_of {C1 : Addr} {Q : VK} {E : XK} {H : Hp} {v : V} {d : PyData} {p : Nat} (p1 : 1 ≤ p) (p12 : p ≤ 12) (h : Th H v d) (k : ∀ b H', (b = true ↔ IsTr p d) → Same H H' → Q (.bl b) H') : spIsTree C1 [.int (p : Int), v] H Q E := by
  refine ⟨_, v, .int (p : Int), d, rfl, .int _, h, fun z => ?_, fun p' e _ _ b H' hb s => ?_⟩
  · exfalso
    have y : (decide ((1 : Int) ≤ (p : Int)) && decide ((p : Int) ≤ 12)) = false := z
    rw [decide_eq_true (by omega), decide_eq_true (by omega)] at y
    cases y
  · have e2 : p' = p := by
      injection e with e
      omega
    subst e2
    exact k b H' hb s
def spLeast : Sp := fun vs H Q _ => ∃ (i g p : Nat), vs = [.int (i : Int), .int (g : Int), .int (p : Int)] ∧ i ≤ p ∧ g < p ∧ p ≤ 12 ∧ ∀ H', Same H H' → Q (.int (((g + (p - i)) % p : Nat) : Int)) H'
end Lk
end
section
set_option maxRecDepth 100000
set_option maxHeartbeats 2000000
/-! A drawn tree is one. -/
namespace Lk
open PySem PySem.Spec PyProof.Rows L2
theorem all_in {p : Nat} {os : List Nat} (nd : os.Nodup) (l : os.length + 1 = p) (b : ∀ x ∈ os, 1 ≤ x ∧ x < p) {i : Nat} (h1 : 1 ≤ i) (h2 : i < p) : i ∈ os := by
  refine Classical.byContradiction fun no => ?_
  have nd2 : (0 :: i :: os).Nodup := by
    refine List.nodup_cons.mpr ⟨fun m => ?_, List.nodup_cons.mpr ⟨no, nd⟩⟩
    rcases List.mem_cons.mp m with e | m
    · omega
    · have := b 0 m
      omega
  have z := nodup_below (p := p) nd2 fun x hx => by
    rcases List.mem_cons.mp hx with e | m
    · omega
    · rcases List.mem_cons.mp m with e | m
      · omega
      · exact (b x m).2
  simp only [List.length_cons] at z
  omega
theorem getD_mem {l : List Nat} {i : Nat} (h : i < l.length) : l.getD i 0 ∈ l := by
  rw [List.getD_eq_getElem?_getD, List.getElem?_eq_getElem h]
  exact List.getElem_mem h
theorem drawn_free {p : Nat} {os gs : List Nat} (nd : os.Nodup) (l : os.length + 1 = p) (b : ∀ x ∈ os, 1 ≤ x ∧ x < p) (gl : gs.length = p) (gb : ∀ x ∈ gs, x < p)
    (H : ∀ j, j < os.length → ∃ v, v ≤ j ∧ gs.getD (os.getD j 0) 0 = (0 :: os).getD v 0) : TOk p (gs.drop 1) := by
  have l1 : (gs.drop 1).length + 1 = p := by rw [List.length_drop]; omega
  have b1 : ∀ x ∈ gs.drop 1, x < p := fun x hx => gb x (List.mem_of_mem_drop hx)
  refine ⟨l1, b1, ?_⟩
  have hg : ∀ x ∈ 0 :: gs.drop 1, x < (0 :: gs.drop 1).length := fun x hx => by
    rw [List.length_cons, l1]
    rcases List.mem_cons.mp hx with e | m
    · omega
    · exact b1 x m
  have goat : ∀ i, 1 ≤ i → i < p → go (cdOf (0 :: gs.drop 1)) i = gs.getD i 0 := fun i h1 h2 => by
    rw [cdOf_go hg (by rw [List.length_cons, l1]; exact h2)]
    obtain ⟨k, rfl⟩ : ∃ k, i = k + 1 := ⟨i - 1, by omega⟩
    rw [List.getD_cons_succ, List.getD_eq_getElem?_getD, List.getElem?_drop, Nat.add_comm 1 k, ← List.getD_eq_getElem?_getD]
  have r0 : Rch (cdOf (0 :: gs.drop 1)) 0 := ⟨0, rfl⟩
  have up : ∀ i, Rch (cdOf (0 :: gs.drop 1)) (go (cdOf (0 :: gs.drop 1)) i) → Rch (cdOf (0 :: gs.drop 1)) i := fun i ⟨m, e⟩ => ⟨m + 1, e⟩
  have key : ∀ n j, j < n → j < os.length → Rch (cdOf (0 :: gs.drop 1)) (os.getD j 0) := by
    intro n
    induction n with
    | zero => exact fun j h => absurd h (Nat.not_lt_zero _)
    | succ n ih =>
      intro j hj hjl
      have hb := b _ (getD_mem hjl)
      refine up _ ?_
      rw [goat _ hb.1 hb.2]
      obtain ⟨v, hv, e⟩ := H j hjl
      rw [e]
      cases v with
      | zero => exact r0
      | succ v =>
        rw [List.getD_cons_succ]
        exact ih v (by omega) (by omega)
  intro i hi
  rw [cdOf_len, List.length_cons, l1] at hi
  by_cases h0 : i = 0
  · rw [h0]
    exact r0
  · obtain ⟨j, hj, e⟩ := List.mem_iff_getElem.mp (all_in nd l b (by omega) hi)
    have z := key (j + 1) j (by omega) hj
    rw [List.getD_eq_getElem?_getD, List.getElem?_eq_getElem hj] at z
    rw [← e]
    exact z
def spDTree2 : Sp := fun vs H Q _ => ∃ (a : Addr) (p : Nat) (n : Int), vs = [.ref a, .int (p : Int)] ∧ Urn H a n ∧ n ≤ 99000 ∧ 1 ≤ p ∧ p ≤ 12 ∧
  ∀ (t : List Nat) (pt : Addr) H', TOk p t → Urn H' a (n + 30) → SameBut a H H' → H' pt = some (.tup (t.map vN)) → Q (.ref pt) H'
theorem erase_perm : ∀ (l : List Nat) (k : Nat) (h : k < l.length), (l[k] :: l.eraseIdx k).Perm l
  | [], _, h => absurd h (Nat.not_lt_zero _)
  | x :: l, 0, _ => List.Perm.refl _
  | x :: l, k + 1, h => by
    have hk : k < l.length := by simpa using h
    show (l[k] :: x :: l.eraseIdx k).Perm (x :: l)
    exact (List.Perm.swap x (l[k]) (l.eraseIdx k)).trans ((erase_perm l k hk).cons x)
theorem nodup_move {ls os : List Nat} {k : Nat} (h : k < ls.length) (nd : (ls ++ os).Nodup) : (ls.eraseIdx k ++ (os ++ [ls[k]])).Nodup := by
  have p1 : (ls.eraseIdx k ++ (os ++ [ls[k]])).Perm (ls ++ os) := by
    have a : (ls[k] :: ls.eraseIdx k).Perm ls := erase_perm ls k h
    have b : (ls.eraseIdx k ++ (os ++ [ls[k]])).Perm (ls[k] :: (ls.eraseIdx k ++ os)) := by
      rw [← List.append_assoc]
      exact List.perm_append_comm (l₂ := [ls[k]])
    exact b.trans (a.append_right os)
  exact p1.nodup_iff.mpr nd
end Lk
end
section
set_option maxRecDepth 100000
set_option maxHeartbeats 2000000
/-! max of a tuple of ints. -/
namespace Lk
open PySem PySem.Spec PyProof.Rows L2
section
variable {prog : Program} {w : World} {A : Around} {E : Value → Shared → Prop} {s : Shared} {l : Addr}
theorem max_tupRaw {its : List Value} {ns : List Int} {Q : Value → Shared → Prop} (hh : A.handled = none) (hl : s.heap.IsTuple l its.toArray) (hi : IntsAre its ns) (hne : 0 < ns.length)
    (h : ∀ h' tk M t', (∀ b o, s.heap.get? b = some o → h'.get? b = some o) → M ∈ ns → (∀ a, a ∈ ns → a ≤ M) → Q (.int M t') { s with heap := h', toks := tk }) : wpAny (model prog w) A (call (.builtin "max") [.ref l]) Q E s := by
  obtain ⟨xs, e⟩ := hi.allInts.items
  have hn : numsOf (intItems xs).toList = ns := by rw [← e]; exact hi.numsOf
  rw [nums_intItems] at hn
  subst hn
  rw [e] at hl
  have hsz : 0 < xs.size := by simpa using hne
  have fin : ∀ v h' tk, (intItems xs)[argBest (fun i j => decide (numAt xs i > numAt xs j)) (xs.size - 1)]? = some v → (∀ b o, s.heap.get? b = some o → h'.get? b = some o) → Q v { s with heap := h', toks := tk } := fun v h' tk hv hk => by
    obtain ⟨t, rfl⟩ := intItems_at hv
    obtain ⟨h1, h2⟩ := argBest_gt (numAt xs) (xs.size - 1)
    refine h h' tk _ t hk ?_ fun a ha => ?_
    · rw [numAt_eq]; exact PySem.getD_mem (by rw [List.length_map, Array.length_toList]; omega)
    · obtain ⟨j, hj, rfl⟩ := mem_getD ha
      rw [List.length_map, Array.length_toList] at hj
      rw [← numAt_eq]; exact h2 j (by omega)
  have hll : l < s.heap.objs.size := by obtain ⟨o, ho, _⟩ := id hl; exact Heap.lt_size ho
  have hne2 : l ≠ s.heap.objs.size := Nat.ne_of_lt hll
  refine PySem.call_max_walk (wpAny_pyIter_tuple hl ?_)
  refine ⟨s.heap.objs.size, _, _, _, _, _, _, rfl, Walks.tuple (A := A.in1) hh _ l hne2 (intItems xs), ⟨?_, ?_⟩, fun b hb => ?_, by simpa [intItems] using hsz, CmpOf.ints_gt (numAt xs) (fun _ _ => intItems_at), fun v h' tk hP hk => ?_⟩
  · exact ⟨_, Heap.get?_push_size _ rfl, rfl, rfl⟩
  · exact hl.at fun o e => Heap.get?_push_of_some _ e
  · rw [Heap.size_push]
    rcases List.mem_cons.mp hb with z | z
    · rw [z]; exact Nat.lt_succ_self _
    · rw [List.mem_singleton.mp z]; exact Nat.lt_succ_of_lt hll
  · refine fin v h' tk (by simpa [intItems] using hP) fun b o e => hk b o (fun hb => ?_) (Heap.get?_push_of_some _ e)
    have z := Heap.lt_size e
    rw [List.mem_singleton.mp hb] at z
    exact Nat.lt_irrefl _ z
end
def rMaxT (K : PySem.W.Frag) : List V → Hp → VK → Prop := fun vs H Q => ∃ (a : Addr) (ns : List Int), vs = [V.ref a] ∧ SqT K H a (ns.map V.int) ∧ 0 < ns.length ∧ ∀ m, m ∈ ns → (∀ y, y ∈ ns → y ≤ m) → Q (.int m) H
theorem cr_maxT {X : Cx} (hc : X.calm = true) : CallR X (.builtin "max") (rMaxT X.K) := by
  intro pins s σ H vs us Q I r h
  obtain ⟨a, ns, rfl, hs, hne, q⟩ := h
  obtain ⟨its, rv, hl, _⟩ := I.tuple hs
  rw [Vals.ref1 r]
  exact max_tupRaw (I.ok.hd hc) hl rv.ints hne fun h' tk m t' hk h1 h2 => ⟨.int _, H, I.kept hk, ⟨_, rfl⟩, q m h1 h2⟩
end Lk
end
section
set_option maxRecDepth 100000
set_option maxHeartbeats 2000000
/-! Far words. -/
namespace Lk
open PySem PySem.Spec PyProof.Rows L2
theorem count_of1 {e : PyData} {m : Nat} (h : inR e 1 m = true) : ∃ n : Nat, e = .int n ∧ 1 ≤ n ∧ n ≤ m := by
  cases e with
  | int i =>
    have z : (decide ((1 : Int) ≤ i) && decide (i ≤ (m : Int))) = true := h
    rw [Bool.and_eq_true, decide_eq_true_eq, decide_eq_true_eq] at z
    exact ⟨i.toNat, by rw [Int.toNat_of_nonneg (by omega)], by omega, by omega⟩
  | _ => cases h
/-- NoCoder, NoCount of a number below 1 or beyond m; else told -/
def spOf1 (C1 C2 : Addr) (m : Nat) (told : Cd → Nat → VK → Hp → Prop) : Sp := fun vs H Q E => ∃ v u d e, vs = [v, u] ∧ Th H v d ∧ Th H u e ∧ (isCd d = false → ∀ H', Same H H' → E (.ref C1) none H') ∧
  (isCd d = true → inR e 1 m = false → ∀ H', Same H H' → E (.ref C2) none H') ∧ (∀ c (n : Nat), d = cdD c → CdOk c → e = .int n → 1 ≤ n → n ≤ m → told c n Q H)
def toldWd (c : Cd) (n : Nat) (Q : VK) (H : Hp) : Prop := ∀ q H', Same H H' → H' q = some (.tup [.int ((wd (it (n - 1) c)).1 : Int), .int ((wd (it (n - 1) c)).2 : Int)]) → Q (.ref q) H'
theorem of1_of {C1 C2 : Addr} {m : Nat} {told : Cd → Nat → VK → Hp → Prop} {Q : VK} {E : XK} {H : Hp} {v : V} {c : Cd} {n : Nat} (cat : Cat H v c) (ok : CdOk c) (h1 : 1 ≤ n) (hn : n ≤ m) (k : told c n Q H) : spOf1 C1 C2 m told [v, .int (n : Int)] H Q E := by
  refine ⟨v, .int (n : Int), cdD c, .int (n : Int), rfl, cat.th, .int _, fun z => ?_, fun _ z => ?_, fun c2 n2 ec _ en _ _ => ?_⟩
  · rw [isCd_cdD ok] at z
    cases z
  · exfalso
    have y : (decide ((1 : Int) ≤ (n : Int)) && decide ((n : Int) ≤ (m : Int))) = false := z
    rw [decide_eq_true (by omega), decide_eq_true (by omega)] at y
    cases y
  · have e := cdD_inj ec
    have e2 : n2 = n := by injection en with en; omega
    subst e e2
    exact k
theorem ofB_of {C1 C2 : Addr} {m : Nat} {told : Cd → Nat → VK → Hp → Prop} {Q : VK} {E : XK} {H : Hp} {v : V} {c : Cd} {n : Nat} (cat : Cat H v c) (ok : CdOk c) (hn : n ≤ m) (k : told c n Q H) : spOf C1 C2 m told [v, .int (n : Int)] H Q E := by
  refine ⟨v, .int (n : Int), cdD c, .int (n : Int), rfl, cat.th, .int _, fun z => ?_, fun _ z => ?_, fun c2 n2 ec _ en _ => ?_⟩
  · rw [isCd_cdD ok] at z
    cases z
  · exfalso
    have y : (decide ((0 : Int) ≤ (n : Int)) && decide ((n : Int) ≤ (m : Int))) = false := z
    rw [decide_eq_true (by omega), decide_eq_true (by omega)] at y
    cases y
  · have e := cdD_inj ec
    have e2 : n2 = n := by injection en with en; omega
    subst e e2
    exact k
/-- the greatest of the lengths -/
def IsMax (l : List Nat) (m : Nat) : Prop := m ∈ l ∧ ∀ x ∈ l, x ≤ m
theorem isMax_one {l : List Nat} {m n : Nat} (a : IsMax l m) (b : IsMax l n) : m = n := Nat.le_antisymm (b.2 _ a.1) (a.2 _ b.1)
def toldMax (c : Cd) (n : Nat) (Q : VK) (H : Hp) : Prop := ∀ (m : Nat) H', IsMax (it n c).2 m → Same H H' → Q (.int (m : Int)) H'
theorem ints_vN (l : List Nat) : l.map vN = (l.map fun n => ((n : Nat) : Int)).map V.int := by rw [List.map_map]; rfl
theorem isMax_of {l : List Nat} {m : Int} (h1 : m ∈ l.map fun n => ((n : Nat) : Int)) (h2 : ∀ y ∈ l.map (fun n => ((n : Nat) : Int)), y ≤ m) : ∃ n : Nat, m = (n : Int) ∧ IsMax l n := by
  obtain ⟨n, hn, rfl⟩ := List.mem_map.mp h1
  refine ⟨n, rfl, hn, fun x hx => ?_⟩
  have z := h2 (x : Int) (List.mem_map.mpr ⟨x, hx, rfl⟩)
  omega
/-- the law's pot -/
def spPot (K : PySem.W.Frag) : Sp := fun vs H Q _ => ∃ (S : Addr) (ns : List Int) (k : Nat), vs = [.ref S, .int (k : Int)] ∧ SqL K H S (ns.map V.int) ∧ k ≤ 63 ∧ ns.length ≤ 63 ∧ ∀ p H', H p = none → Same H H' → Urn H' p 0 → Q (.ref p) H'
def spFCoder : Sp := fun vs H Q _ => ∃ (a : Addr) (n : Int), vs = [.ref a] ∧ Urn H a n ∧ n ≤ 90000 ∧
  ∀ v c H', CdOk c → (∀ x ∈ c.2, x ≤ 10 ^ 30) → Urn H' a (n + 60) → SameBut a H H' → Cat H' v c → Q v H'
def spNumber : Sp := fun vs H Q _ => ∃ (a : Addr) (n : Int), vs = [.ref a] ∧ Urn H a n ∧ n ≤ 90000 ∧
  ∀ p H' m1 m2 m3 m4, H p = none → (∀ m ∈ [m1, m2, m3, m4], 1 ≤ m ∧ m ≤ 10 ^ 18 - 20) → Urn H' a (n + 3) → SameBut a H H' → H' p = some (.lst (([m1, m2, m3, m4] : List Nat).map vN)) → Q (.ref p) H'
end Lk
end
section
/-! Signs of coders: mathematics. -/
namespace Lk
/-- how many of the words of 1 to L letters from b on end just ahead of k -/
def cnt (p b k : Nat) : Nat → Nat
  | 0 => 0
  | L + 1 => cnt p b k L + (if (b + (L + 1)) % p = k then 1 else 0)
/-- a sum over the places -/
def sumR (p : Nat) (f : Nat → Int) : Int := ((List.range p).map f).sum
theorem sumR_zero (f : Nat → Int) : sumR 0 f = 0 := rfl
theorem sumR_succ (p : Nat) (f : Nat → Int) : sumR (p + 1) f = sumR p f + f p := by
  unfold sumR
  rw [List.range_succ, List.map_append, List.sum_append]
  simp
theorem sumR_congr {p : Nat} {f g : Nat → Int} (h : ∀ k, k < p → f k = g k) : sumR p f = sumR p g := by
  unfold sumR
  congr 1
  exact List.map_congr_left fun k hk => h k (List.mem_range.mp hk)
theorem sumR_add (p : Nat) (f g : Nat → Int) : sumR p (fun k => f k + g k) = sumR p f + sumR p g := by
  induction p with
  | zero => rfl
  | succ p ih => rw [sumR_succ, sumR_succ, sumR_succ, ih]; omega
theorem sumR_sub (p : Nat) (f g : Nat → Int) : sumR p (fun k => f k - g k) = sumR p f - sumR p g := by
  induction p with
  | zero => rfl
  | succ p ih => rw [sumR_succ, sumR_succ, sumR_succ, ih]; omega
theorem sumR_const (p : Nat) (x : Int) : sumR p (fun _ => x) = (p : Int) * x := by
  induction p with
  | zero => rw [sumR_zero]; simp
  | succ p ih => rw [sumR_succ, ih, Int.natCast_add, Int.add_mul]; simp
theorem sumR_swap (p q : Nat) (f : Nat → Nat → Int) : sumR p (fun i => sumR q (fun j => f i j)) = sumR q (fun j => sumR p (fun i => f i j)) := by
  induction p with
  | zero =>
    rw [sumR_zero]
    have : sumR q (fun j => sumR 0 fun i => f i j) = sumR q (fun _ => 0) := sumR_congr fun _ _ => rfl
    rw [this, sumR_const, Int.mul_zero]
  | succ p ih =>
    rw [sumR_succ, ih, ← sumR_add]
    exact sumR_congr fun j _ => (sumR_succ p _).symm
theorem sumR_one {p k : Nat} (h : k < p) (v : Int) : sumR p (fun i => if i = k then v else 0) = v := by
  induction p with
  | zero => omega
  | succ p ih =>
    rw [sumR_succ]
    by_cases e : k = p
    · subst e
      rw [if_pos rfl]
      have : sumR k (fun i => if i = k then v else 0) = sumR k (fun _ => 0) := sumR_congr fun i hi => if_neg (by omega)
      rw [this, sumR_const]
      omega
    · rw [ih (by omega), if_neg (by omega)]
      omega
theorem cnt_sum {p : Nat} (hp : 0 < p) (b : Nat) : ∀ L : Nat, sumR p (fun k => (cnt p b k L : Int)) = (L : Int)
  | 0 => by
    have : sumR p (fun k => (cnt p b k 0 : Int)) = sumR p (fun _ => 0) := sumR_congr fun _ _ => rfl
    rw [this, sumR_const]
    simp
  | L + 1 => by
    have h : (b + (L + 1)) % p < p := Nat.mod_lt _ hp
    have e : sumR p (fun k => (cnt p b k (L + 1) : Int)) = sumR p (fun k => (cnt p b k L : Int) + (if k = (b + (L + 1)) % p then 1 else 0)) := sumR_congr fun k _ => by
      show ((cnt p b k L + (if (b + (L + 1)) % p = k then 1 else 0) : Nat) : Int) = _
      by_cases g : (b + (L + 1)) % p = k
      · rw [if_pos g, if_pos g.symm]
        rfl
      · rw [if_neg g, if_neg (fun z => g z.symm)]
        rfl
    rw [e, sumR_add, cnt_sum hp b L, sumR_one h]
    rfl
/-- by how many letters the shortest such word is told -/
def wayOf (p : Nat) (b k : Int) : Int := (k - b - 1) % p + 1
theorem cnt_way {p : Nat} {b k : Nat} (hb : b < p) (hk : k < p) : ∀ L : Nat, ((L : Int) - wayOf p b k) / (p : Int) + 1 = (cnt p b k L : Int) := by
  have hp : (0 : Int) < p := by omega
  have w0 : 0 ≤ ((k : Int) - b - 1) % p := Int.emod_nonneg _ (by omega)
  have w1 : ((k : Int) - b - 1) % p < p := Int.emod_lt_of_pos _ hp
  have qd := Int.emod_add_mul_ediv ((k : Int) - b - 1) p
  intro L
  induction L with
  | zero =>
    show (((0 : Nat) : Int) - (((k : Int) - b - 1) % p + 1)) / (p : Int) + 1 = 0
    have : (((0 : Nat) : Int) - (((k : Int) - b - 1) % p + 1)) / (p : Int) = -1 := by
      refine (Int.ediv_emod_unique hp (r := (p : Int) - (((k : Int) - b - 1) % p + 1)) (q := -1)).mpr ⟨?_, by omega, by omega⟩ |>.1
      rw [Int.mul_neg, Int.mul_one]
      omega
    omega
  | succ L ih =>
    generalize hm : ((L : Int) - wayOf p b k) / (p : Int) = m at ih
    have rd := Int.emod_add_mul_ediv ((L : Int) - wayOf p b k) p
    have r0 : 0 ≤ ((L : Int) - wayOf p b k) % p := Int.emod_nonneg _ (by omega)
    have r1 : ((L : Int) - wayOf p b k) % p < p := Int.emod_lt_of_pos _ hp
    rw [hm] at rd
    generalize hr : ((L : Int) - wayOf p b k) % p = r at rd r0 r1
    have key : (((b + (L + 1)) % p : Nat) : Int) = ((k : Int) + r + 1) % p := by
      rw [Int.natCast_emod]
      have e : (((b + (L + 1) : Nat)) : Int) = ((k : Int) + r + 1) + (p : Int) * (m - ((k : Int) - b - 1) / p) := by
        rw [Int.mul_sub]
        unfold wayOf at rd
        generalize (p : Int) * m = M at *
        generalize (p : Int) * (((k : Int) - b - 1) / p) = N at *
        push_cast
        omega
      rw [e, Int.add_mul_emod_self_left]
    show (((L + 1 : Nat) : Int) - wayOf p b k) / (p : Int) + 1 = ((cnt p b k L + (if (b + (L + 1)) % p = k then 1 else 0) : Nat) : Int)
    rw [show ((cnt p b k L + (if (b + (L + 1)) % p = k then 1 else 0) : Nat) : Int) = (cnt p b k L : Int) + ((if (b + (L + 1)) % p = k then 1 else 0 : Nat) : Int) from Int.natCast_add _ _, ← ih]
    by_cases g : r + 1 = p
    · have e2 : (((L + 1 : Nat) : Int) - wayOf p b k) / (p : Int) = m + 1 := by
        refine (Int.ediv_emod_unique hp (r := 0) (q := m + 1)).mpr ⟨?_, by omega, by omega⟩ |>.1
        rw [Int.mul_add, Int.mul_one]
        omega
      have e3 : (b + (L + 1)) % p = k := by
        have z : ((k : Int) + r + 1) % p = k := by
          rw [show (k : Int) + r + 1 = (k : Int) + p by omega, Int.add_emod_right]
          exact Int.emod_eq_of_lt (by omega) (by omega)
        rw [z] at key
        omega
      rw [e2, if_pos e3]
      omega
    · have e2 : (((L + 1 : Nat) : Int) - wayOf p b k) / (p : Int) = m := by
        refine (Int.ediv_emod_unique hp (r := r + 1) (q := m)).mpr ⟨by omega, by omega, by omega⟩ |>.1
      have e3 : ¬ (b + (L + 1)) % p = k := by
        intro z
        rw [z] at key
        rcases Int.lt_or_le ((k : Int) + r + 1) p with l | l
        · rw [Int.emod_eq_of_lt (by omega) l] at key
          omega
        · have : ((k : Int) + r + 1) % p = (k : Int) + r + 1 - p := by
            rw [← Int.sub_emod_right]
            exact Int.emod_eq_of_lt (by omega) (by omega)
          omega
      rw [e2, if_neg e3]
      omega
/-- how many of the words of these lengths end just ahead of k -/
def endsI (ls : List Nat) (k : Nat) : Int := sumR ls.length fun b => (cnt ls.length b k (ls.getD b 0) : Int)
/-- what is counted at a place -/
def num (c : Cd) (k : Nat) : Int := (len c k : Int) - endsI c.2 k + (if k = c.1 then 1 else 0)
def sgn (c : Cd) : List Nat := (List.range c.2.length).map fun k => ((num c k - num c 0) % (c.2.length : Int)).toNat
theorem sgn_len (c : Cd) : (sgn c).length = c.2.length := by
  unfold sgn
  rw [List.length_map, List.length_range]
theorem sgn_at {c : Cd} {k : Nat} (h : k < c.2.length) : (sgn c)[k]? = some (((num c k - num c 0) % (c.2.length : Int)).toNat) := by
  unfold sgn
  rw [List.getElem?_map, List.getElem?_range h]
  rfl
theorem sgn_lt {c : Cd} : ∀ x ∈ sgn c, x < c.2.length := by
  intro x hx
  obtain ⟨k, hk, rfl⟩ := List.mem_map.mp hx
  have hk := List.mem_range.mp hk
  have h1 := Int.emod_nonneg (num c k - num c 0) (show (c.2.length : Int) ≠ 0 by omega)
  have h2 := Int.emod_lt_of_pos (num c k - num c 0) (show (0 : Int) < (c.2.length : Int) by omega)
  omega
theorem sgn_zero {c : Cd} (h : 0 < c.2.length) : (sgn c).getD 0 0 = 0 := by
  rw [List.getD_eq_getElem?_getD, sgn_at h, Int.sub_self]
  simp
theorem num_sum {c : Cd} (h : COk c) : sumR c.2.length (num c) = 1 := by
  have e : sumR c.2.length (num c) = sumR c.2.length (fun k => ((len c k : Int) - endsI c.2 k) + (if k = c.1 then 1 else 0)) := sumR_congr fun _ _ => rfl
  rw [e, sumR_add, sumR_sub, sumR_one h]
  have e2 : sumR c.2.length (fun k => endsI c.2 k) = sumR c.2.length fun b => (len c b : Int) := by
    unfold endsI
    rw [sumR_swap]
    exact sumR_congr fun b _ => cnt_sum (Nat.lt_of_le_of_lt (Nat.zero_le _) h) b _
  rw [e2]
  omega
theorem emod_sum {p : Nat} (hp : 0 < p) (n : Nat) (f : Nat → Int) : (sumR n fun k => (((f k) % (p : Int)).toNat : Int)) % (p : Int) = sumR n f % (p : Int) := by
  induction n with
  | zero => rfl
  | succ n ih =>
    have h1 := Int.emod_nonneg (f n) (show (p : Int) ≠ 0 by omega)
    rw [sumR_succ, sumR_succ, Int.add_emod, ih, Int.toNat_of_nonneg h1, Int.emod_emod, ← Int.add_emod]
theorem sum_nat (n : Nat) (f : Nat → Nat) : ((((List.range n).map f).sum : Nat) : Int) = sumR n fun k => (f k : Int) := by
  induction n with
  | zero => rfl
  | succ n ih => rw [sumR_succ, ← ih, List.range_succ, List.map_append, List.sum_append]; simp
theorem sgn_sum {c : Cd} (h : COk c) : (sgn c).sum % c.2.length = 1 % c.2.length := by
  have z : (((sgn c).sum % c.2.length : Nat) : Int) = ((1 % c.2.length : Nat) : Int) := by
    unfold sgn
    rw [Int.natCast_emod, sum_nat, emod_sum (Nat.lt_of_le_of_lt (Nat.zero_le _) h), sumR_sub, num_sum h, sumR_const, Int.sub_mul_emod_self_left, Int.natCast_emod]
    rfl
  exact Int.ofNat.inj z
/-- a table over the places -/
theorem emod_same {p : Nat} {a b : Int} (h : ∃ k : Int, a = b + p * k) : a % (p : Int) = b % (p : Int) := by
  obtain ⟨k, rfl⟩ := h
  exact Int.add_mul_emod_self_left _ _ _
end Lk
end
section
/-! What signs tell of rounds: mathematics. -/
namespace Lk
theorem endsI_eq (c : Cd) (k : Nat) : endsI c.2 k = sumR c.2.length fun b => (cnt c.2.length b k (len c b) : Int) := rfl
theorem num_nx {c : Cd} (h : COk c) (k : Nat) : num (nx c) k = num c k := by
  unfold num
  rw [endsI_eq, endsI_eq, nx_len]
  have e : sumR c.2.length (fun b => (cnt c.2.length b k (len (nx c) b) : Int)) = sumR c.2.length (fun b => (cnt c.2.length b k (len c b) : Int) + (if b = c.1 then (if k = (nx c).1 then 1 else 0) else 0)) := sumR_congr fun b _ => by
    by_cases g : b = c.1
    · subst g
      rw [len_nx_same h, if_pos rfl]
      show ((cnt c.2.length c.1 k (len c c.1) + (if (c.1 + (len c c.1 + 1)) % c.2.length = k then 1 else 0) : Nat) : Int) = _
      by_cases g2 : k = (nx c).1
      · rw [if_pos g2, if_pos (show (c.1 + (len c c.1 + 1)) % c.2.length = k from g2.symm)]
        rfl
      · rw [if_neg g2, if_neg (show ¬ (c.1 + (len c c.1 + 1)) % c.2.length = k from fun z => g2 z.symm)]
        rfl
    · rw [len_nx_ne g, if_neg g]
      omega
  rw [e, sumR_add, sumR_one h]
  by_cases g : k = c.1
  · subst g
    rw [len_nx_same h, if_pos rfl]
    push_cast
    omega
  · rw [len_nx_ne g, if_neg g]
    omega
theorem num_it : ∀ (n : Nat) {c : Cd}, COk c → ∀ k, num (it n c) k = num c k
  | 0, _, _, _ => rfl
  | n + 1, _, h, k => (num_it n (nx_ok h) k).trans (num_nx h k)
theorem sgn_of_num {c d : Cd} (l : c.2.length = d.2.length) (h : ∀ k, k < c.2.length → (num c k - num c 0) % (c.2.length : Int) = (num d k - num d 0) % (c.2.length : Int)) : sgn c = sgn d := by
  unfold sgn
  rw [← l]
  exact List.map_congr_left fun k hk => by rw [h k (List.mem_range.mp hk)]
theorem sgn_it (n : Nat) {c : Cd} (h : COk c) : sgn (it n c) = sgn c :=
  sgn_of_num (it_len n) fun k _ => by rw [num_it n h, num_it n h]
theorem sgn_num {c d : Cd} (l : c.2.length = d.2.length) (e : sgn c = sgn d) {k : Nat} (hk : k < c.2.length) : (num c k - num c 0) % (c.2.length : Int) = (num d k - num d 0) % (c.2.length : Int) := by
  have h1 := sgn_at hk
  rw [e, sgn_at (l ▸ hk)] at h1
  have h2 := Option.some.inj h1
  rw [← l] at h2
  have p1 := Int.emod_nonneg (num c k - num c 0) (show (c.2.length : Int) ≠ 0 by omega)
  have p2 := Int.emod_nonneg (num d k - num d 0) (show (c.2.length : Int) ≠ 0 by omega)
  omega
theorem cnt_add (p b k m : Nat) (hb : b < p) (hk : k < p) (L : Nat) : (cnt p b k (L + p * m) : Int) = (cnt p b k L : Int) + m := by
  rw [← cnt_way hb hk, ← cnt_way hb hk]
  have e : ((L + p * m : Nat) : Int) - wayOf p b k = ((L : Int) - wayOf p b k) + (p : Int) * (m : Int) := by
    push_cast
    omega
  rw [e, Int.add_mul_ediv_left _ _ (by omega)]
  omega
theorem num_more {c d : Cd} (l : d.2.length = c.2.length) (e1 : d.1 = c.1) {m : Nat → Nat} (h : ∀ k, k < c.2.length → len d k = len c k + c.2.length * m k) {k : Nat} (hk : k < c.2.length) :
    num d k = num c k + (c.2.length : Int) * m k - sumR c.2.length fun b => (m b : Int) := by
  unfold num
  rw [endsI_eq, endsI_eq, l, e1]
  have e : sumR c.2.length (fun b => (cnt c.2.length b k (len d b) : Int)) = sumR c.2.length (fun b => (cnt c.2.length b k (len c b) : Int) + (m b : Int)) := sumR_congr fun b hb => by
    rw [h b hb, cnt_add _ _ _ _ hb hk]
  rw [e, sumR_add, h k hk]
  push_cast
  omega
theorem sgn_more {c d : Cd} (l : d.2.length = c.2.length) (e1 : d.1 = c.1) {m : Nat → Nat} (h : ∀ k, k < c.2.length → len d k = len c k + c.2.length * m k) : sgn d = sgn c := by
  refine (sgn_of_num l.symm fun k hk => ?_).symm
  rw [num_more l e1 h hk, num_more l e1 h (Nat.lt_of_le_of_lt (Nat.zero_le _) hk)]
  rw [show num c k + (c.2.length : Int) * m k - sumR c.2.length (fun b => (m b : Int)) - (num c 0 + (c.2.length : Int) * m 0 - sumR c.2.length fun b => (m b : Int)) = (num c k - num c 0) + (c.2.length : Int) * ((m k : Int) - m 0) by
    rw [Int.mul_sub]
    omega]
  rw [Int.add_mul_emod_self_left]
/-- the lengths modulo the places -/
def bs (c : Cd) : Cd := (c.1, c.2.map (· % c.2.length))
theorem bs_len (c : Cd) : (bs c).2.length = c.2.length := List.length_map _
theorem bs_at {c : Cd} {k : Nat} (h : k < c.2.length) : len (bs c) k = len c k % c.2.length := by
  show (c.2.map (· % c.2.length)).getD k 0 = c.2.getD k 0 % c.2.length
  rw [List.getD_eq_getElem?_getD, List.getElem?_map, List.getD_eq_getElem?_getD, List.getElem?_eq_getElem h]
  rfl
theorem sgn_bs (c : Cd) : sgn (bs c) = sgn c := by
  refine (sgn_more (c := bs c) (d := c) (bs_len c).symm rfl (m := fun k => len c k / c.2.length) fun k hk => ?_).symm
  rw [bs_len] at hk ⊢
  rw [bs_at hk, Nat.add_comm, Nat.div_add_mod]
theorem ext_len {c d : Cd} (l : c.2.length = d.2.length) (e1 : c.1 = d.1) (h : ∀ k, k < c.2.length → len c k = len d k) : c = d := by
  refine Prod.ext e1 (List.ext_getElem l fun k h1 h2 => ?_)
  have z := h k h1
  unfold len at z
  rw [List.getD_eq_getElem?_getD, List.getD_eq_getElem?_getD, List.getElem?_eq_getElem h1, List.getElem?_eq_getElem h2] at z
  exact z
theorem sgn_cong {c d : Cd} (l : c.2.length = d.2.length) (e1 : c.1 = d.1) (h : ∀ k, k < c.2.length → len c k % c.2.length = len d k % c.2.length) : sgn c = sgn d := by
  rw [← sgn_bs c, ← sgn_bs d]
  refine congrArg sgn (ext_len (by rw [bs_len, bs_len, l]) e1 fun k hk => ?_)
  rw [bs_len] at hk
  rw [bs_at hk, bs_at (l ▸ hk), h k hk, l]
theorem go_cong {c d : Cd} (l : c.2.length = d.2.length) {k : Nat} (h : len c k % c.2.length = len d k % c.2.length) : go c k = go d k := by
  unfold go
  rw [← l, Nat.add_mod, h, ← Nat.add_mod]
theorem gon_cong {c d : Cd} (hc : COk c) (l : c.2.length = d.2.length) (h : ∀ k, k < c.2.length → len c k % c.2.length = len d k % c.2.length) : ∀ (n i : Nat), i < c.2.length → gon c n i = gon d n i
  | 0, _, _ => rfl
  | n + 1, i, hi => by
    show gon c n (go c i) = gon d n (go d i)
    rw [← go_cong l (h i hi)]
    exact gon_cong hc l h n _ (Nat.mod_lt _ (Nat.lt_of_le_of_lt (Nat.zero_le _) hc))
theorem free_cong {c d : Cd} (hc : COk c) (l : c.2.length = d.2.length) (e1 : c.1 = d.1) (h : ∀ k, k < c.2.length → len c k % c.2.length = len d k % c.2.length) (f : Free c) : Free d := fun i hi => by
  obtain ⟨k, e⟩ := f i (l ▸ hi)
  exact ⟨k, by rw [← gon_cong hc l h k i (l ▸ hi), e, e1]⟩
theorem cnt_mono (p b k : Nat) {L M : Nat} (h : L ≤ M) : cnt p b k L ≤ cnt p b k M := by
  induction h with
  | refl => exact Nat.le_refl _
  | step _ ih => exact Nat.le_trans ih (Nat.le_add_right _ _)
theorem cnt_lt {p b k L M : Nat} (h : L < M) (e : (b + M) % p = k) : cnt p b k L < cnt p b k M := by
  obtain ⟨m, rfl⟩ : ∃ m, M = m + 1 := ⟨M - 1, by omega⟩
  have z := cnt_mono p b k (show L ≤ m by omega)
  show _ < cnt p b k m + (if (b + (m + 1)) % p = k then 1 else 0)
  rw [if_pos e]
  omega
theorem sumR_le {p : Nat} {f g : Nat → Int} (h : ∀ k, k < p → f k ≤ g k) : sumR p f ≤ sumR p g := by
  induction p with
  | zero => exact Int.le_refl _
  | succ p ih =>
    rw [sumR_succ, sumR_succ]
    have a := ih fun k hk => h k (by omega)
    have b := h p (by omega)
    omega
theorem sumR_lt {p : Nat} {f g : Nat → Int} (h : ∀ k, k < p → f k ≤ g k) {j : Nat} (hj : j < p) (l : f j < g j) : sumR p f < sumR p g := by
  induction p with
  | zero => omega
  | succ p ih =>
    rw [sumR_succ, sumR_succ]
    by_cases e : j = p
    · subst e
      have a := sumR_le (p := j) fun k hk => h k (by omega)
      omega
    · have a := ih (fun k hk => h k (by omega)) (by omega)
      have b := h p (by omega)
      omega
theorem ends_le {x d : Cd} (l : d.2.length = x.2.length) (h : ∀ i, i < x.2.length → len x i ≤ len d i) (k : Nat) : endsI x.2 k ≤ endsI d.2 k := by
  rw [endsI_eq, endsI_eq, l]
  exact sumR_le fun b hb => Int.ofNat_le.mpr (cnt_mono _ _ _ (h b hb))
theorem ends_lt {x d : Cd} (l : d.2.length = x.2.length) (h : ∀ i, i < x.2.length → len x i ≤ len d i) {b : Nat} (hb : b < x.2.length) (hl : len x b < len d b) : endsI x.2 (go d b) < endsI d.2 (go d b) := by
  rw [endsI_eq, endsI_eq, l]
  exact sumR_lt (fun b hb => Int.ofNat_le.mpr (cnt_mono _ _ _ (h b hb))) hb (Int.ofNat_lt.mpr (cnt_lt hl (by unfold go; rw [l])))
/-- who is home with last goings that lead there has been walked to, where all that was counted is the same -/
theorem best : ∀ (n : Nat) {x d : Cd}, COk x → d.2.length = x.2.length → COk d → Free d → (∀ i, i < x.2.length → len x i ≤ len d i) → (∀ k, k < x.2.length → num x k = num d k) → d.2.sum = x.2.sum + n → d = it n x
  | 0, x, d, hx, l, hd, fr, le, nu, sm => by
    have eq : ∀ i, i < x.2.length → len x i = len d i := by
      refine S_eq x.2.length le ?_
      have a := S_getD x.2
      have b := S_getD d.2
      rw [l] at b
      show S x.2.length (fun i => x.2.getD i 0) = S x.2.length (fun i => d.2.getD i 0)
      omega
    have e1 : ((0, d.2) : Cd) = ((0, x.2) : Cd) := ext_len (c := (0, d.2)) (d := (0, x.2)) l rfl fun k hk => (eq k (l ▸ hk)).symm
    have e2' := congrArg Prod.snd e1
    have e2 : d.2 = x.2 := e2'
    have z := nu x.1 hx
    unfold num at z
    rw [if_pos rfl, e2, eq x.1 hx] at z
    by_cases g : x.1 = d.1
    · exact Prod.ext g.symm e2
    · rw [if_neg g] at z
      omega
  | n + 1, x, d, hx, l, hd, fr, le, nu, sm => by
    have key : len x x.1 < len d x.1 := by
      refine Nat.lt_of_not_le fun no => ?_
      have eqx : len x x.1 = len d x.1 := Nat.le_antisymm (le _ hx) no
      have z := nu x.1 hx
      have zl := ends_le l le x.1
      unfold num at z
      rw [if_pos rfl, eqx] at z
      have home : x.1 = d.1 := by
        by_cases g : x.1 = d.1
        · exact g
        · rw [if_neg g] at z
          omega
      rw [if_pos home] at z
      have ends0 : endsI x.2 x.1 = endsI d.2 x.1 := by omega
      obtain ⟨b, hb, hlb⟩ : ∃ b, b < x.2.length ∧ len x b < len d b := by
        refine Classical.byContradiction fun q => ?_
        have all : ∀ b, b < x.2.length → len d b ≤ len x b := fun b hb => Nat.le_of_not_lt fun z => q ⟨b, hb, z⟩
        have a := S_getD x.2
        have c := S_getD d.2
        rw [l] at c
        have m := S_mono x.2.length (f := fun i => d.2.getD i 0) (g := fun i => x.2.getD i 0) all
        omega
      have walk : ∀ (m b : Nat), b < x.2.length → len x b < len d b → gon d m b = d.1 → False := by
        intro m
        induction m with
        | zero =>
          intro b hb hlb e
          have e2 : b = x.1 := e.trans home.symm
          rw [e2] at hlb
          omega
        | succ m ih =>
          intro b hb hlb e
          have e2 : gon d m (go d b) = d.1 := e
          have hv : go d b < x.2.length := by
            rw [← l]
            exact Nat.mod_lt _ (Nat.lt_of_le_of_lt (Nat.zero_le _) hd)
          have lt := ends_lt l le hb hlb
          by_cases g : go d b = x.1
          · rw [g] at lt
            omega
          · refine ih _ hv ?_ e2
            have z2 := nu _ hv
            unfold num at z2
            rw [if_neg g, if_neg (fun y => g (y.trans home.symm))] at z2
            omega
      obtain ⟨m, e⟩ := fr b (l ▸ hb)
      exact walk m b hb hlb e
    refine best n (nx_ok hx) (l.trans nx_len.symm) hd fr (fun i hi => ?_) (fun k hk => ?_) ?_
    · rw [nx_len] at hi
      by_cases g : i = x.1
      · rw [g, len_nx_same hx]
        exact key
      · rw [len_nx_ne g]
        exact le i hi
    · rw [nx_len] at hk
      rw [num_nx hx]
      exact nu k hk
    · rw [sum_nx hx]
      omega
/-- one sign: the one comes to the other's place, lengths alike modulo the places -/
theorem sgn_best {c d : Cd} (hc : COk c) (hd : COk d) (l : d.2.length = c.2.length) (fr : Free d) (e : sgn c = sgn d) :
    ∃ n d', it n c = d' ∧ d'.2.length = d.2.length ∧ d'.1 = d.1 ∧ ∀ k, k < d.2.length → len d k ≤ len d' k ∧ len d' k % d.2.length = len d k % d.2.length := by
  have hp : 0 < c.2.length := Nat.lt_of_le_of_lt (Nat.zero_le _) hc
  have dv : ∀ k, k < c.2.length → ∃ q : Int, (num d k - num d 0) - (num c k - num c 0) = (c.2.length : Int) * q := fun k hk => by
    have z := sgn_num l.symm e hk
    exact Int.dvd_of_emod_eq_zero (by rw [Int.sub_emod, z, Int.sub_self, Int.zero_emod])
  obtain ⟨q, hq⟩ : ∃ q : Nat → Int, ∀ k, k < c.2.length → (num d k - num d 0) - (num c k - num c 0) = (c.2.length : Int) * q k := by
    refine ⟨fun k => ((num d k - num d 0) - (num c k - num c 0)) / (c.2.length : Int), fun k hk => ?_⟩
    obtain ⟨y, hy⟩ := dv k hk
    rw [hy]
    show (c.2.length : Int) * y = (c.2.length : Int) * (((num d k - num d 0) - (num c k - num c 0)) / (c.2.length : Int))
    rw [hy, Int.mul_ediv_cancel_left _ (by omega)]
  have sq : (c.2.length : Int) * (num d 0 - num c 0) + (c.2.length : Int) * sumR c.2.length q = 0 := by
    have s1 := num_sum hc
    have s2 := num_sum hd
    rw [l] at s2
    have s3 : sumR c.2.length (fun k => (c.2.length : Int) * q k) = sumR c.2.length (fun k => (num d k - num c k) - (num d 0 - num c 0)) := sumR_congr fun k hk => by
      have := hq k hk
      omega
    have s4 : sumR c.2.length (fun k => (num d k - num c k) - (num d 0 - num c 0)) = sumR c.2.length (num d) - sumR c.2.length (num c) - (c.2.length : Int) * (num d 0 - num c 0) := by
      rw [sumR_sub c.2.length (fun k => num d k - num c k) (fun _ => num d 0 - num c 0), sumR_const]
      have : sumR c.2.length (fun k => num d k - num c k) = sumR c.2.length (num d) - sumR c.2.length (num c) := sumR_sub _ _ _
      rw [this]
    have s5 : ∀ p : Nat, sumR p (fun k => (c.2.length : Int) * q k) = (c.2.length : Int) * sumR p q := fun p => by
      induction p with
      | zero => rw [sumR_zero, sumR_zero, Int.mul_zero]
      | succ p ih => rw [sumR_succ, sumR_succ, ih, Int.mul_add]
    rw [s5, s4, s1, s2] at s3
    omega
  have sq2 : num d 0 - num c 0 = - sumR c.2.length q := by
    have z : (c.2.length : Int) * ((num d 0 - num c 0) + sumR c.2.length q) = 0 := by rw [Int.mul_add]; exact sq
    rcases Int.mul_eq_zero.mp z with h | h
    · omega
    · omega
  obtain ⟨f0, hf0⟩ : ∃ f0 : Int, ∀ k, k < c.2.length → q k + (len c k : Int) ≤ f0 := by
    have ex : ∀ p : Nat, ∃ f0 : Int, ∀ k, k < p → q k + (len c k : Int) ≤ f0 := fun p => by
      induction p with
      | zero => exact ⟨0, fun k hk => absurd hk (Nat.not_lt_zero k)⟩
      | succ p ih =>
        obtain ⟨f, hf⟩ := ih
        refine ⟨max f (q p + (len c p : Int)), fun k hk => ?_⟩
        by_cases g : k = p
        · rw [g]
          exact Int.le_max_right _ _
        · exact Int.le_trans (hf k (by omega)) (Int.le_max_left _ _)
    exact ex _
  have hm : ∀ k, k < c.2.length → (((f0 - q k).toNat : Nat) : Int) = f0 - q k := fun k hk => Int.toNat_of_nonneg (by have := hf0 k hk; omega)
  let d' : Cd := (d.1, (List.range c.2.length).map fun k => len d k + c.2.length * (f0 - q k).toNat)
  have ld : d'.2.length = c.2.length := by
    show ((List.range c.2.length).map _).length = _
    rw [List.length_map, List.length_range]
  have ad : ∀ k, k < c.2.length → len d' k = len d k + c.2.length * (f0 - q k).toNat := fun k hk => by
    show ((List.range c.2.length).map _).getD k 0 = _
    rw [List.getD_eq_getElem?_getD, List.getElem?_map, List.getElem?_range hk]
    rfl
  have cg : ∀ k, k < d.2.length → len d k % d.2.length = len d' k % d.2.length := fun k hk => by
    rw [ad k (l ▸ hk), l, Nat.add_mul_mod_self_left]
  have hd' : COk d' := by
    show d.1 < d'.2.length
    rw [ld, ← l]
    exact hd
  have fr' : Free d' := free_cong hd (l.trans ld.symm) rfl cg fr
  have le : ∀ i, i < c.2.length → len c i ≤ len d' i := fun i hi => by
    rw [ad i hi]
    have z := hf0 i hi
    have z2 := hm i hi
    have z3 : (f0 - q i).toNat ≤ c.2.length * (f0 - q i).toNat := Nat.le_mul_of_pos_left _ hp
    omega
  have nu : ∀ k, k < c.2.length → num c k = num d' k := fun k hk => by
    have z := num_more (c := d) (d := d') (ld.trans l.symm) rfl (m := fun k => (f0 - q k).toNat) (fun k hk => by rw [l]; exact ad k (l ▸ hk)) (k := k) (by rw [l]; exact hk)
    rw [l] at z
    have z2 : sumR c.2.length (fun b => (((f0 - q b).toNat : Nat) : Int)) = (c.2.length : Int) * f0 - sumR c.2.length q := by
      rw [sumR_congr (g := fun b => f0 - q b) fun b hb => hm b hb, sumR_sub c.2.length (fun _ => f0) q, sumR_const]
    rw [z2, hm k hk, Int.mul_sub] at z
    have z3 := hq k hk
    omega
  have ls : c.2.sum ≤ d'.2.sum := sum_le ld.symm fun i hi => le i (ld ▸ hi)
  refine ⟨d'.2.sum - c.2.sum, d', (best (d'.2.sum - c.2.sum) hc ld hd' fr' le nu (by omega)).symm, ld.trans l.symm, rfl, fun k hk => ⟨?_, (cg k hk).symm⟩⟩
  rw [ad k (l ▸ hk)]
  exact Nat.le_add_right _ _
end Lk
end
section
set_option maxRecDepth 100000
set_option maxHeartbeats 2000000
/-! One tree just where there is one sign. -/
namespace Lk
open PySem PySem.Spec PyProof.Rows L2
theorem orbit {C : Cd} (h : COk C) (f : Free C) (h0 : Home0 C) {N : Nat} (hN : Home0 (it N C)) : ∃ j, it N C = (C.1, C.2.map (· + j * C.2.length)) := by
  have hp : 0 < C.2.length := Nat.lt_of_le_of_lt (Nat.zero_le _) h
  obtain ⟨z1, z2⟩ := h0
  obtain ⟨y1, y2⟩ := hN
  rw [it_len] at y2
  have mono := len_mono N 0 h
  obtain ⟨j, hj⟩ : ∃ j, len (it N C) 0 = len C 0 + j * C.2.length := by
    have d1 := Nat.dvd_of_mod_eq_zero z2
    have d2 := Nat.dvd_of_mod_eq_zero y2
    obtain ⟨a, ha⟩ := d1
    obtain ⟨b, hb⟩ := d2
    refine ⟨b - a, ?_⟩
    have ab : a ≤ b := Nat.le_of_mul_le_mul_left (by rw [← ha, ← hb]; exact mono) hp
    rw [ha, hb, Nat.mul_comm (b - a), Nat.mul_sub]
    have := Nat.mul_le_mul_left C.2.length ab
    omega
  have e := it_rounds h f j
  have el : len (it (j * (C.2.length * C.2.length)) C) 0 = len C 0 + j * C.2.length := by
    rw [e]
    exact getD_map_add _ _ hp
  have eh : (it (j * (C.2.length * C.2.length)) C).1 = 0 := by rw [e]; exact z1
  refine ⟨j, ?_⟩
  generalize j * (C.2.length * C.2.length) = M at e el eh
  rcases Nat.lt_trichotomy N M with l | l | l
  · exfalso
    have s := len_nx_same (it_ok N h)
    rw [y1] at s
    have m := len_mono (M - (N + 1)) 0 (it_ok (N + 1) h)
    rw [← it_add, show N + 1 + (M - (N + 1)) = M by omega, it_succ] at m
    omega
  · rw [l]
    exact e
  · exfalso
    have s := len_nx_same (it_ok M h)
    rw [eh] at s
    have m := len_mono (N - (M + 1)) 0 (it_ok (M + 1) h)
    rw [← it_add, show M + 1 + (N - (M + 1)) = N by omega, it_succ] at m
    omega
theorem gos_cong {c d : Cd} (l : c.2.length = d.2.length) (h : ∀ k, k < c.2.length → len c k % c.2.length = len d k % c.2.length) : gos c = gos d := by
  refine List.ext_getElem? fun i => ?_
  by_cases hi : i < c.2.length
  · rw [gos_at hi, gos_at (l ▸ hi), go_cong l (h i hi)]
  · rw [List.getElem?_eq_none (by rw [gos_len]; omega), List.getElem?_eq_none (by rw [gos_len]; omega)]
theorem len_of_go {c d : Cd} (l : c.2.length = d.2.length) {i : Nat} (h : go c i = go d i) : len c i % c.2.length = len d i % c.2.length := by
  unfold go at h
  rw [← l] at h
  have z : ((i : Int) + len c i) % (c.2.length : Int) = ((i : Int) + len d i) % (c.2.length : Int) := by
    have y := congrArg (fun n : Nat => (n : Int)) h
    simpa using y
  have z2 : ((len c i : Nat) : Int) % (c.2.length : Int) = ((len d i : Nat) : Int) % (c.2.length : Int) := by
    refine Int.emod_emod_of_dvd _ (Int.dvd_refl _) ▸ ?_
    have a := Int.emod_emod_of_dvd (((i : Int) + len c i)) (Int.dvd_refl (c.2.length : Int))
    have b : (((i : Int) + len c i) - i) % (c.2.length : Int) = (((i : Int) + len d i) - i) % (c.2.length : Int) := by rw [Int.sub_emod, z, ← Int.sub_emod]
    rw [show (i : Int) + len c i - i = len c i by omega, show (i : Int) + len d i - i = len d i by omega] at b
    simpa using b
  exact Int.ofNat.inj (by simpa using z2)
/-- one tree just where there is one sign -/
theorem tree_sgn {c d : Cd} {t u : List Nat} (hc : COk c) (hd : COk d) (l : d.2.length = c.2.length) (a : TreeOf c t) (b : TreeOf d u) : t = u ↔ sgn c = sgn d := by
  obtain ⟨n, j, an, ⟨hm, _⟩, rfl⟩ := a
  obtain ⟨m, k, bm, ⟨hk, _⟩, rfl⟩ := b
  rw [← it_add] at hm hk
  have frC : Free (it (n + j) c) := by rw [it_add]; exact free_it j (it_ok n hc) an.1
  have frD : Free (it (m + k) d) := by rw [it_add]; exact free_it k (it_ok m hd) bm.1
  have okC := it_ok (n + j) hc
  have okD := it_ok (m + k) hd
  rw [← sgn_it (n + j) hc, ← sgn_it (m + k) hd]
  have lC : (it (n + j) c).2.length = c.2.length := it_len _
  have lD : (it (m + k) d).2.length = d.2.length := it_len _
  generalize it (n + j) c = C at hm frC okC lC
  generalize it (m + k) d = D at hk frD okD lD
  have lcd : C.2.length = D.2.length := by rw [lC, lD, l]
  constructor
  · intro e
    refine sgn_cong lcd (hm.1.trans hk.1.symm) fun i hi => ?_
    by_cases g : i = 0
    · subst g
      rw [hm.2, lcd, hk.2]
    · refine len_of_go lcd ?_
      have z := congrArg (fun x : List Nat => x[i - 1]?) e
      simp only [List.getElem?_drop] at z
      rw [show 1 + (i - 1) = i by omega, gos_at hi, gos_at (lcd ▸ hi)] at z
      exact Option.some.inj z
  · intro e
    obtain ⟨N, d', hN, ld, h1, hl⟩ := sgn_best okC okD lcd.symm frD e
    have pos : 0 < D.2.length := Nat.lt_of_le_of_lt (Nat.zero_le _) okD
    have hd0 : Home0 (it N C) := by
      rw [hN]
      refine ⟨h1.trans hk.1, ?_⟩
      rw [ld, (hl 0 pos).2]
      exact hk.2
    obtain ⟨q, hq⟩ := orbit okC frC hm hd0
    have e1 : gos C = gos (it N C) := by
      refine gos_cong (it_len N).symm fun i hi => ?_
      rw [hq]
      show _ = ((C.2.map (· + q * C.2.length)).getD i 0) % C.2.length
      rw [getD_map_add _ _ hi, Nat.add_mul_mod_self_right]
      rfl
    have e2 : gos d' = gos D := gos_cong ld fun i hi => by
      rw [ld] at hi ⊢
      exact (hl i hi).2
    rw [e1, hN, e2]
end Lk
end
section
set_option maxRecDepth 100000
set_option maxHeartbeats 2000000
/-! sum of a tuple of ints. -/
namespace Lk
open PySem PySem.Spec PyProof.Rows L2
section
variable {prog : Program} {w : World} {A : Around} {E : Value → Shared → Prop} {s : Shared} {l : Addr}
theorem sum_tupRaw {its : List Value} {ns : List Int} {Q : Value → Shared → Prop} (hh : A.handled = none) (hl : s.heap.IsTuple l its.toArray) (hi : IntsAre its ns)
    (h : ∀ h' tk t', (∀ b o, s.heap.get? b = some o → h'.get? b = some o) → Q (.int ns.sum t') { s with heap := h', toks := tk }) : wpAny (model prog w) A (call (.builtin "sum") [.ref l]) Q E s := by
  obtain ⟨xs, e⟩ := hi.allInts.items
  have hn : numsOf (intItems xs).toList = ns := by rw [← e]; exact hi.numsOf
  rw [nums_intItems] at hn
  rw [e] at hl
  have hll : l < s.heap.objs.size := by obtain ⟨o, ho, _⟩ := id hl; exact Heap.lt_size ho
  have hne2 : l ≠ s.heap.objs.size := Nat.ne_of_lt hll
  refine PySem.call_sum_walkG (wpAny_pyIter_tuple hl ?_)
  refine ⟨s.heap.objs.size, _, _, _, _, _, numAt xs, rfl, Walks.tuple (A := A.in1) hh _ l hne2 (intItems xs), ⟨?_, ?_⟩, fun b hb => ?_, (fun _ _ => intItems_at), fun h' tk t' hk => ?_⟩
  · exact ⟨_, Heap.get?_push_size _ rfl, rfl, rfl⟩
  · exact hl.at fun o e => Heap.get?_push_of_some _ e
  · rw [Heap.size_push]
    rcases List.mem_cons.mp hb with z | z
    · rw [z]; exact Nat.lt_succ_self _
    · rw [List.mem_singleton.mp z]; exact Nat.lt_succ_of_lt hll
  · have g := h h' tk t' fun b o e => hk b o (fun hb => by
      have z := Heap.lt_size e
      rw [List.mem_singleton.mp hb] at z
      exact Nat.lt_irrefl _ z) (Heap.get?_push_of_some _ e)
    have e3 : preSum (numAt xs) (intItems xs).size = ns.sum := by
      rw [show (intItems xs).size = xs.size by simp [intItems], preSum_eq, List.take_of_length_le (by simp), hn]
    rw [e3]
    exact g
end
def rSumT (K : PySem.W.Frag) : List V → Hp → VK → Prop := fun vs H Q => ∃ (a : Addr) (ns : List Int), vs = [V.ref a] ∧ SqT K H a (ns.map V.int) ∧ Q (.int ns.sum) H
theorem cr_sumT {X : Cx} (hc : X.calm = true) : CallR X (.builtin "sum") (rSumT X.K) := by
  intro pins s σ H vs us Q I r h
  obtain ⟨a, ns, rfl, hs, q⟩ := h
  obtain ⟨its, rv, hl, _⟩ := I.tuple hs
  rw [Vals.ref1 r]
  exact sum_tupRaw (I.ok.hd hc) hl rv.ints fun h' tk t' hk => ⟨.int _, H, I.kept hk, ⟨_, rfl⟩, q⟩
theorem sum_vN : ∀ t : List Nat, ∃ ns : List Int, t.map vN = ns.map V.int ∧ ns.sum = ((t.sum : Nat) : Int)
  | [] => ⟨[], rfl, rfl⟩
  | n :: t => by
    obtain ⟨ns, e, h⟩ := sum_vN t
    refine ⟨(n : Int) :: ns, ?_, ?_⟩
    · rw [List.map_cons, List.map_cons, e]
    · rw [List.sum_cons, List.sum_cons, h, Int.natCast_add]
end Lk
end
section
set_option maxRecDepth 100000
set_option maxHeartbeats 2000000
/-! t[::-1] of a tuple. -/
namespace Lk
open PySem PySem.Spec PyProof.Rows L2 HT
section
variable {prog : Program} {w : World} {A : Around} {E : Value → Shared → Prop} {s : Shared}
theorem sliceApplied_rev {sl : Addr} {vk : Value} {n : Nat} {Q : Int × Int × Nat → Shared → Prop} (hs : s.heap.IsSliceOf sl .none .none vk) (pk : IsPart vk (some (-1)))
    (h : Q ((n : Int) - 1, -1, n) s) : wpAny (model prog w) A (Builtin.Slice.sliceApplied (.ref sl) (pure (n : Int))) Q E s := by
  obtain ⟨os, hos, hcs, hds⟩ := id hs
  unfold Builtin.Slice.sliceApplied Builtin.Slice.sliceFields
  refine wpAny_bind (wpAny_bind (wpAny_field hos hds (x := .none) rfl (wpAny_bind (wpAny_field hos hds (x := .none) rfl (wpAny_bind (wpAny_field hos hds (x := vk) rfl (wpAny_pure ?_)))))))
  refine wpAny_bind (slicePart_ pk ?_)
  show wpAny _ _ (if ((-1 : Int) == 0) = true then _ else _) _ _ s
  rw [if_neg (by decide)]
  refine wpAny_bind (slicePart_none (wpAny_bind (slicePart_none (wpAny_bind (wpAny_pure ?_)))))
  have e : Builtin.Slice.sliceAdjust none none (-1) (n : Int) = ((n : Int) - 1, -1) := by
    unfold Builtin.Slice.sliceAdjust
    simp
  have e2 : Builtin.Slice.slicePlaces ((n : Int) - 1) (-1) (-1) = n := by
    unfold Builtin.Slice.slicePlaces
    have h1 : ¬ ((-1 : Int) > 0) := by decide
    simp only [h1, if_false]
    by_cases g : (n : Int) - 1 > -1
    · rw [if_pos g, show (- -1 : Int) = 1 by decide, Int.ediv_one]
      omega
    · rw [if_neg g]
      show (0 : Nat) = n
      omega
  show wpAny _ _ (match Builtin.Slice.sliceAdjust none none (-1) (n : Int) with | (lo, hi) => pure (lo, (-1 : Int), Builtin.Slice.slicePlaces lo hi (-1))) _ _ s
  rw [e]
  show wpAny _ _ (pure ((n : Int) - 1, (-1 : Int), Builtin.Slice.slicePlaces ((n : Int) - 1) (-1) (-1))) _ _ s
  rw [e2]
  exact wpAny_pure h
theorem fm_congr {α β : Type} {f g : α → Option β} : ∀ l : List α, (∀ a, a ∈ l → f a = g a) → l.filterMap f = l.filterMap g
  | [], _ => rfl
  | a :: l, h => by
    rw [List.filterMap_cons, List.filterMap_cons, h a List.mem_cons_self, fm_congr l fun b hb => h b (List.mem_cons_of_mem _ hb)]
theorem fm_all {α : Type} : ∀ l : List α, (List.range l.length).filterMap (fun m => l[m]?) = l
  | [] => rfl
  | a :: l => by
    rw [List.length_cons, List.range_succ_eq_map, List.filterMap_cons, List.filterMap_map]
    show a :: (List.range l.length).filterMap (fun m => (a :: l)[m + 1]?) = a :: l
    congr 1
    exact fm_all l
theorem pick_rev (xs : Array Value) : ((List.range xs.size).filterMap fun (m : Nat) => xs[(((xs.size : Int) - 1) + (m : Int) * -1).toNat]?).toArray = xs.toList.reverse.toArray := by
  congr 1
  have e : ∀ m, m ∈ List.range xs.size → xs[(((xs.size : Int) - 1) + (m : Int) * -1).toNat]? = xs.toList.reverse[m]? := by
    intro m hm
    have hm := List.mem_range.mp hm
    rw [List.getElem?_reverse (by rw [Array.length_toList]; exact hm), Array.length_toList, ← Array.getElem?_toList]
    congr 1
    omega
  rw [fm_congr _ e]
  have z := fm_all xs.toList.reverse
  rw [List.length_reverse, Array.length_toList] at z
  exact z
theorem getItem_tuple_rev {t sl : Addr} {items : Array Value} {vk : Value} {Q : Value → Shared → Prop} (ht : IsTup s.heap t items) (hs : s.heap.IsSliceOf sl .none .none vk) (pk : IsPart vk (some (-1)))
    (h : Q (.ref s.heap.objs.size) { s with heap := s.heap.push { cls := .type "tuple", data := .seq items.toList.reverse.toArray } })
    (hsz : items.size ≤ sizeLine) : wpAny (model prog w) A (getItem (.ref t) (.ref sl)) Q E s := by
  have htake : sizeOk (.seq items.toList.reverse.toArray) := by
    show items.toList.reverse.toArray.size ≤ sizeLine
    rw [List.size_toArray, List.length_reverse, Array.length_toList]
    exact hsz
  obtain ⟨os, hos, hcs, hds⟩ := id hs
  have hTs : s.TypeIs (.ref sl) "slice" := ⟨os, hos, hcs⟩
  unfold getItem
  try with_reducible refine wpAny_holding ?_
  first | refine wpAny_bind (wpAny_pure ?_) | skip
  refine wpAny_bind (wpAny_sequenceKey ht.typeIs (by decide) ?_)
  refine wpAny_bind (wpAny_callSpecial?_slot (name := Str.ofString "__getitem__") ht.typeIs PyProof.Rows.slot_tuple_getitem
    (wpAny_call_entry PyProof.Rows.slot_tuple_getitem ht.typeIs entry_tuple_getitem ?_ (args_tuple_getitem _ _)))
  show wpAny _ _ (Builtin.Tuple.tupleItemsOf (.ref t) >>= _) _ _ s
  refine wpAny_bind (tupleItemsOf_ ht ?_)
  refine wpAny_bind (wpAny_typeOf hTs ?_)
  rw [if_pos (by decide)]
  refine wpAny_bind (sliceApplied_rev hs pk ?_)
  have hno : ¬ ((((items.size : Int) - 1) == 0 && (-1 : Int) == 1 && items.size == items.size) = true) := by
    intro q
    rw [Bool.and_eq_true, Bool.and_eq_true] at q
    exact absurd q.1.2 (by decide)
  show wpAny _ _ (if (((items.size : Int) - 1) == 0 && (-1 : Int) == 1 && items.size == items.size) = true then _ else _) _ _ s
  rw [if_neg hno, pick_rev]
  first
    | exact wpAny_bind (m := Builtin.Tuple.tupleExact _) (wpAny_newObj_type (wpAny_pure ⟨_, rfl, wpAny_pure h⟩) htake)
    | exact wpAny_bind (m := Builtin.Tuple.tupleExact _) (wpAny_newObj_type (wpAny_bind (wpAny_pure (wpAny_pure ⟨_, rfl, wpAny_pure h⟩))) htake)
    | exact wpAny_bind (wpAny_bind (m := Builtin.Tuple.tupleExact _) (wpAny_newObj_type (wpAny_pure (wpAny_pure ⟨_, rfl, wpAny_pure h⟩)) htake))
    | exact wpAny_bind (wpAny_bind (m := Builtin.Tuple.tupleExact _) (wpAny_newObj_type (wpAny_pure ⟨_, rfl, wpAny_pure h⟩) htake))
end
def tRv (K : PySem.W.Frag) (te : TE) (ts : TO) : TE := fun σ H Q => te σ H fun x H1 => ts σ H1 fun k H2 => k = some (-1) ∧ ∃ a xs, x = .ref a ∧ SqT K H2 a xs ∧ ∀ p H3, H2 p = none → Same H2 H3 → H3 p = some (.tup xs.reverse) → Q (.ref p) H3
section
variable {X : Cx} {e : Expr} {te : TE} {st : Option Expr} {ts : TO}
theorem pe_revT {p2 pos : Pos} (he : PE X e te) (hk : PO X st ts) (hsub : ∀ v u, ∃ ops, subscripted (.Slice none none st p2) false v u = operate ops (getItem v u) := by intros; exact ⟨_, by with_unfolding_all rfl⟩) : PE X (.Subscript e (.Slice none none st p2) pos) (tRv X.K te ts) := by
  refine ⟨fun pins s σ H Q I h => ?_⟩
  refine Subscript_ (thn (he.run pins s σ H _ I h) fun v s1 ⟨x, H1, I1, r1, q1⟩ => ?_)
  refine wpAny_Slice ?_
  rw [evalPart_none]
  refine wpAny_pure (wpAny_pure ?_)
  refine thn (hk.run pins s1 σ H1 _ I1 q1) fun vk s3 ⟨k, H3, I3, pk, q3⟩ => ?_
  obtain ⟨rfl, a, xs, rfl, hx, q⟩ := q3
  have I4 : Inv X pins σ H3 { s3 with heap := s3.heap.push { cls := .type "slice", data := .fields #[.none, .none, vk] } } := I3.kept (t' := s3.toks) fun b ob q => Heap.get?_push_of_some _ q
  cases r1
  obtain ⟨its, r, ht, hz⟩ := I4.tuple hx
  have hlen : its.toArray.size = xs.length := by rw [List.size_toArray]; exact r.length.symm
  obtain ⟨ops, hops⟩ := hsub (.ref a) (.ref s3.heap.objs.size)
  refine tail_any (ops := ops) ht.typeIs PyProof.Rows.slot_tuple_getitem.lookup (getItem_tuple_rev ht (Heap.IsSliceOf.new ..) pk ?_ (by rw [hlen]; exact hz)) hops
  refine ⟨.ref _, _, I4.laid (t' := s3.toks) (o := .tup xs.reverse) (fun b ob q => Heap.get?_push_of_some _ q) (Nat.le_refl _) ?_, rfl, q _ _ (I4.hok.fresh (Nat.le_refl _)) (same_new (I4.hok.fresh (Nat.le_refl _))) upd_same⟩
  refine ⟨by rw [List.length_reverse]; exact hz, _, r.reverse, IsTup.new _ _⟩
end
end Lk
end
section
set_option maxRecDepth 100000
set_option maxHeartbeats 2000000
/-! Signs. -/
namespace Lk
open PySem PySem.Spec PyProof.Rows L2
/-- what is a sign of p places -/
def IsSg (p : Nat) (d : PyData) : Prop := ∃ t : List Nat, d = tD t ∧ t.length = p ∧ (∀ x ∈ t, x < p) ∧ t.getD 0 0 = 0 ∧ t.sum % p = 1 % p
def spIsSign (C : Addr) : Sp := fun vs H Q E => ∃ u v e d, vs = [u, v] ∧ Th H u e ∧ Th H v d ∧ (inR e 1 12 = false → ∀ H', Same H H' → E (.ref C) none H') ∧
  (∀ p : Nat, e = .int (p : Int) → 1 ≤ p → p ≤ 12 → ∀ b H', (b = true ↔ IsSg p d) → Same H H' → Q (.bl b) H')
def spDueS : Sp := fun vs H Q _ => ∃ (p : Nat) (v : V) (d : PyData), vs = [.int (p : Int), v] ∧ Th H v d ∧ 1 ≤ p ∧ p ≤ 12 ∧ ∀ b H', (b = true ↔ IsSg p d) → Same H H' → Q (.bl b) H'
def spDSign : Sp := fun vs H Q _ => ∃ (a : Addr) (p : Nat) (n : Int), vs = [.ref a, .int (p : Int)] ∧ Urn H a n ∧ n ≤ 99000 ∧ 1 ≤ p ∧ p ≤ 12 ∧
  ∀ (t : List Nat) (pt : Addr) H', t.length = p → (∀ x ∈ t, x < p) → t.getD 0 0 = 0 → t.sum % p = 1 % p → Urn H' a (n + 30) → SameBut a H H' → H pt = none → H' pt = some (.tup (t.map vN)) → Q (.ref pt) H'
/-- the two ways in which it is said that the sum is one more than nought -/
theorem sum_one {p : Nat} (h : 1 ≤ p) (s : Nat) : ((s : Int) - 1) % (p : Int) = 0 ↔ s % p = 1 % p := by
  constructor
  · intro e
    obtain ⟨k, hk⟩ := Int.dvd_of_emod_eq_zero e
    rcases Nat.eq_zero_or_pos s with z | z
    · subst z
      have hk2 : (p : Int) * (-k) = 1 := by
        rw [Int.mul_neg]
        omega
      have hp : (p : Int) ∣ 1 := ⟨_, hk2.symm⟩
      have : p ∣ 1 := Int.natCast_dvd_natCast.mp hp
      have p1 : p = 1 := Nat.dvd_one.mp this
      subst p1
      simp
    · have e2 : ((s - 1 : Nat) : Int) % (p : Int) = 0 := by
        rw [show ((s - 1 : Nat) : Int) = (s : Int) - 1 by omega]
        exact e
      have e3 : (s - 1) % p = 0 := by
        rw [← Int.natCast_emod] at e2
        omega
      rw [show s = (s - 1) + 1 by omega, Nat.add_mod, e3, Nat.zero_add, Nat.mod_mod]
  · intro e
    have e2 : (s : Int) % (p : Int) = 1 % (p : Int) := by
      have z : ((s % p : Nat) : Int) = ((1 % p : Nat) : Int) := congrArg _ e
      rw [Int.natCast_emod, Int.natCast_emod] at z
      exact z
    exact Int.emod_eq_zero_of_dvd (Int.dvd_of_emod_eq_zero (by rw [Int.sub_emod, e2, Int.sub_self, Int.zero_emod]))
theorem sign_drawn {p : Nat} (p1 : 1 ≤ p) (ls : List Nat) (hl : ls.length = p - 2) (hb : ∀ x ∈ ls, x < p) (r : Nat) (hr : (r : Int) = (1 - ((ls.sum : Nat) : Int)) % (p : Int)) (t : List Nat) (ht : t = (0 :: (ls ++ [r])).take p) :
    t.length = p ∧ (∀ x ∈ t, x < p) ∧ t.getD 0 0 = 0 ∧ t.sum % p = 1 % p := by
  have hr0 : 0 ≤ (r : Int) := Int.natCast_nonneg r
  have hr1 : (r : Int) < (p : Int) := by rw [hr]; exact Int.emod_lt_of_pos _ (by omega)
  have all : ∀ x ∈ (0 :: (ls ++ [r])), x < p := fun x hx => by
    rcases List.mem_cons.mp hx with e | h
    · omega
    · rcases List.mem_append.mp h with h | h
      · exact hb x h
      · rw [List.mem_singleton.mp h]
        omega
  subst ht
  refine ⟨?_, fun x hx => all x (List.mem_of_mem_take hx), ?_, ?_⟩
  · rw [List.length_take, List.length_cons, List.length_append, hl]
    show min p (p - 2 + 1 + 1) = p
    omega
  · cases p with
    | zero => omega
    | succ p => rfl
  · rcases Nat.lt_or_ge p 2 with h | h
    · have e : p = 1 := by omega
      subst e
      show (0 : Nat) % 1 = 1 % 1
      rfl
    · rw [List.take_of_length_le (by rw [List.length_cons, List.length_append, hl]; show p - 2 + 1 + 1 ≤ p; omega), List.sum_cons, List.sum_append, List.sum_singleton, Nat.zero_add]
      have z : (((ls.sum + r) % p : Nat) : Int) = ((1 % p : Nat) : Int) := by
        rw [Int.natCast_emod, Int.natCast_add, hr, Int.add_emod_emod, show ((ls.sum : Nat) : Int) + (1 - ((ls.sum : Nat) : Int)) = 1 by omega, Int.natCast_emod]
        rfl
      exact Int.ofNat.inj z
end Lk
end
section
set_option maxRecDepth 100000
set_option maxHeartbeats 2000000
/-! xs[i] += e of a list. -/
namespace Lk
open PySem PySem.Spec PyProof.Rows L2
theorem get_list {X : Cx} : PGet X (rIxL X.K) := by
  intro pins s σ H x y v u Q I rx ry h
  obtain ⟨p, xs, i, z, rfl, rfl, hq, he, q⟩ := h
  cases rx
  obtain ⟨t, rfl⟩ := ry
  obtain ⟨its, r, pl, hz⟩ := I.list hq
  obtain ⟨j, h1, h2, h3, h4, h5⟩ := atI_get he
  obtain ⟨w, ew, rw'⟩ := r.get h2
  have hl := r.length
  have hn := line63
  have fin : EP X pins σ Q w s := ⟨z, H, I, rw', q⟩
  by_cases h0 : 0 ≤ i
  · have hj : i.toNat = j := by
      rw [seqIndex_of h0 h5] at h1
      exact Option.some.inj h1
    exact wpAny_getItem_list pl.isList h0 (by omega) (by rw [hj]; simpa using ew) fin
  · have hj : (i + (its.toArray.size : Int)).toNat = j := by
      rw [seqIndex_neg (by omega) h4] at h1
      rw [List.size_toArray, ← hl]
      exact Option.some.inj h1
    exact wpAny_getItem_list_neg pl.isList (by omega) (by rw [List.size_toArray] <;> omega) (by omega) (by rw [hj]; simpa using ew) fin
end Lk
end
section
set_option maxRecDepth 100000
set_option maxHeartbeats 2000000
/-! zip of a tuple and a list. -/
namespace Lk
open PySem PySem.Spec PyProof.Rows L2
/-- the tuple at a, the list at b, their items in new pairs -/
def ItzM (K : PySem.W.Frag) (a b : Addr) : It :=
  ⟨fun i H => ∃ (xs ys : List V) (x y : V), SqT K H a xs ∧ SqL K H b ys ∧ xs[i]? = some x ∧ ys[i]? = some y,
    fun i H v H' => ∃ T x y, v = .ref T ∧ H T = none ∧ H' = upd H T (.tup [x, y]) ∧ (∀ xs, SqT K H a xs → xs[i]? = some x) ∧ ∀ ys, SqL K H b ys → ys[i]? = some y,
    fun i H => ∃ xs ys : List V, SqT K H a xs ∧ SqL K H b ys ∧ (xs.length ≤ i ∨ ys.length ≤ i) ∧ i ≤ xs.length ∧ i ≤ ys.length⟩
theorem walk_zipM {K : PySem.W.Frag} {a b : Addr} {xs ys : List V} (hl : xs.length = ys.length) : Walk (ItzM K a b) xs.length (fun H => SqT K H a xs ∧ SqL K H b ys) (YPair (fun i => xs[i]?) (fun i => ys[i]?)) := by
  refine ⟨fun i _ hi q => ⟨xs, ys, xs[i], ys[i], q.1, q.2, by simp [hi], by simp⟩, fun _ q => ⟨xs, ys, q.1, q.2, .inl (Nat.le_refl _), Nat.le_refl _, by omega⟩, fun i H v H2 _ q ⟨T, x, y, h1, h2, h3, h4, h5⟩ => ?_⟩
  exact ⟨T, x, y, h1, h2, h3, h4 xs q.1, h5 ys q.2⟩
theorem turn_zipM {P : Program} {w : World} {K : PySem.W.Frag} {elts : List Expr} {kk : Nat} {tpos : Pos} {a b z TI TO i1 i2 : Addr} (D : ZipApart z TI TO i1 i2 a b) :
    Turn P w K (.Tuple elts kk tpos) (ItzM K a b) [z, TI, TO, i1, i2] z (fun i h => IsZip h z TI TO .none ∧ IsTupOf2 h TI (.ref i1) (.ref i2) ∧ (∃ x y, IsTupOf2 h TO x y) ∧ h.IsTupleIter i1 a i ∧ h.IsListIter i2 b i) where
  mem := by simp
  obj := fun i h st c hc => by
    obtain ⟨hz, hTI, ⟨x, y, hTO⟩, ⟨o1, e1, _, d1⟩, ⟨o2, e2, _, d2⟩⟩ := st
    have e' : c = z ∨ c = TI ∨ c = TO ∨ c = i1 ∨ c = i2 := by simpa using hc
    rcases e' with q | q | q | q | q
    · rw [q]; exact ⟨_, hz, fun v q => nomatch q⟩
    · rw [q]; exact ⟨_, hTI, fun v q => nomatch q⟩
    · rw [q]; exact ⟨_, hTO, fun v q => nomatch q⟩
    · rw [q]; exact ⟨o1, e1, fun v q => by rw [d1] at q; cases q⟩
    · rw [q]; exact ⟨o2, e2, fun v q => by rw [d2] at q; cases q⟩
  keep := fun i h h' st k => by
    obtain ⟨hz, hTI, ⟨x, y, hTO⟩, h1, h2⟩ := st
    exact ⟨k z (by simp) _ hz, k TI (by simp) _ hTI, ⟨x, y, k TO (by simp) _ hTO⟩, h1.at fun o q => k i1 (by simp) o q, h2.at fun o q => k i2 (by simp) o q⟩
  item := by
    intro X hP hw hK hc i pins s σ H E I hf st hg
    subst hP hw hK
    obtain ⟨hz, hTI, ⟨x0, y0, hTO⟩, h1, h2⟩ := st
    obtain ⟨xs, ys, x, y, hqx, hqy, hx, hy⟩ := hg
    obtain ⟨its, rv, p, _⟩ := I.tuple hqx
    obtain ⟨its2, rv2, p2, _⟩ := I.list hqy
    obtain ⟨u, hu, ru⟩ := rv.get hx
    obtain ⟨u2, hu2, ru2⟩ := rv2.get hy
    have hzl : z < s.heap.objs.size := Heap.lt_size hz
    have S : ZipSep2 z TI TO i1 i2 [i1, a] [i2, b] := ⟨D.TIz, D.TOz, D.TITO, D.TIi1, by simp, by simp [D.i1z.symm, D.l1z.symm], by simp [D.TOi1, D.l1TO.symm], D.TIi2, by simp, by simp [D.i2z.symm, D.l2z.symm], by simp [D.TOi2, D.l2TO.symm], by simp [D.i12, D.l2i1.symm], by simp [D.i12.symm, D.l1i2.symm]⟩
    have hi1 : i < its.toArray.size := by rw [List.size_toArray]; exact (List.getElem?_eq_some_iff.mp hu).1
    have hi2 : i < its2.toArray.size := by rw [List.size_toArray]; exact (List.getElem?_eq_some_iff.mp hu2).1
    have hn : X.A.in1.handled = none := I.ok.hd hc
    refine wpAny_pyNext_zipD2_item S (Draws.tuple hn i1 a D.l1i1 its.toArray) (Draws.list hn i2 b D.l2i2 its2.toArray) hz hTI hTO ⟨h1, (show s.heap.IsTuple a its.toArray from p)⟩ ⟨h2, p2.isList⟩ hi1 hi2 fun v1 v2 h' tk' hv1 hv2 z' TO' h1' h2' hT hsz hk => ?_
    have e1 : v1 = u := by
      have q : its.toArray[i]? = some v1 := hv1
      rw [List.getElem?_toArray, hu] at q
      exact (Option.some.inj q).symm
    have e2 : v2 = u2 := by
      have q : its2.toArray[i]? = some v2 := hv2
      rw [List.getElem?_toArray, hu2] at q
      exact (Option.some.inj q).symm
    subst e1 e2
    refine ⟨_, rfl, wpAny_letOwnedTupleGo_zip (s := { s with heap := h', toks := tk' }) z' fun h'' z'' sb => ?_⟩
    have hT2 : h''.get? s.heap.objs.size = some { cls := .type "tuple", data := .seq #[v1, v2] } := (sb.2 _ (Nat.ne_of_gt hzl)).trans hT
    have new : ObjOk X.prog X.w (upd H s.heap.objs.size (.tup [x, y])) h'' s.heap.objs.size (.tup [x, y]) :=
      ⟨by show 2 ≤ sizeLine; decide, [v1, v2], .cons ru (.cons ru2 .nil), ⟨_, hT2, rfl, _, rfl⟩⟩
    have I1 : Inv X pins σ (upd H s.heap.objs.size (.tup [x, y])) { s with heap := h'', toks := tk' } :=
      I.turnedNew (t' := tk') (ch := [z, TI, TO, i1, i2]) (fun c o hb q => (sb.2 c (fun q' => hb (by simp [q']))).trans (hk c o (fun q' => hb (by simp [q'])) (fun q' => hb (by simp [q'])) (fun q' => hb (by simp [q'])) (fun q' => hb (by simp [q'])) q)) hf (Nat.le_refl _) new
    refine ⟨.ref s.heap.objs.size, _, I1, rfl, ⟨_, x, y, rfl, I.hok.fresh (Nat.le_refl _), rfl, fun l hl => by rw [I.tuple_inj hl hqx]; exact hx, fun l hl => by rw [I.list_inj hl hqy]; exact hy⟩, ⟨z'', ?_, ⟨v1, v2, ?_⟩, ?_, ?_⟩, fun c hcm => ?_⟩
    · exact (sb.2 _ D.TIz).trans (hk _ _ D.TIz D.TITO D.TIi1 D.TIi2 hTI)
    · exact (sb.2 _ D.TOz).trans TO'
    · exact h1'.1.at fun o q => (sb.2 _ D.i1z).trans q
    · exact h2'.1.at fun o q => (sb.2 _ D.i2z).trans q
    · have hlt : c < s.heap.objs.size := by
        have e' : c = z ∨ c = TI ∨ c = TO ∨ c = i1 ∨ c = i2 := by simpa using hcm
        rcases e' with q | q | q | q | q
        · rw [q]; exact hzl
        · rw [q]; exact Heap.lt_size hTI
        · rw [q]; exact Heap.lt_size hTO
        · rw [q]; obtain ⟨_, e1, _⟩ := h1; exact Heap.lt_size e1
        · rw [q]; obtain ⟨_, e2, _⟩ := h2; exact Heap.lt_size e2
      rw [upd_ne (Nat.ne_of_lt hlt)]
      exact (hf c hcm).1
  done := by
    intro X hP hw hK hc i pins s σ H E I hf st hg
    subst hP hw hK
    obtain ⟨hz, hTI, ⟨x0, y0, hTO⟩, h1, h2⟩ := st
    obtain ⟨xs, ys, hqx, hqy, hend, g1, g2⟩ := hg
    obtain ⟨its, rv, p, _⟩ := I.tuple hqx
    obtain ⟨its2, rv2, p2, _⟩ := I.list hqy
    have l1 := rv.length
    have l2 := rv2.length
    have S : ZipSep2 z TI TO i1 i2 [i1, a] [i2, b] := ⟨D.TIz, D.TOz, D.TITO, D.TIi1, by simp, by simp [D.i1z.symm, D.l1z.symm], by simp [D.TOi1, D.l1TO.symm], D.TIi2, by simp, by simp [D.i2z.symm, D.l2z.symm], by simp [D.TOi2, D.l2TO.symm], by simp [D.i12, D.l2i1.symm], by simp [D.i12.symm, D.l1i2.symm]⟩
    have hn : X.A.in1.handled = none := I.ok.hd hc
    have s1 : its.toArray.size = xs.length := by rw [List.size_toArray, ← l1]
    have s2 : its2.toArray.size = ys.length := by rw [List.size_toArray, ← l2]
    refine wpAny_pyNext_zipD2_end S (Draws.tuple hn i1 a D.l1i1 its.toArray) (Draws.list hn i2 b D.l2i2 its2.toArray) hz hTI hTO ⟨h1, (show s.heap.IsTuple a its.toArray from p)⟩ ⟨h2, p2.isList⟩ (by omega) (by omega) (by omega) fun h' tk' hk => ⟨rfl, I.turnedL (t' := tk') (ch := [z, TI, TO, i1, i2]) (fun c o hb q =>
      hk c o (fun q' => hb (by simp [q'])) (fun q' => hb (by simp [q'])) (fun q' => hb (by simp [q'])) (fun q' => hb (by simp [q'])) q) hf⟩
  self := fun A i s Q E st h => wpAny_pyIter_zip st.1 h
def iZipM (K : PySem.W.Frag) (ta : TA) : TI := fun σ H R => ta σ H fun vs H1 => ∃ a b xs ys, vs = [.ref a, .ref b] ∧ SqT K H1 a xs ∧ SqL K H1 b ys ∧ R (ItzM K a b) H1
theorem pi_zipM {X : Cx} {e e2 : Expr} {ta : TA} {p pos tpos : Pos} {elts : List Expr} {kk : Nat} (hg : Gl X "zip") (hm : X.mg "zip" = none) (ha : PA X [e, e2] ta)
    (hs : starEach [e, e2] X.env = (false, eval e X.env) :: starEach [e2] X.env := by rfl) (hpl : (backTo pos (starEach [e2] X.env)).any (·.1) = false := by rfl) :
    PI X (.Tuple elts kk tpos) (.Call (.Name "zip" p) [e, e2] [] pos) (iZipM X.K ta) := by
  refine ⟨fun pins s σ H R I h => ?_⟩
  refine Call_ (ld_blt I hg hm PyProof.Rows.boot_zip (PyProof.Rows.callWith_type1 (thn (ha.run pos pins s σ H _ I h) fun us s1 ⟨vs, H1, I1, r1, q1⟩ => ?_) hs hpl))
  obtain ⟨a, b, xs, ys, ex, hqx, hqy, q⟩ := q1
  subst ex
  cases r1 with
  | cons r rr =>
    cases rr with
    | cons r' rr =>
      cases rr
      cases r
      cases r'
      have fresh5 : ∀ c, c ∈ [s1.heap.objs.size + 4, s1.heap.objs.size + 2, s1.heap.objs.size + 3, s1.heap.objs.size, s1.heap.objs.size + 1] → FpOk X pins H1 c := fun c hcm => by
        have e' : c = s1.heap.objs.size + 4 ∨ c = s1.heap.objs.size + 2 ∨ c = s1.heap.objs.size + 3 ∨ c = s1.heap.objs.size ∨ c = s1.heap.objs.size + 1 := by simpa using hcm
        have hle : s1.heap.objs.size ≤ c := by
          rcases e' with z | z | z | z | z
          · rw [z]; exact Nat.le_add_right _ _
          · rw [z]; exact Nat.le_add_right _ _
          · rw [z]; exact Nat.le_add_right _ _
          · rw [z]; exact Nat.le_refl _
          · rw [z]; exact Nat.le_add_right _ _
        exact I1.fpOk hle (I1.hok.fresh hle)
      obtain ⟨its, rv, p1, _⟩ := I1.tuple hqx
      obtain ⟨its2, rv2, p2, _⟩ := I1.list hqy
      obtain ⟨o1, ho1, _⟩ := id p1
      refine zip_begins2 (begins_tuple a its.toArray) (begins_list b its2.toArray) p1 p2.isList fun h' hz hTI hTO h1 h2 hsz hk => wpAny_pyIter_zip hz ?_
      have I2 : Inv X pins σ H1 { s1 with heap := h' } := I1.kept (t' := s1.toks) hk
      exact ⟨s1.heap.objs.size + 4, [s1.heap.objs.size + 4, s1.heap.objs.size + 2, s1.heap.objs.size + 3, s1.heap.objs.size, s1.heap.objs.size + 1], _, _, H1, rfl, I2, turn_zipM (PySem.W.ktu_apart s1.heap.objs.size a b (Heap.lt_size ho1) p2.lt), ⟨hz, hTI, ⟨_, _, hTO⟩, ⟨_, h1, rfl, rfl⟩, ⟨_, h2, rfl, rfl⟩⟩, fresh5, q⟩
end Lk
end
section
set_option maxRecDepth 100000
set_option maxHeartbeats 2000000
/-! Signs of coders: tables of numbers, and what is told. -/
namespace Lk
open PySem PySem.Spec PyProof.Rows L2
/-- a table over the places -/
def tab (p : Nat) (f : Nat → Int) : List V := (List.range p).map fun k => V.int (f k)
theorem tab_len (p : Nat) (f : Nat → Int) : (tab p f).length = p := by
  unfold tab
  rw [List.length_map, List.length_range]
theorem tab_at {p k : Nat} (f : Nat → Int) (h : k < p) : (tab p f)[k]? = some (.int (f k)) := by
  unfold tab
  rw [List.getElem?_map, List.getElem?_range h]
  rfl
theorem tab_congr {p : Nat} {f g : Nat → Int} (h : ∀ k, k < p → f k = g k) : tab p f = tab p g :=
  List.map_congr_left fun k hk => congrArg V.int (h k (List.mem_range.mp hk))
theorem tab_set {p j : Nat} (f : Nat → Int) (v : Int) : (tab p f).set j (.int v) = tab p (fun k => if k = j then v else f k) := by
  refine List.ext_getElem? fun k => ?_
  by_cases hk : k < p
  · rw [tab_at _ hk]
    by_cases e : k = j
    · subst e
      rw [List.getElem?_set_self (by rw [tab_len]; exact hk), if_pos rfl]
    · rw [List.getElem?_set_ne (Ne.symm e), tab_at _ hk, if_neg e]
  · rw [List.getElem?_eq_none (by rw [List.length_set, tab_len]; omega), List.getElem?_eq_none (by rw [tab_len]; omega)]
theorem tab_ints (p : Nat) (f : Nat → Int) : tab p f = ((List.range p).map f).map V.int := by
  unfold tab
  rw [List.map_map]
  rfl
theorem tab_rep (p : Nat) (x : Int) : List.replicate p (V.int x) = tab p fun _ => x := by
  refine List.ext_getElem? fun k => ?_
  by_cases hk : k < p
  · rw [tab_at _ hk, List.getElem?_replicate, if_pos hk]
  · rw [List.getElem?_eq_none (by rw [List.length_replicate]; omega), List.getElem?_eq_none (by rw [tab_len]; omega)]
theorem sgn_tab (c : Cd) : (sgn c).map vN = tab c.2.length fun k => (num c k - num c 0) % (c.2.length : Int) := by
  unfold sgn tab
  rw [List.map_map]
  refine List.map_congr_left fun k hk => ?_
  have hk := List.mem_range.mp hk
  show V.int ((((num c k - num c 0) % (c.2.length : Int)).toNat : Nat) : Int) = _
  rw [Int.toNat_of_nonneg (Int.emod_nonneg _ (by omega))]
theorem sgn_isSg {c : Cd} (h : CdOk c) : IsSg c.2.length (tD (sgn c)) :=
  ⟨sgn c, rfl, sgn_len c, sgn_lt, sgn_zero h.pos, sgn_sum h.1⟩
/-- how many words end ahead of a place -/
def spEnds : Sp := fun vs H Q _ => ∃ (b : Addr) (ls : List Nat) (k : Nat), vs = [.ref b, .int (k : Int)] ∧ H b = some (.tup (ls.map vN)) ∧ k < ls.length ∧ ls.length ≤ 12 ∧ ∀ H', Same H H' → Q (.int (endsI ls k)) H'
def toldSign (c : Cd) (Q : VK) (H : Hp) : Prop := ∀ p H', Same H H' → H' p = some (.tup ((sgn c).map vN)) → Q (.ref p) H'
/-- the law's own -/
def spSign : Sp := fun vs H Q _ => ∃ v c, vs = [v] ∧ Cat H v c ∧ CdOk c ∧ toldSign c Q H
def spByWords : Sp := fun vs H Q _ => ∃ v c, vs = [v] ∧ Cat H v c ∧ CdOk c ∧ (∀ x ∈ c.2, x ≤ 100) ∧ toldSign c Q H
/-- what the law has counted when it has gone by the first i places -/
def cntA (c : Cd) (i : Nat) (k : Nat) : Int := (if k = c.1 then 1 else 0) + (if k < i then (len c k : Int) else 0) - sumR i fun b => (cnt c.2.length b k (len c b) : Int)
theorem cntA_zero (c : Cd) (k : Nat) : cntA c 0 k = if k = c.1 then 1 else 0 := by
  unfold cntA
  rw [if_neg (Nat.not_lt_zero k), sumR_zero]
  omega
theorem cntA_all {c : Cd} {k : Nat} (h : k < c.2.length) : cntA c c.2.length k = num c k := by
  unfold cntA num endsI
  rw [if_pos h]
  show _ + _ - sumR c.2.length (fun b => (cnt c.2.length b k (len c b) : Int)) = _ - sumR c.2.length (fun b => (cnt c.2.length b k (len c b) : Int)) + _
  omega
theorem cntA_succ (c : Cd) (i k : Nat) : cntA c (i + 1) k = cntA c i k + (if k = i then (len c i : Int) else 0) - (cnt c.2.length i k (len c i) : Int) := by
  unfold cntA
  rw [sumR_succ]
  rcases Nat.lt_trichotomy k i with h | h | h
  · rw [if_pos h, if_pos (show k < i + 1 by omega), if_neg (show ¬ k = i by omega)]
    omega
  · subst h
    rw [if_neg (Nat.lt_irrefl k), if_pos (Nat.lt_succ_self k), if_pos rfl]
    omega
  · rw [if_neg (show ¬ k < i by omega), if_neg (show ¬ k < i + 1 by omega), if_neg (show ¬ k = i by omega)]
    omega
theorem pull_way {p i k : Nat} (hi : i < p) (hk : k < p) (L : Nat) : (if (L : Int) - wayOf p i k + (p : Int) > 0 then (L : Int) - wayOf p i k + (p : Int) else 0) / (p : Int) = (cnt p i k L : Int) := by
  have hp : (0 : Int) < p := by omega
  have w0 : 0 ≤ ((k : Int) - i - 1) % p := Int.emod_nonneg _ (by omega)
  have w1 : ((k : Int) - i - 1) % p < p := Int.emod_lt_of_pos _ hp
  have e : (if (L : Int) - wayOf p i k + (p : Int) > 0 then (L : Int) - wayOf p i k + (p : Int) else 0) = (L : Int) - wayOf p i k + (p : Int) := by
    split
    · rfl
    · unfold wayOf at *
      omega
  rw [e, ← cnt_way hi hk]
  rw [show (L : Int) - wayOf p i k + (p : Int) = (L : Int) - wayOf p i k + (p : Int) * 1 by omega, Int.add_mul_ediv_left _ _ (by omega)]
/-- NoCoder of the one, of the other, NotLike; else what is told of the two -/
def spTwo (C1 C2 : Addr) (told : Cd → Cd → VK → Hp → Prop) : Sp := fun vs H Q E => ∃ v u d e, vs = [v, u] ∧ Th H v d ∧ Th H u e ∧ (isCd d = false → ∀ H', Same H H' → E (.ref C1) none H') ∧ (isCd d = true → isCd e = false → ∀ H', Same H H' → E (.ref C1) none H') ∧
  (∀ c c2, d = cdD c → CdOk c → e = cdD c2 → CdOk c2 → c.2.length ≠ c2.2.length → ∀ H', Same H H' → E (.ref C2) none H') ∧
  (∀ c c2, d = cdD c → CdOk c → e = cdD c2 → CdOk c2 → c.2.length = c2.2.length → told c c2 Q H)
def toldNone (_ _ : Cd) (Q : VK) (H : Hp) : Prop := ∀ H', Same H H' → Q .non H'
def toldOne (c c2 : Cd) (Q : VK) (H : Hp) : Prop := ∀ b H', (b = true ↔ sgn c = sgn c2) → Same H H' → Q (.bl b) H'
theorem two_of {C1 C2 : Addr} {told : Cd → Cd → VK → Hp → Prop} {Q : VK} {E : XK} {H : Hp} {v u : V} {c c2 : Cd} (cat : Cat H v c) (ok : CdOk c) (cat2 : Cat H u c2) (ok2 : CdOk c2) (l : c.2.length = c2.2.length) (k : told c c2 Q H) : spTwo C1 C2 told [v, u] H Q E := by
  refine ⟨v, u, cdD c, cdD c2, rfl, cat.th, cat2.th, fun z => ?_, fun _ z => ?_, fun a b ea _ eb _ ne => ?_, fun a b ea _ eb _ _ => ?_⟩
  · rw [isCd_cdD ok] at z
    cases z
  · rw [isCd_cdD ok2] at z
    cases z
  · have e1 := cdD_inj ea
    have e2 := cdD_inj eb
    subst e1 e2
    exact absurd l ne
  · have e1 := cdD_inj ea
    have e2 := cdD_inj eb
    subst e1 e2
    exact k
theorem sg_of {C1 : Addr} {Q : VK} {E : XK} {H : Hp} {v : V} {c : Cd} (cat : Cat H v c) (ok : CdOk c) (k : toldSign c Q H) : spOne C1 toldSign [v] H Q E := by
  refine ⟨v, cdD c, rfl, cat.th, fun z => ?_, fun c2 ec hc2 => ?_⟩
  · rw [isCd_cdD ok] at z
    cases z
  · have e2 := cdD_inj ec
    subst e2
    exact k
theorem isg_of {C1 : Addr} {Q : VK} {E : XK} {H : Hp} {v : V} {d : PyData} {p : Nat} (p1 : 1 ≤ p) (p12 : p ≤ 12) (h : Th H v d) (k : ∀ b H', (b = true ↔ IsSg p d) → Same H H' → Q (.bl b) H') : spIsSign C1 [.int (p : Int), v] H Q E := by
  refine ⟨_, v, .int (p : Int), d, rfl, .int _, h, fun z => ?_, fun p' e _ _ b H' hb s => ?_⟩
  · exfalso
    have y : (decide ((1 : Int) ≤ (p : Int)) && decide ((p : Int) ≤ 12)) = false := z
    rw [decide_eq_true (by omega), decide_eq_true (by omega)] at y
    cases y
  · have e2 : p' = p := by
      injection e with e
      omega
    subst e2
    exact k b H' hb s
end Lk
end
section
set_option maxRecDepth 100000
set_option maxHeartbeats 2000000
/-! Drawn coders and their mates. -/
namespace Lk
open PySem PySem.Spec PyProof.Rows L2
theorem good_cd {c : Cd} (ok : CdOk c) (h : ∀ n ∈ c.2, n < 10 ^ 45) : Good (cdD c) := by
  have h0 : c.1 < 10 ^ 45 := Nat.lt_trans ok.1 (Nat.lt_of_le_of_lt ok.2 (by decide +kernel))
  refine ⟨show_cd h0 h, ?_, ?_⟩
  · simp only [cdD, PyData.depth, PyData.depthAll, depthAll_ints]
    decide
  · have b := wt_cd h0 h ok.2
    omega
def spSome : Sp := fun vs H Q _ => ∃ (a : Addr) (p : Nat) (n : Int), vs = [.ref a, .int (p : Int)] ∧ Urn H a n ∧ n ≤ 90000 ∧ 1 ≤ p ∧ p ≤ 12 ∧
  ∀ v c H', CdOk c → c.2.length = p → (∀ n ∈ c.2, n < 10 ^ 31) → Urn H' a (n + 20) → SameBut a H H' → Cat H' v c → Q v H'
def spMate : Sp := fun vs H Q _ => ∃ (a : Addr) (v : V) (c : Cd) (n : Int), vs = [.ref a, v] ∧ Urn H a n ∧ n ≤ 80000 ∧ Cat H v c ∧ CdOk c ∧ (∀ n ∈ c.2, n < 10 ^ 31) ∧
  ∀ u d H', CdOk d → d.2.length = c.2.length → (∀ n ∈ d.2, n < 10 ^ 32) → Urn H' a (n + 30) → SameBut a H H' → Cat H' u d → Q u H'
theorem it_bound {c : Cd} (h : COk c) {B : Nat} (hB : ∀ n ∈ c.2, n < B) : ∀ m, ∀ x ∈ (it m c).2, x < B + m
  | 0 => fun x hx => hB x hx
  | m + 1 => fun x hx => by
    rw [it_succ] at hx
    have okm := it_ok m h
    have ih := it_bound h hB m
    obtain ⟨i, hi, rfl⟩ := List.getElem_of_mem hx
    have e : (nx (it m c)).2[i] = len (nx (it m c)) i := by
      unfold len
      rw [List.getD_eq_getElem?_getD, List.getElem?_eq_getElem hi]
      rfl
    rw [e]
    rw [nx_len] at hi
    have mem : ∀ j, j < (it m c).2.length → len (it m c) j < B + m := fun j hj => by
      refine ih _ ?_
      unfold len
      rw [List.getD_eq_getElem?_getD, List.getElem?_eq_getElem hj]
      exact List.getElem_mem hj
    by_cases g : i = (it m c).1
    · rw [g, len_nx_same okm]
      have := mem _ okm
      omega
    · rw [len_nx_ne g]
      have := mem _ hi
      omega
end Lk
end
section
set_option maxRecDepth 100000
set_option maxHeartbeats 2000000
/-! Letters. -/
namespace Lk
open PySem PySem.Spec PyProof.Rows L2
def tri (l : Nat) : Nat := l * (l + 1) / 2
theorem two_tri (l : Nat) : 2 * tri l = l * (l + 1) := by
  unfold tri
  have h : l * (l + 1) % 2 = 0 := by
    rcases Nat.mod_two_eq_zero_or_one l with e | e
    · rw [Nat.mul_mod, e, Nat.zero_mul, Nat.zero_mod]
    · rw [Nat.mul_mod, Nat.add_mod, e]
  have := Nat.div_add_mod (l * (l + 1)) 2
  omega
theorem tri_two (l k : Nat) : tri (l + (k + k)) + tri l = 2 * tri (l + k) + k * k := by
  have a := two_tri (l + (k + k))
  have b := two_tri l
  have c := two_tri (l + k)
  simp only [Nat.mul_add, Nat.add_mul, Nat.mul_one, Nat.mul_comm k l] at a b c
  generalize l * l = x at *
  generalize l * k = y at *
  generalize k * k = z at *
  omega
/-- how many letters all words of these lengths have -/
def lkI (ls : List Nat) : Int := (ls.map fun l => ((tri l : Nat) : Int)).sum
theorem lkI_cons (l : Nat) (ls : List Nat) : lkI (l :: ls) = (tri l : Int) + lkI ls := by
  unfold lkI
  rw [List.map_cons, List.sum_cons]
theorem lkI_two (k : Nat) : ∀ ls : List Nat, lkI (ls.map (· + (k + k))) - lkI (ls.map (· + k)) = lkI (ls.map (· + k)) - lkI ls + ((ls.length * (k * k) : Nat) : Int)
  | [] => by simp [lkI]
  | l :: ls => by
    have ih := lkI_two k ls
    have t := tri_two l k
    rw [List.map_cons, List.map_cons, lkI_cons, lkI_cons, lkI_cons, List.length_cons, Nat.add_mul, Nat.one_mul]
    push_cast at *
    omega
theorem isMax_add {l : List Nat} {m k : Nat} (h : IsMax l m) : IsMax (l.map (· + k)) (m + k) := by
  refine ⟨List.mem_map.mpr ⟨m, h.1, rfl⟩, fun x hx => ?_⟩
  obtain ⟨y, hy, rfl⟩ := List.mem_map.mp hx
  have := h.2 y hy
  omega
def spLK : Sp := fun vs H Q _ => ∃ v c, vs = [v] ∧ Cat H v c ∧ CdOk c ∧ (∀ x ∈ c.2, x < 10 ^ 60) ∧ ∀ H', Same H H' → Q (.int (lkI c.2)) H'
def toldLet (c : Cd) (n : Nat) (Q : VK) (H : Hp) : Prop := ∀ H', Same H H' → Q (.int (lkI (it n c).2 - lkI c.2)) H'
/-- NoCoder, NoCount; else how many letters -/
def spLet (C1 C2 : Addr) : Sp := fun vs H Q E => ∃ v u d e, vs = [v, u] ∧ Th H v d ∧ Th H u e ∧ (∀ c, d = cdD c → ∀ x ∈ c.2, x < 10 ^ 40) ∧ (isCd d = false → ∀ H', Same H H' → E (.ref C1) none H') ∧
  (isCd d = true → inR e 0 1000000000000000000 = false → ∀ H', Same H H' → E (.ref C2) none H') ∧ (∀ c (n : Nat), d = cdD c → CdOk c → e = .int n → n ≤ 1000000000000000000 → toldLet c n Q H)
theorem let_of {C1 C2 : Addr} {Q : VK} {E : XK} {H : Hp} {v : V} {c : Cd} {n : Nat} (cat : Cat H v c) (ok : CdOk c) (hn : n ≤ 1000000000000000000) (hB : ∀ x ∈ c.2, x < 10 ^ 40) (k : toldLet c n Q H) : spLet C1 C2 [v, .int (n : Int)] H Q E := by
  refine ⟨v, .int (n : Int), cdD c, .int (n : Int), rfl, cat.th, .int _, fun c2 ec => ?_, fun z => ?_, fun _ z => ?_, fun c2 n2 ec _ en _ => ?_⟩
  · rw [← cdD_inj ec]
    exact hB
  · rw [isCd_cdD ok] at z
    cases z
  · exfalso
    have y : (decide ((0 : Int) ≤ (n : Int)) && decide ((n : Int) ≤ 1000000000000000000)) = false := z
    rw [decide_eq_true (by omega), decide_eq_true (by omega)] at y
    cases y
  · have e := cdD_inj ec
    have e2 : n2 = n := by injection en with en; omega
    subst e e2
    exact k
def tabK (p : Nat) (f : Nat → Int) : List V := (List.range p).map fun k => V.int (f k)
end Lk
end
section
/-! Steps between coders in one round: mathematics. -/
namespace Lk
/-- at one place, lengths alike modulo the places -/
def Cong (x d : Cd) : Prop := x.1 = d.1 ∧ ∀ k, k < d.2.length → len x k % d.2.length = len d k % d.2.length
theorem Cong.symm {x d : Cd} (l : x.2.length = d.2.length) (h : Cong x d) : Cong d x := ⟨h.1.symm, fun k hk => by rw [l] at hk ⊢; exact (h.2 k hk).symm⟩
theorem Cong.trans {x y z : Cd} (l : y.2.length = z.2.length) (a : Cong x y) (b : Cong y z) : Cong x z := ⟨a.1.trans b.1, fun k hk => by
  have z1 := a.2 k (l ▸ hk)
  rw [l] at z1
  exact z1.trans (b.2 k hk)⟩
theorem Cong.refl (x : Cd) : Cong x x := ⟨rfl, fun _ _ => rfl⟩
theorem cong_nx {x y : Cd} (l : x.2.length = y.2.length) (hx : COk x) (hy : COk y) (h : Cong x y) : Cong (nx x) (nx y) := by
  have e := h.1
  have hl := h.2 y.1 hy
  refine ⟨?_, fun k hk => ?_⟩
  · show (x.1 + (len x x.1 + 1)) % x.2.length = (y.1 + (len y y.1 + 1)) % y.2.length
    rw [e, l, show y.1 + (len x y.1 + 1) = len x y.1 + (y.1 + 1) by omega, show y.1 + (len y y.1 + 1) = len y y.1 + (y.1 + 1) by omega, Nat.add_mod, hl, ← Nat.add_mod]
  · rw [nx_len] at hk ⊢
    by_cases g : k = y.1
    · subst g
      have z : len (nx x) y.1 = len x y.1 + 1 := by rw [← e]; exact len_nx_same hx
      rw [z, len_nx_same hy, Nat.add_mod, hl, ← Nat.add_mod]
    · rw [len_nx_ne g, len_nx_ne (fun z => g (z.trans e))]
      exact h.2 k hk
theorem cong_it : ∀ (n : Nat) {x y : Cd}, x.2.length = y.2.length → COk x → COk y → Cong x y → Cong (it n x) (it n y)
  | 0, _, _, _, _, _, h => h
  | n + 1, _, _, l, hx, hy, h => cong_it n (by rw [nx_len, nx_len, l]) (nx_ok hx) (nx_ok hy) (cong_nx l hx hy h)
theorem cong_rounds {c : Cd} (h : COk c) (f : Free c) (q : Nat) : Cong (it (q * (c.2.length * c.2.length)) c) c := by
  rw [it_rounds h f q]
  refine ⟨rfl, fun k hk => ?_⟩
  show ((c.2.map (· + q * c.2.length)).getD k 0) % c.2.length = _
  rw [getD_map_add _ _ hk, Nat.add_mul_mod_self_right]
  rfl
theorem no_sooner {X : Cd} (h : COk X) (f : Free X) {d : Nat} (h0 : 0 < d) (h1 : d < X.2.length * X.2.length) (e : Cong (it d X) X) : False := by
  have hp : 0 < X.2.length := Nat.lt_of_le_of_lt (Nat.zero_le _) h
  have bd : Bd X d := bd_all h f d (Nat.le_of_lt h1)
  have more : len X X.1 + 1 ≤ len (it d X) X.1 := by
    have a := len_nx_same h
    have b := len_mono (d - 1) X.1 (nx_ok h)
    have e3 : it (d - 1) (nx X) = it d X := by
      show it ((d - 1) + 1) X = it d X
      rw [show d - 1 + 1 = d by omega]
    rw [e3] at b
    omega
  have le := bd X.1 h
  have cg := e.2 X.1 h
  have full : len (it d X) X.1 = len X X.1 + X.2.length := by
    obtain ⟨k, hk⟩ : ∃ k, len (it d X) X.1 = len X X.1 + k := ⟨len (it d X) X.1 - len X X.1, by omega⟩
    rw [hk] at cg le more ⊢
    have z := mod_ne cg (by omega)
    omega
  have all := all_full h f bd e.1 full
  have s1 := sum_it d h
  have s2 : (it d X).2.sum = X.2.sum + X.2.length * X.2.length := by
    have a := sum_S (c := X) d
    have b : S X.2.length (fun i => len (it d X) i) = S X.2.length (fun i => len X i + X.2.length) := S_congr _ fun i hi => all i hi
    rw [a, b, S_add, S_const]
    have c := S_getD X.2
    show S X.2.length (fun i => X.2.getD i 0) + _ = _
    rw [c]
  omega
theorem btw_unique {c d : Cd} (h : COk c) (f : Free c) (ld : d.2.length = c.2.length) {n m : Nat} (hn : n < c.2.length * c.2.length) (hm : m < c.2.length * c.2.length) (a : Cong (it n c) d) (b : Cong (it m c) d) : n = m := by
  have key : ∀ n m : Nat, n < m → m < c.2.length * c.2.length → Cong (it n c) d → Cong (it m c) d → False := fun n m l hm a b => by
    refine no_sooner (it_ok n h) (free_it n h f) (d := m - n) (by omega) (by rw [it_len]; omega) ?_
    rw [← it_add, show n + (m - n) = m by omega]
    exact b.trans (by rw [it_len]; exact ld) (a.symm (by rw [it_len]; exact ld.symm))
  rcases Nat.lt_trichotomy n m with l | l | l
  · exact (key n m l hm a b).elim
  · exact l
  · exact (key m n l hn b a).elim
def Btw (c d : Cd) : Option Nat → Prop
  | some n => n < c.2.length * c.2.length ∧ Cong (it n c) d
  | none => ∀ n, n < c.2.length * c.2.length → ¬ Cong (it n c) d
theorem btw_one {c d : Cd} (h : COk c) (f : Free c) (ld : d.2.length = c.2.length) : ∀ {r q : Option Nat}, Btw c d r → Btw c d q → r = q
  | some n, some m, a, b => congrArg some (btw_unique h f ld a.1 b.1 a.2 b.2)
  | some n, none, a, b => absurd a.2 (b n a.1)
  | none, some m, a, b => absurd b.2 (a m b.1)
  | none, none, _, _ => rfl
theorem btw_sign {c d : Cd} (hc : COk c) (hd : COk d) (l : d.2.length = c.2.length) (fc : Free c) (fd : Free d) {r : Option Nat} (b : Btw c d r) : sgn c = sgn d ↔ r ≠ none := by
  have hp : 0 < c.2.length := Nat.lt_of_le_of_lt (Nat.zero_le _) hc
  have hqp : 0 < c.2.length * c.2.length := Nat.mul_pos hp hp
  constructor
  · rintro e rfl
    obtain ⟨n, d', hn, ld, h1, hl⟩ := sgn_best hc hd l fd e
    have cg : Cong (it n c) d := by rw [hn]; exact ⟨h1, fun k hk => (hl k hk).2⟩
    have sp : n % (c.2.length * c.2.length) + n / (c.2.length * c.2.length) * (c.2.length * c.2.length) = n := by rw [Nat.mul_comm (n / _)]; exact Nat.mod_add_div _ _
    generalize n % (c.2.length * c.2.length) = r at sp
    have hr : n - n / (c.2.length * c.2.length) * (c.2.length * c.2.length) = r := by omega
    have hr2 : r < c.2.length * c.2.length := by
      rw [← hr, Nat.mul_comm (n / _)]
      have := Nat.mod_add_div n (c.2.length * c.2.length)
      have := Nat.mod_lt n hqp
      omega
    refine b r hr2 ?_
    have z := cong_rounds (it_ok r hc) (free_it r hc fc) (n / (c.2.length * c.2.length))
    rw [it_len, ← it_add, sp] at z
    exact (z.symm (by rw [it_len, it_len])).trans (by rw [it_len]; exact l.symm) cg
  · intro ne
    cases r with
    | none => exact absurd rfl ne
    | some n =>
      rw [← sgn_it n hc]
      refine sgn_cong (by rw [it_len]; exact l.symm) b.2.1 fun k hk => ?_
      rw [it_len] at hk ⊢
      have z := b.2.2 k (l ▸ hk)
      rw [l] at z
      exact z
theorem btw_back {c d : Cd} (hc : COk c) (hd : COk d) (l : d.2.length = c.2.length) (fc : Free c) {s : Nat} (hs : s < c.2.length * c.2.length) (a : Cong (it s c) d) : Btw d c (some ((c.2.length * c.2.length - s) % (c.2.length * c.2.length))) := by
  have hp : 0 < c.2.length := Nat.lt_of_le_of_lt (Nat.zero_le _) hc
  have hqp : 0 < c.2.length * c.2.length := Nat.mul_pos hp hp
  refine ⟨by rw [l]; exact Nat.mod_lt _ hqp, ?_⟩
  have b : Cong d (it s c) := a.symm (by rw [it_len]; exact l.symm)
  rcases Nat.eq_zero_or_pos s with z | z
  · subst z
    rw [Nat.sub_zero, Nat.mod_self]
    exact b
  · rw [Nat.mod_eq_of_lt (by omega)]
    have x := cong_it (c.2.length * c.2.length - s) (by rw [it_len]; exact l) hd (it_ok s hc) b
    rw [← it_add, show s + (c.2.length * c.2.length - s) = c.2.length * c.2.length by omega] at x
    have y := cong_rounds hc fc 1
    rw [Nat.one_mul] at y
    exact x.trans (it_len _) y
end Lk
end
section
set_option maxRecDepth 100000
set_option maxHeartbeats 2000000
/-! a round's words in order, how far lengths come apart, coders that come late. -/
namespace Lk
/-- a place not been at stays where it was -/
theorem len_never {c : Cd} (h : COk c) {n v : Nat} (nv : ∀ t, t ≤ n → (it t c).1 ≠ v) : len (it n c) v = len c v := by
  refine Nat.le_antisymm (Nat.le_of_not_lt fun z => ?_) (len_mono n v h)
  obtain ⟨t, ht, e, _⟩ := step_of n v (len c v + 1) h (Nat.lt_succ_self _) z
  exact nv t (by omega) e
theorem notfree_of {c : Cd} (h : COk c) {n v : Nat} (hv : v < c.2.length) (e : go c v = v) (nv : ∀ t, t ≤ n → (it t c).1 ≠ v) : ¬ Free (it n c) := fun f => by
  obtain ⟨k, hk⟩ := f v (by rw [it_len]; exact hv)
  have g : go (it n c) v = v := by
    unfold go at e ⊢
    rw [len_never h nv, it_len]
    exact e
  have gs : ∀ k, gon (it n c) k v = v := fun k => by
    induction k with
    | zero => rfl
    | succ k ih => rw [gon_succ, ih, g]
  rw [gs k] at hk
  exact nv n (Nat.le_refl _) hk.symm
theorem never_of {c : Cd} (h : COk c) {n : Nat} (nf : ¬ Free (it n c)) : ∃ v, v < c.2.length ∧ ∀ t, t ≤ n → (it t c).1 ≠ v := by
  refine Classical.byContradiction fun no => nf fun i hi => Classical.byContradiction fun nr => no ⟨i, by rw [it_len] at hi; exact hi, fun t ht e => nr ?_⟩
  rw [← e]
  exact rch_been h ht
/-- till its round is come, each place has at most p words more -/
theorem gain_till {c : Cd} (h : COk c) {n : Nat} (a : Ahead c n) (i : Nat) : len (it n c) i ≤ len c i + c.2.length := by
  cases n with
  | zero => exact Nat.le_add_right _ _
  | succ m =>
    obtain ⟨v, hv, nv⟩ := never_of h (a.2 m (Nat.lt_succ_self m))
    have one : len (it (m + 1) c) i ≤ len (it m c) i + 1 := by
      rw [it_succ]
      by_cases e : i = (it m c).1
      · rw [e, len_nx_same (it_ok m h)]
        exact Nat.le_refl _
      · rw [len_nx_ne e]
        exact Nat.le_succ _
    have most : len (it m c) i < len c i + c.2.length := by
      refine Nat.lt_of_not_le fun z => ?_
      obtain ⟨w, w1, w2, w3⟩ := some_to i (len c i) v hv
      obtain ⟨t, ht, e1, e2⟩ := step_of m i w h w1 (Nat.le_trans w2 z)
      exact nv (t + 1) (by omega) (e2.trans w3)
    omega
theorem gain_far {c : Cd} (h : COk c) {n : Nat} (a : Ahead c n) (m : Nat) {i : Nat} (hi : i < c.2.length) :
    ∃ q, len c i + q * c.2.length ≤ len (it (n + (q * (c.2.length * c.2.length) + m)) c) i := by
  refine ⟨0, ?_⟩
  rw [Nat.zero_mul, Nat.add_zero]
  exact len_mono _ _ h
/-- behind so many whole rounds and some steps -/
theorem gain_in {c : Cd} (h : COk c) {n : Nat} (a : Ahead c n) (q m : Nat) (hm : m < c.2.length * c.2.length) {i : Nat} (hi : i < c.2.length) :
    len c i + q * c.2.length ≤ len (it (n + (q * (c.2.length * c.2.length) + m)) c) i ∧ len (it (n + (q * (c.2.length * c.2.length) + m)) c) i ≤ len c i + q * c.2.length + 2 * c.2.length := by
  have ok := it_ok n h
  have e : (it n c).2.length = c.2.length := it_len n
  have er := it_rounds ok a.1 q
  have ok2 := it_ok (q * (c.2.length * c.2.length)) ok
  have fr2 := free_it (q * (c.2.length * c.2.length)) ok a.1
  have bd := bd_all ok2 fr2 m (by rw [it_len, e]; exact Nat.le_of_lt hm) i (by rw [it_len, e]; exact hi)
  rw [it_add, it_add]
  rw [it_len, e] at bd
  rw [e] at er
  have el : len (it (q * (c.2.length * c.2.length)) (it n c)) i = len (it n c) i + q * c.2.length := by
    rw [er]
    exact getD_map_add _ _ (by rw [e]; exact hi)
  have b1 := len_mono m i ok2
  have b2 := len_mono n i h
  have b3 := gain_till h a i
  rw [el] at bd b1
  omega
/-! ### the words of a round -/
def wm (c : Cd) : Nat × Nat := (c.1, (len c c.1 + 1) % c.2.length)
def wms (n : Nat) (c : Cd) : List (Nat × Nat) := (List.range n).map fun t => wm (it t c)
theorem wms_eq (n : Nat) (c : Cd) : (wds n c).map (fun x => (x.1, x.2 % c.2.length)) = wms n c := by
  unfold wds wms
  rw [List.map_map]
  refine List.map_congr_left fun t _ => ?_
  show (_, _ % c.2.length) = (_, _ % (it t c).2.length)
  rw [it_len]
  rfl
theorem wms_len (n : Nat) (c : Cd) : (wms n c).length = n := by
  unfold wms
  rw [List.length_map, List.length_range]
theorem wms_at {n t : Nat} (c : Cd) (h : t < n) : (wms n c)[t]? = some (wm (it t c)) := by
  unfold wms
  rw [List.getElem?_map, List.getElem?_range h]
  rfl
theorem wm_round {d : Cd} (h : COk d) (f : Free d) : wm (it (d.2.length * d.2.length) d) = wm d := by
  rw [it_round h f]
  unfold wm
  dsimp only
  have e : len (d.1, d.2.map (· + d.2.length)) d.1 = len d d.1 + d.2.length := getD_map_add _ _ h
  rw [e, List.length_map, show len d d.1 + d.2.length + 1 = len d d.1 + 1 + d.2.length by omega, Nat.add_mod_right]
theorem wms_turn {d : Cd} (h : COk d) (f : Free d) {b : Nat} (hb : b ≤ d.2.length * d.2.length) :
    wms (d.2.length * d.2.length) (it b d) = (wms (d.2.length * d.2.length) d).drop b ++ (wms (d.2.length * d.2.length) d).take b := by
  have ld : ((wms (d.2.length * d.2.length) d).drop b).length = d.2.length * d.2.length - b := by rw [List.length_drop, wms_len]
  refine List.ext_getElem? fun t => ?_
  by_cases ht : t < d.2.length * d.2.length
  · rw [wms_at _ ht, ← it_add]
    by_cases t2 : t < d.2.length * d.2.length - b
    · rw [List.getElem?_append_left (by rw [ld]; exact t2), List.getElem?_drop, wms_at _ (by omega)]
    · rw [List.getElem?_append_right (by rw [ld]; omega), ld, List.getElem?_take, if_pos (by omega), wms_at _ (by omega)]
      have z := wm_round (it_ok (t - (d.2.length * d.2.length - b)) h) (free_it (t - (d.2.length * d.2.length - b)) h f)
      rw [it_len, ← it_add, show t - (d.2.length * d.2.length - b) + d.2.length * d.2.length = b + t by omega] at z
      rw [z]
  · rw [List.getElem?_eq_none (by rw [wms_len]; omega), List.getElem?_eq_none (by rw [List.length_append, ld, List.length_take, wms_len]; omega)]
/-- as one number -/
def cod (p : Nat) (x : Nat × Nat) : Nat := x.1 * p + x.2
theorem cod_inj {p : Nat} {x y : Nat × Nat} (hx : x.2 < p) (hy : y.2 < p) (e : cod p x = cod p y) : x = y := by
  have hp : 0 < p := by omega
  unfold cod at e
  have e1 : (x.1 * p + x.2) / p = x.1 := by rw [Nat.mul_comm, Nat.mul_add_div hp, Nat.div_eq_of_lt hx, Nat.add_zero]
  have e2 : (y.1 * p + y.2) / p = y.1 := by rw [Nat.mul_comm, Nat.mul_add_div hp, Nat.div_eq_of_lt hy, Nat.add_zero]
  have a : x.1 = y.1 := by rw [← e1, ← e2, e]
  rw [a] at e
  exact Prod.ext a (by omega)
theorem wm_lt {d : Cd} (h : COk d) : (wm d).1 < d.2.length ∧ (wm d).2 < d.2.length := ⟨h, Nat.mod_lt _ (Nat.lt_of_le_of_lt (Nat.zero_le _) h)⟩
theorem wm_ne {d : Cd} (h : COk d) (f : Free d) {i j : Nat} (hij : i < j) (hj : j < d.2.length * d.2.length) : wm (it i d) ≠ wm (it j d) := fun e => by
  unfold wm at e
  injection e with e1 e2
  rw [it_len, it_len] at e2
  have oki := it_ok i h
  have okj := it_ok j h
  have b0 := len_mono i (it i d).1 h
  have b1 : len (it (i + 1) d) (it i d).1 = len (it i d) (it i d).1 + 1 := by rw [it_succ, len_nx_same oki]
  have b2 := len_mono (j - (i + 1)) (it i d).1 (it_ok (i + 1) h)
  rw [← it_add, show i + 1 + (j - (i + 1)) = j by omega] at b2
  have b3 : len (it (j + 1) d) (it j d).1 = len (it j d) (it j d).1 + 1 := by rw [it_succ, len_nx_same okj]
  have b4 := bd_all h f (j + 1) hj (it j d).1 (by have z := okj; unfold COk at z; rw [it_len] at z; exact z)
  rw [← e1] at e2 b3 b4
  generalize len (it i d) (it i d).1 = x at *
  generalize len (it j d) (it i d).1 = y at *
  have z := mod_ne (p := d.2.length) (m := x + 1) (d := y - x) (by rw [show x + 1 + (y - x) = y + 1 by omega]; exact e2.symm) (by omega)
  omega
theorem rise_range : ∀ {n : Nat} {l : List Nat}, l.length = n → l.Pairwise (· < ·) → (∀ x ∈ l, x < n) → l = List.range n := by
  intro n l hl hp hn
  have mono : ∀ i j (hi : i < l.length) (hj : j < l.length), i < j → l[i] < l[j] := fun i j hi hj hij => List.pairwise_iff_getElem.mp hp i j hi hj hij
  have low : ∀ i (hi : i < l.length), i ≤ l[i] := by
    intro i
    induction i with
    | zero => exact fun _ => Nat.zero_le _
    | succ i ih =>
      intro hi
      have a := ih (by omega)
      have b := mono i (i + 1) (by omega) hi (Nat.lt_succ_self i)
      omega
  have up : ∀ k i (hk : i + k < l.length), l[i]'(by omega) + k ≤ l[i + k] := by
    intro k
    induction k with
    | zero => exact fun i hk => Nat.le_refl _
    | succ k ih =>
      intro i hk
      have a := ih i (by omega)
      have b := mono (i + k) (i + (k + 1)) (by omega) hk (by omega)
      omega
  refine List.ext_getElem (by rw [hl, List.length_range]) fun i h1 h2 => ?_
  rw [List.getElem_range]
  have a := low i h1
  have b := up (l.length - 1 - i) i (by omega)
  have c := hn _ (List.getElem_mem (h := show i + (l.length - 1 - i) < l.length by omega))
  omega
/-! ### late ones -/
/-- the places of the next so many moments -/
def plcs : Nat → Cd → List Nat
  | 0, c => [c.1]
  | n + 1, c => c.1 :: plcs n (nx c)
theorem plcs_mem : ∀ {n : Nat} {c : Cd} {t : Nat}, t ≤ n → (it t c).1 ∈ plcs n c
  | 0, c, t, h => by
    rw [Nat.le_zero.mp h]
    exact List.mem_singleton.mpr rfl
  | n + 1, c, 0, _ => List.mem_cons.mpr (.inl rfl)
  | n + 1, c, t + 1, h => List.mem_cons.mpr (.inr (plcs_mem (n := n) (c := nx c) (by omega)))
theorem plcs_of : ∀ {n : Nat} {c : Cd} {v : Nat}, v ∈ plcs n c → ∃ t, t ≤ n ∧ (it t c).1 = v
  | 0, c, v, h => ⟨0, Nat.le_refl _, (List.mem_singleton.mp h).symm⟩
  | n + 1, c, v, h => by
    rcases List.mem_cons.mp h with e | h
    · exact ⟨0, Nat.zero_le _, e.symm⟩
    · obtain ⟨t, h1, h2⟩ := plcs_of h
      exact ⟨t + 1, by omega, h2⟩
def lateC (p last : Nat) : Cd := ((last + (p - 1)) % p, (List.range p).map fun i => (last + (p - i)) % p)
def lateB (p last : Nat) : Bool := !(plcs ((p - 1) * (p - 1)) (lateC p last)).contains last
def zeroC (p s : Nat) : Cd := (s, List.replicate p 0)
def zeroB (p s : Nat) : Bool := !(plcs (p - 2) (zeroC p s)).contains ((s + (p - 1)) % p) && (List.range p).all fun i => (plcs (p - 1) (zeroC p s)).contains i
theorem late_all : ∀ p, 2 ≤ p → p ≤ 12 → ∀ last, last < p → lateB p last = true := by
  have h : (List.range 13).all (fun p => decide (p < 2) || (List.range p).all (fun l => lateB p l)) = true := by decide +kernel
  intro p h2 h12 l hl
  have a := List.all_eq_true.mp h p (List.mem_range.mpr (by omega))
  rw [decide_eq_false (by omega), Bool.false_or] at a
  exact List.all_eq_true.mp a l (List.mem_range.mpr hl)
theorem zero_all : ∀ p, 2 ≤ p → p ≤ 12 → ∀ s, s < p → zeroB p s = true := by
  have h : (List.range 13).all (fun p => decide (p < 2) || (List.range p).all (fun l => zeroB p l)) = true := by decide +kernel
  intro p h2 h12 l hl
  have a := List.all_eq_true.mp h p (List.mem_range.mpr (by omega))
  rw [decide_eq_false (by omega), Bool.false_or] at a
  exact List.all_eq_true.mp a l (List.mem_range.mpr hl)
theorem free_mono {c : Cd} (h : COk c) {m n : Nat} (hm : m ≤ n) (f : Free (it m c)) : Free (it n c) := by
  rw [show n = m + (n - m) by omega, it_add]
  exact free_it _ (it_ok m h) f
theorem ahead_by {c : Cd} (h : COk c) {n : Nat} (f : Free (it (n + 1) c)) (nf : ¬ Free (it n c)) : Ahead c (n + 1) := ⟨f, fun m hm g => nf (free_mono h (by omega) g)⟩
theorem ahead_cong {c d : Cd} (hc : COk c) (hd : COk d) (l : c.2.length = d.2.length) (e : Cong c d) {n : Nat} (a : Ahead c n) : Ahead d n := by
  have fr : ∀ m, Free (it m c) ↔ Free (it m d) := fun m => by
    have q := cong_it m l hc hd e
    have l2 : (it m c).2.length = (it m d).2.length := by rw [it_len, it_len, l]
    have q2 := Cong.symm l2 q
    exact ⟨fun f => free_cong (it_ok m hc) l2 q.1 (fun k hk => by rw [l2] at hk; have z := q.2 k hk; rw [← l2] at z; exact z) f, fun f => free_cong (it_ok m hd) l2.symm q2.1 (fun k hk => by rw [← l2] at hk; have z := q2.2 k hk; rw [l2] at z; exact z) f⟩
  exact ⟨(fr n).mp a.1, fun m hm f => a.2 m hm ((fr m).mpr f)⟩
theorem late_ok {p last : Nat} (hp : 0 < p) : COk (lateC p last) := by
  show (last + (p - 1)) % p < ((List.range p).map _).length
  rw [List.length_map, List.length_range]
  exact Nat.mod_lt _ hp
theorem late_len (p last : Nat) : (lateC p last).2.length = p := by
  show ((List.range p).map _).length = p
  rw [List.length_map, List.length_range]
theorem late_at {p last i : Nat} (hi : i < p) : len (lateC p last) i = (last + (p - i)) % p := by
  show ((List.range p).map fun i => (last + (p - i)) % p).getD i 0 = _
  rw [List.getD_eq_getElem?_getD, List.getElem?_map, List.getElem?_range hi]
  rfl
theorem late_go {p last : Nat} (hl : last < p) : go (lateC p last) last = last := by
  unfold go
  rw [late_len, late_at hl, show last + (p - last) = p by omega, Nat.mod_self, Nat.add_zero, Nat.mod_eq_of_lt hl]
theorem late_ahead {p last : Nat} (h2 : 2 ≤ p) (h12 : p ≤ 12) (hl : last < p) : Ahead (lateC p last) ((p - 1) * (p - 1) + 1) := by
  have ok := late_ok (last := last) (show 0 < p by omega)
  have a := late_all p h2 h12 last hl
  refine ahead_by ok ?_ ?_
  · exact free_late ok (by rw [late_len]; exact Nat.le_refl _)
  · refine notfree_of ok (by rw [late_len]; exact hl) (late_go hl) fun t ht e => ?_
    have m := plcs_mem (n := (p - 1) * (p - 1)) (c := lateC p last) ht
    rw [e] at m
    unfold lateB at a
    rw [List.contains_iff_mem.mpr m] at a
    cases a
theorem free_one {c : Cd} (h : COk c) (e : c.2.length = 1) : Free c := fun i hi => ⟨0, by
  have z : c.1 < c.2.length := h
  show i = c.1
  omega⟩
theorem ahead_zero {c : Cd} (f : Free c) : Ahead c 0 := ⟨f, fun m hm => absurd hm (Nat.not_lt_zero m)⟩
theorem zero_ok {p s : Nat} (hs : s < p) : COk (zeroC p s) := by
  show s < (List.replicate p 0).length
  rw [List.length_replicate]
  exact hs
theorem zero_len (p s : Nat) : (zeroC p s).2.length = p := List.length_replicate
theorem zero_go {p s i : Nat} (hi : i < p) : go (zeroC p s) i = i := by
  unfold go
  rw [zero_len, show len (zeroC p s) i = 0 by
    show (List.replicate p 0).getD i 0 = 0
    rw [List.getD_eq_getElem?_getD, List.getElem?_replicate, if_pos hi]
    rfl, Nat.add_zero, Nat.mod_eq_of_lt hi]
theorem zero_ahead {p s : Nat} (h12 : p ≤ 12) (hs : s < p) : Ahead (zeroC p s) (p - 1) := by
  have ok := zero_ok hs
  by_cases h2 : 2 ≤ p
  · have a := zero_all p h2 h12 s hs
    unfold zeroB at a
    rw [Bool.and_eq_true] at a
    have a2 := a.2
    have a1 := a.1
    rw [show p - 1 = (p - 2) + 1 by omega]
    refine ahead_by ok ?_ ?_
    · rw [show p - 2 + 1 = p - 1 by omega]
      refine fun i hi => ?_
      rw [it_len, zero_len] at hi
      have m := List.contains_iff_mem.mp (List.all_eq_true.mp a2 i (List.mem_range.mpr hi))
      obtain ⟨t, ht, e⟩ := plcs_of m
      rw [← e]
      exact rch_been ok ht
    · have hv : (s + (p - 1)) % p < p := Nat.mod_lt _ (by omega)
      refine notfree_of ok (by rw [zero_len]; exact hv) (zero_go hv) fun t ht e => ?_
      have m := plcs_mem (n := p - 2) (c := zeroC p s) ht
      rw [e] at m
      rw [List.contains_iff_mem.mpr m] at a1
      cases a1
  · have e : p = 1 := by omega
    subst e
    exact ahead_zero (free_one ok (zero_len 1 s))
end Lk
end
section
set_option maxRecDepth 100000
set_option maxHeartbeats 2000000
/-! The fewest steps till a coder has come so far. -/
namespace Lk
open PySem PySem.Spec PyProof.Rows L2 LamX NdefX
/-! ### x *= i, x //= i -/
def ipC (C : Int → Int → Prop) (f : Int → Int → Int) : TIp := fun x y H Q => ∃ i j, x = .int i ∧ y = .int j ∧ C i j ∧ Q (.int (f i j)) H
theorem ip_mulC {X : Cx} : PIp X .Mult (ipC CMul fun i j => i * j) := by
  intro pins s σ H x y v u Q I r1 r2 h
  obtain ⟨i, j, e1, e2, hc, q⟩ := h
  subst e1; subst e2
  obtain ⟨t, rfl⟩ := r1
  obtain ⟨t', rfl⟩ := r2
  exact PySem.P.imul_int ⟨.int _, H, I.tok _, ⟨_, rfl⟩, q⟩ hc.ok
theorem ip_fdivC {X : Cx} : PIp X .FloorDiv (ipC CDiv fun i j => i / j) := by
  intro pins s σ H x y v u Q I r1 r2 h
  obtain ⟨i, j, e1, e2, hc, q⟩ := h
  subst e1; subst e2
  obtain ⟨t, rfl⟩ := r1
  obtain ⟨t', rfl⟩ := r2
  have h1 : (0 : Int) < j := hc.1
  have h2 : j < 1073741824 := hc.2
  refine ifloordiv_int (by omega) ?_ (.inl (PyProof.noPylong_small (by omega)))
  rw [Int.fdiv_eq_ediv_of_nonneg i (by omega)]
  exact ⟨.int _, H, I.tok _, ⟨_, rfl⟩, q⟩
/-! ### rounds later -/
def rl (c : Cd) (m : Nat) : Cd := (c.1, c.2.map (· + m * c.2.length))
theorem rl_len (c : Cd) (m : Nat) : (rl c m).2.length = c.2.length := List.length_map _
theorem rl_ok {c : Cd} (h : CdOk c) (m : Nat) : CdOk (rl c m) := ⟨by show c.1 < (rl c m).2.length; rw [rl_len]; exact h.1, by rw [rl_len]; exact h.2⟩
theorem rl_at {c : Cd} {m i : Nat} (h : i < c.2.length) : len (rl c m) i = len c i + m * c.2.length := getD_map_add _ _ h
theorem rl_zero (c : Cd) : rl c 0 = c := by
  refine Prod.ext rfl ?_
  show c.2.map (· + 0 * c.2.length) = c.2
  rw [Nat.zero_mul]
  exact List.map_id' _
theorem rl_it {c : Cd} (h : COk c) (f : Free c) (r : Nat) : rl c r = it (r * (c.2.length * c.2.length)) c := (it_rounds h f r).symm
theorem rl_bd {c : Cd} {B m D : Nat} (h12 : c.2.length ≤ 12) (h : ∀ n ∈ c.2, n < B) (hm : m * 12 ≤ D) : ∀ n ∈ (rl c m).2, n < B + D := fun n hn => by
  obtain ⟨x, hx, rfl⟩ := List.mem_map.mp hn
  have a := h x hx
  have b : m * c.2.length ≤ m * 12 := Nat.mul_le_mul_left m h12
  show x + m * c.2.length < B + D
  omega
/-- once reached, reached with any words more -/
def Rea (B : Cd → Bool) (p : Nat) : Prop := ∀ c d : Cd, c.2.length = p → d.2.length = p → (∀ i, i < p → len c i ≤ len d i) → B c = true → B d = true
theorem Rea.rl {B : Cd → Bool} {c : Cd} (R : Rea B c.2.length) {m n : Nat} (h : m ≤ n) (b : B (rl c m) = true) : B (rl c n) = true :=
  R _ _ (rl_len c m) (rl_len c n) (fun i hi => by
    rw [rl_at hi, rl_at hi]
    exact Nat.add_le_add_left (Nat.mul_le_mul_right _ h) _) b
theorem Rea.it {B : Cd → Bool} {c : Cd} (hc : COk c) (R : Rea B c.2.length) {m n : Nat} (h : m ≤ n) (b : B (it m c) = true) : B (it n c) = true := by
  refine R _ _ (it_len m) (it_len n) (fun i hi => ?_) b
  have z := len_mono (n - m) i (it_ok m hc)
  rw [← it_add, show m + (n - m) = n by omega] at z
  exact z
theorem bool_no {b : Bool} (h : ¬ b = true) : b = false := by
  cases b with
  | false => rfl
  | true => exact absurd rfl h
def Till (B : Cd → Bool) (c : Cd) (n : Nat) : Prop := B (it n c) = true ∧ ∀ m, m < n → B (it m c) = false
theorem till_one {B : Cd → Bool} {c : Cd} {m n : Nat} (a : Till B c m) (b : Till B c n) : m = n := by
  rcases Nat.lt_trichotomy m n with g | g | g
  · have z := b.2 m g
    rw [a.1] at z
    cases z
  · exact g
  · have z := a.2 n g
    rw [b.1] at z
    cases z
/-! ### what is promised -/
def tlR (B : Cd → Bool) (p : Nat) : TL := fun v H Q => ∃ c, Cat H v c ∧ CdOk c ∧ c.2.length = p ∧ (∀ n ∈ c.2, n < 10 ^ 60) ∧ ∀ H', Same H H' → Q (.bl (B c)) H'
def spReach (told : (Cd → Bool) → Cd → Hp → VK → Prop) (W : Nat) : TL → List V → Hp → VK → Prop := fun tl vs H Q => ∃ v c B c' q M, vs = [v] ∧ (∀ v H Q, tlOf c' q (tlR B c.2.length) v H Q → tl v H Q) ∧ H c' = some (CodeO c' q) ∧ Cat H v c ∧ CdOk c ∧ (∀ n ∈ c.2, n < W) ∧ Rea B c.2.length ∧ M ≤ 10 ^ 40 ∧ B (rl c M) = true ∧ told B c H Q
def spMost : TL → List V → Hp → VK → Prop := spReach (fun B c H Q => ∀ (r : Nat) H', Same H H' → r ≤ 10 ^ 40 → (r = 0 ∨ B (rl c r) = false) → B (rl c (r + 1)) = true → Q (.int (r : Int)) H') (10 ^ 50)
def spSteps : TL → List V → Hp → VK → Prop := spReach (fun B c H Q => ∀ (n : Nat) H', Same H H' → Till B c n → Q (.int (n : Int)) H') (10 ^ 49)
end Lk
end
section
set_option maxRecDepth 100000
set_option maxHeartbeats 2000000
/-! Letters reached, words learnt: what is promised. Defs whose code object is known. -/
namespace Lk
open PySem PySem.Spec PyProof.Rows L2 LamX NdefX
theorem tri_mono {l m : Nat} (h : l ≤ m) : tri l ≤ tri m := Nat.div_le_div_right (Nat.mul_le_mul h (by omega))
theorem tri_add (l k : Nat) : tri l + k ≤ tri (l + k) := by
  have a := two_tri (l + k)
  have b := two_tri l
  have c : k ≤ k * k := Nat.le_mul_self k
  simp only [Nat.mul_add, Nat.add_mul, Nat.mul_one, Nat.mul_comm k l] at a b
  generalize l * l = x at *
  generalize l * k = y at *
  generalize k * k = z at *
  omega
theorem lkI_mono : ∀ {ls ms : List Nat}, ls.length = ms.length → (∀ i, i < ls.length → ls.getD i 0 ≤ ms.getD i 0) → lkI ls ≤ lkI ms
  | [], [], _, _ => Int.le_refl _
  | [], _ :: _, h, _ => by cases h
  | _ :: _, [], h, _ => by cases h
  | l :: ls, m :: ms, h, hp => by
    rw [lkI_cons, lkI_cons]
    have a := tri_mono (hp 0 (by rw [List.length_cons]; omega))
    have a2 : tri l ≤ tri m := a
    have b := lkI_mono (ls := ls) (ms := ms) (Nat.succ.inj h) fun i hi => hp (i + 1) (by rw [List.length_cons]; omega)
    omega
theorem lkI_nonneg : ∀ ls : List Nat, 0 ≤ lkI ls
  | [] => Int.le_refl _
  | l :: ls => by
    rw [lkI_cons]
    have := lkI_nonneg ls
    omega
theorem lkI_more {ls : List Nat} (h : 0 < ls.length) (k : Nat) : lkI ls + (k : Int) ≤ lkI (ls.map (· + k)) := by
  cases ls with
  | nil => cases h
  | cons l ls =>
    rw [List.map_cons, lkI_cons, lkI_cons]
    have a := tri_add l k
    have b : lkI ls ≤ lkI (ls.map (· + k)) := lkI_mono (List.length_map _).symm fun i hi => by
      rw [getD_map_add k ls hi]
      omega
    omega
/-- so many letters known -/
def letB (due : Int) : Cd → Bool := fun x => decide (due < lkI x.2)
theorem letB_rea (due : Int) (p : Nat) : Rea (letB due) p := fun c d hc hd h b => by
  have z : lkI c.2 ≤ lkI d.2 := lkI_mono (by rw [hc, hd]) fun i hi => h i (by rw [← hc]; exact hi)
  have y := of_decide_eq_true b
  exact decide_eq_true (by omega)
theorem letB_ev {c : Cd} (hp : 0 < c.2.length) (n : Nat) : letB (lkI c.2 + (n : Int)) (rl c (n + 1)) = true := by
  refine decide_eq_true ?_
  have z := lkI_more hp ((n + 1) * c.2.length)
  have y : n + 1 ≤ (n + 1) * c.2.length := Nat.le_mul_of_pos_right _ hp
  show lkI c.2 + (n : Int) < lkI (c.2.map (· + (n + 1) * c.2.length))
  omega
/-- the word of so many letters known -/
def knoB (i : Nat) (l : Int) : Cd → Bool := fun x => decide (l ≤ (len x i : Int))
theorem knoB_rea {i : Nat} {p : Nat} (hi : i < p) (l : Int) : Rea (knoB i l) p := fun c d hc hd h b => by
  have z := h i hi
  have y := of_decide_eq_true b
  exact decide_eq_true (by omega)
theorem knoB_ev {c : Cd} {i : Nat} (hi : i < c.2.length) {n : Nat} : knoB i (n : Int) (rl c n) = true := by
  refine decide_eq_true ?_
  rw [rl_at hi]
  have y : n ≤ n * c.2.length := Nat.le_mul_of_pos_right _ (by omega)
  omega
/-- all but the tables of code objects stay -/
def Ext (T : List (Addr × Str)) (H H2 : Hp) : Prop := ExtN H H2 ∧ Tabs T H2
theorem Ext.refl {T : List (Addr × Str)} {H : Hp} (t : Tabs T H) : Ext T H H := ⟨ExtN.refl H, t⟩
theorem Ext.of {T : List (Addr × Str)} {H H2 : Hp} (t : Tabs T H) (s : Same H H2) : Ext T H H2 := ⟨ExtN.of s, t.ext s⟩
theorem Ext.trans {T : List (Addr × Str)} {H H1 H2 : Hp} (a : Ext T H H1) (b : Ext T H1 H2) : Ext T H H2 := ⟨a.1.trans b.1, b.2⟩
theorem Ext.same {T : List (Addr × Str)} {H H1 H2 : Hp} (a : Ext T H H1) (b : Same H1 H2) : Ext T H H2 := a.trans (Ext.of a.2 b)
theorem Ext.tup {T : List (Addr × Str)} {H H1 : Hp} (a : Ext T H H1) {b : Addr} {xs : List V} (e : H b = some (.tup xs)) : H1 b = some (.tup xs) := a.1 b _ e fun ps z => nomatch z
theorem Ext.lst {T : List (Addr × Str)} {H H1 : Hp} (a : Ext T H H1) {b : Addr} {xs : List V} (e : H b = some (.lst xs)) : H1 b = some (.lst xs) := a.1 b _ e fun ps z => nomatch z
/-- a heap without its tables -/
noncomputable def noTb (H : Hp) : Hp := fun b => match H b with
  | some (.tbl _) => none
  | o => o
theorem noTb_same {H : Hp} : Same (noTb H) H := fun b o e => by
  unfold noTb at e
  split at e
  · cases e
  · exact e
theorem noTb_ext {H H2 : Hp} (e : ExtN H H2) : Same (noTb H) H2 := fun b o h => e b o (noTb_same _ _ h) fun ps z => by
  have q := noTb_same _ _ h
  unfold noTb at h
  rw [q, z] at h
  cases h
theorem noTb_at {H : Hp} {b : Addr} {o : HO} (e : H b = some o) (n : ∀ ps, o ≠ .tbl ps) : noTb H b = some o := by
  unfold noTb
  rw [e]
  cases o <;> first | rfl | exact absurd rfl (n _)
mutual
theorem Th.noTb {H : Hp} : ∀ (d : PyData) {v : V}, Th H v d → Th (noTb H) v d
  | .none, _, h => by cases h; exact .non
  | .bool b, _, h => by cases h; exact .bl b
  | .int i, _, h => by cases h; exact .int i
  | .str x, _, h => by cases h; exact .str x
  | .list ds, _, h => by
    cases h with
    | lst e m => exact .lst (noTb_at e fun ps z => nomatch z) (ThAll.noTb ds m)
  | .tuple ds, _, h => by
    cases h with
    | tup e m => exact .tup (noTb_at e fun ps z => nomatch z) (ThAll.noTb ds m)
  | .dict kvs, _, h => by
    cases h with
    | dct e => exact .dct (noTb_at e fun ps z => nomatch z)
theorem ThAll.noTb {H : Hp} : ∀ (ds : List PyData) {vs : List V}, ThAll H vs ds → ThAll (noTb H) vs ds
  | [], _, h => by cases h; exact .nil
  | d :: ds, _, h => by
    cases h with
    | cons a b => exact .cons (Th.noTb d a) (ThAll.noTb ds b)
end
theorem Th.ext {T : List (Addr × Str)} {H H2 : Hp} (e : Ext T H H2) {d : PyData} {v : V} (h : Th H v d) : Th H2 v d := Th.same (noTb_ext e.1) _ (Th.noTb _ h)
theorem Cat.ext {T : List (Addr × Str)} {H H2 : Hp} (e : Ext T H H2) {v : V} {c : Cd} (h : Cat H v c) : Cat H2 v c := (Th.ext e h.th).cat
theorem Urn.ext {T : List (Addr × Str)} {H H2 : Hp} (e : Ext T H H2) {a : Addr} {n : Int} (h : Urn H a n) : Urn H2 a n := by
  obtain ⟨u0, u1, u2, eq, r⟩ := h
  exact ⟨u0, u1, u2, e.lst eq, r⟩
section
variable {P : Program} {w : World} {K : PySem.W.Frag} {mg : Str → Option Value} {base : Heap}
/-- its code object is the one at c -/
structure FunC (K : PySem.W.Frag) (x qual : Str) (st : Stmt) (f : Addr) (fd : FuncData) (c : Addr) : Prop where
  ex : ∃ (oc : Value) (od : Option Addr) (kV doc pm : Value) (an : Option Addr) (ct : Value) (osl : Array (Option Value)),
    fd = PySem.W.fnOf x qual (defArgs st) (defBody st) (defScope st) .none kV doc pm an (.ref c) ct ∧ K.lookup f = some ⟨oc, od, .func fd, osl⟩ ∧ PySem.W.codeIn K (.ref c) qual = true
theorem FunC.okX {x qual : Str} {st : Stmt} {f c : Addr} {fd : FuncData} {N ps : List Str} {k : Nat} {sp : Sp} (F : FunC K x qual st f fd c) (S : FnScope N ps (defScope st)) (len : ∀ vs H Q E, sp vs H Q E → vs.length = ps.length)
    (hbody : ∀ (A : Around) (outer : List Env) (s : Shared) (H : Hp) (vs : List V) (Q : VK) (E : XK), Room k (A.deeper (envOfC qual (defScope st) s.heap.objs.size f (.ref c))) → sp vs H Q E →
      ∃ t, PSs (cxOf (L2.CX P w) P w K mg base N qual (defScope st) f (.ref c) A outer s H E) (defBody st) t ∧ t { nx := fun _ H' => Q .non H', rt := Q } (L2.start N vs) H) : FnOk P w K mg base (L2.CX P w) (k + 1) f fd ps sp := by
  obtain ⟨oc, od, kV, doc, pm, an, ct, osl, rfl, lk, hcd⟩ := F.ex
  exact fn_of lk hcd S len fun A outer s H vs Q E hr hsp => hbody A outer s H vs Q E hr hsp
theorem FunC.ok {x qual : Str} {st : Stmt} {f c : Addr} {fd : FuncData} {N ps : List Str} {k : Nat} {sp : Sp} (F : FunC K x qual st f fd c) (S : FnScope N ps (defScope st)) (len : ∀ vs H Q E, sp vs H Q E → vs.length = ps.length)
    (hbody : ∀ (A : Around) (outer : List Env) (s : Shared) (H : Hp) (vs : List V) (Q : VK) (E : XK), Room k (A.deeper (envOfC qual (defScope st) s.heap.objs.size f (.ref c))) → sp vs H Q E →
      ∃ t, PSs (cxOf C8.CX0 P w K mg base N qual (defScope st) f (.ref c) A outer s H E).nox (defBody st) t ∧ t { nx := fun _ H' => Q .non H', rt := Q } (L2.start N vs) H) : FnOk P w K mg base C8.CX0 (k + 1) f fd ps sp := by
  obtain ⟨oc, od, kV, doc, pm, an, ct, osl, rfl, lk, hcd⟩ := F.ex
  refine fn_of lk hcd S len fun A outer s H vs Q E hr hsp => ?_
  obtain ⟨t, h, q⟩ := hbody A outer s H vs Q E hr hsp
  exact ⟨t, h.nox, q⟩
theorem FunC.of {x qual : Str} {st : Stmt} {f c : Addr} {oc : Value} {od an : Option Addr} {osl : Array (Option Value)} {kV doc pm ct : Value} (l : K.lookup f = some ⟨oc, od, .func (PySem.W.fnOf x qual (defArgs st) (defBody st) (defScope st) .none kV doc pm an (.ref c) ct), osl⟩) (hc : PySem.W.codeIn K (.ref c) qual = true) :
    FunC K x qual st f (PySem.W.fnOf x qual (defArgs st) (defBody st) (defScope st) .none kV doc pm an (.ref c) ct) c := ⟨_, _, _, _, _, _, _, _, rfl, l, hc⟩
end
/-- NoCoder, NoCount; else the number of the word that has the letter -/
def spNumAt (C1 C2 : Addr) (T : List (Addr × Str)) : Sp := fun vs H Q E => ∃ v u d e, vs = [v, u] ∧ Th H v d ∧ Th H u e ∧ Tabs T H ∧ (∀ c, d = cdD c → ∀ x ∈ c.2, x < 10 ^ 49) ∧ (isCd d = false → ∀ H', Same H H' → E (.ref C1) none H') ∧
  (isCd d = true → inR e 0 (10 ^ 36) = false → ∀ H', Same H H' → E (.ref C2) none H') ∧
  (∀ c (n : Nat), d = cdD c → CdOk c → e = .int n → n ≤ 10 ^ 36 → ∀ (m : Nat) H', Ext T H H' → Till (letB (lkI c.2 + (n : Int))) c m → Q (.int (m : Int)) H')
/-- how many steps till the word is known -/
def spKnown (T : List (Addr × Str)) : Sp := fun vs H Q _ => ∃ (v : V) (c : Cd) (i l : Nat), vs = [v, .int (i : Int), .int (l : Int)] ∧ Cat H v c ∧ CdOk c ∧ (∀ x ∈ c.2, x < 10 ^ 49) ∧ Tabs T H ∧ i < c.2.length ∧ l ≤ 10 ^ 40 ∧
  ∀ (m : Nat) H', Ext T H H' → Till (knoB i (l : Int)) c m → Q (.int (m : Int)) H'
end Lk
end
section
set_option maxRecDepth 100000
set_option maxHeartbeats 2000000
/-! The end of a law whose program makes lambdas. -/
namespace Lk
open PySem PySem.Spec PyProof.Rows L2 LamX
/-- the defs' tables of code objects are empty -/
def Empty (q : Program) (mg : Str → Option Value) (h : Heap) : Prop := ∀ d ∈ recsOf q, ∃ a o fd c P, mg d.name = some (.ref a) ∧ h.get? a = some o ∧ o.data = .func fd ∧ fd.code = .ref c ∧ h.IsCode c P #[] ∧ h.TableAt c P #[]
theorem walk_ofT {l : PySem.W.OpenLaw} {n k : Nat} {q : Program} {loose : List Str} {XP : (Str → Option Value) → Heap → Prop} {YP : World → Heap → Prop} {d : DefRec} {K : Params → PySem.W.Frag} {CX : World → CXT} {x : Str}
    (hn : l.most = some n) (hn2 : n ≤ sizeLine) (hdf : d.params.defaults = []) (hr : Room k callerA) (hY : ∀ (w : World) (h : Heap), YP w h → (K w.params).In h)
    (F : ∀ (w : World) (mg : Str → Option Value) (fa : Addr) (h : Heap), (K w.params).In h → h.Ns mainGlobals mg → mg d.name = some (.ref fa) → Empty q mg h → LawAtS l w (K w.params) (CX w) k n x mg fa h)
    (hCX : ∀ (w : World) (H : Hp) (s : Shared) (e : Value) (s' : Shared), CX w [] H s (fun _ _ _ => False) e s' → False) :
    PySem.W.WalkO q loose XP YP l.row.toRowW d [] (fun f vs => PySem.call f vs) := by
  refine Att.attach_callB hn hdf fun w s₀ s₁ mg mb fa o pm cd doc a vs ns G Y ho hd hcd hmg hobj hints hlen hbits hg => ?_
  have KX := hY w _ Y
  obtain ⟨fd, cs, sp, hT, nT, C, hb, hsp, hF⟩ := F w mg fa _ KX G.T.g hmg G.T.tab
  exact law_callTs KX G.T.g G.T.b G.T.builtins G.T.nolimit hg hT nT C G.T.bmain hobj hints (Nat.le_trans hlen hn2) hr hF hb (fun H hH hS => hsp H a ns hlen hbits hH hS) fun H e s' => hCX w H s₁ e s'
theorem empty_at {q : Program} {mg : Str → Option Value} {h : Heap} {K : PySem.W.Frag} {x : Str} {f c P : Addr} {oc : Value} {od : Option Addr} {fd : FuncData} {osl : Array (Option Value)} (KX : K.In h) (E : Empty q mg h) (hx : ((recsOf q).any fun e => e.name == x) = true) (gx : mg x = some (.ref f))
    (lk : K.lookup f = some ⟨oc, od, .func fd, osl⟩) (hc : fd.code = .ref c) (hh : PySem.W.codeHdIn K c P = true) : h.get? P = some { cls := .none, data := .fields #[] } := by
  obtain ⟨d, hm, hn⟩ := List.any_eq_true.mp hx
  have hn2 : d.name = x := beq_iff_eq.mp hn
  obtain ⟨a, o, fd2, c2, P2, h1, h2, h3, h4, _, h6⟩ := E d hm
  rw [hn2, gx] at h1
  cases h1
  have g1 := KX _ _ lk
  rw [g1] at h2
  cases h2
  cases h3
  rw [hc] at h4
  cases h4
  obtain ⟨⟨o2, vs, e1, _, e3, e4⟩, hP⟩ := h6
  obtain ⟨o3, us, file, tf, flags, tg, inF, text, tt, f1, r1, r2, r3, _⟩ := PySem.W.codeHd_of_K KX hh
  rw [f1] at e1
  cases e1
  rw [r2] at e3
  cases e3
  rw [r3] at e4
  cases e4
  exact hP
end Lk
end
section
set_option maxRecDepth 100000
set_option maxHeartbeats 2000000
/-! The end of a law whose program makes lambdas, and whose own code shows things. -/
namespace Lk
open PySem PySem.Spec PyProof.Rows L2 LamX
abbrev eTb : Obj := { cls := .none, data := .fields #[] }
abbrev BMod (mg : Str → Option Value) (g : Heap) : Prop := ∃ (bm : Addr) (ob : Obj), mg "__builtins__" = some (.ref bm) ∧ bm ≠ builtinsNs ∧ g.get? bm = some ob ∧ ob.cls = .type "module" ∧ ob.dict = some builtinsNs ∧ ob.data = .plain
/-- what is tracked at first: the tables, the script or not -/
structure Trk (K : PySem.W.Frag) (cs : List (Addr × Addr)) (a : Addr) (H : Hp) : Prop where
  tb : ∀ p ∈ cs, H p.2 = some (.tbl #[])
  what : ∀ b u, H b = some u → (b ∈ cs.map (·.2) ∧ u = .tbl #[]) ∨ (b = a ∧ K.lookup a = none ∧ ∃ o xs, u = .frz o (.lst xs))
theorem lawGT {P : Program} {w : World} {K : PySem.W.Frag} {mg mb : Str → Option Value} {k : Nat} {fa a : Addr} {fd : FuncData} {x : Str} {sp : Sp} {s1 : Shared} {vs : List Value} {ns : List Int} {cs : List (Addr × Addr)}
    (inK : K.In s1.heap) (gl : s1.heap.Ns mainGlobals mg) (bl : s1.heap.Ns builtinsNs mb) (bb : ∀ x : Str, x ≠ "__name__" → mb x = bootBuiltins x) (free : s1.heap.NoLimit) (g0 : s1.gens = #[])
    (tE : ∀ p ∈ cs, s1.heap.get? p.2 = some eTb) (tK : ∀ p ∈ cs, K.lookup p.2 = none) (tC : ∀ p ∈ cs, PySem.W.CodeHd s1.heap p.1 p.2) (bM : BMod mg s1.heap)
    (ha : s1.heap.get? a = some { cls := .type "list", data := .seq vs.toArray }) (hi : IntsAre vs ns) (hl : ns.length ≤ sizeLine) (hr : Room k callerA)
    (F : ∀ base : Heap, K.In base → base.Ns mainGlobals mg → (∀ p ∈ cs, TabB base mg p.1 p.2) → FnG P w K mg base CX0 k fa fd [x] sp) (bind : ∀ (s : Shared) (u : Value), BindsTo s fd ⟨[u], []⟩ [(x, u)])
    (hsp : ∀ H : Hp, (∀ p ∈ cs, H p.2 = some (.tbl #[])) → SqL K H a (ns.map V.int) → sp [.ref a] H (fun v _ => v = .bl true) fun _ _ _ => False) :
    codeAny (model P w) callerA (.call (.ref fa) ⟨[.ref a], []⟩) (fun r s2 => r = .ok (.ret (.bool true)) ∧ OldK s1.heap s2.heap ∧ s2.os = s1.os ∧ AllBare s2.gens) s1 := by
  have rv := vals_ints hi
  have tabE : ∀ b ∈ cs.map (·.2), s1.heap.get? b = some eTb := fun b hb => by
    obtain ⟨p, m, rfl⟩ := List.mem_map.mp hb
    exact tE p m
  have anT : a ∉ cs.map (·.2) := fun z => by
    have y := (tabE a z).symm.trans ha
    cases y
  have main : ∀ H : Hp, Trk K cs a H → SqL K H a (ns.map V.int) → HOk P w H s1.heap →
      codeAny (model P w) callerA (.call (.ref fa) ⟨[.ref a], []⟩) (fun r s2 => r = .ok (.ret (.bool true)) ∧ OldK s1.heap s2.heap ∧ s2.os = s1.os ∧ AllBare s2.gens) s1 := by
    intro H tr hS hok
    -- what is of another form is not tracked
    have off : ∀ {b : Addr} {o : Obj}, s1.heap.get? b = some o → (∀ xs m, o.data ≠ .seq xs m) → o.data ≠ .fields #[] → H b = none := fun {b o} e n1 n2 => by
      rcases q : H b with _ | u
      · rfl
      · rcases tr.what b u q with ⟨hb, _⟩ | ⟨rfl, _, _⟩
        · rw [tabE b hb] at e
          cases e
          exact absurd rfl n2
        · rw [ha] at e
          cases e
          exact absurd rfl (n1 _ _)
    have offD : ∀ {b : Addr} {o : Obj} {es : Array DictEntry} {ep : Nat}, s1.heap.get? b = some o → o.data = .dict es ep → H b = none := fun {b o es ep} e d =>
      off e (fun xs m z => by rw [d] at z; cases z) (fun z => by rw [d] at z; cases z)
    have hid : ∀ {b : Addr} {m : Str → Option Value}, s1.heap.Ns b m → (hidT s1.heap H).Ns b m := fun ⟨o, es, ep, e, d, r⟩ => ⟨o, es, ep, hidT_get e (offD e d), d, r⟩
    have inB : K.In (hidT s1.heap H) := fun b o e => hidT_get (inK b o e) (by
      rcases q : H b with _ | u
      · rfl
      · rcases tr.what b u q with ⟨hb, _⟩ | ⟨rfl, no, _⟩
        · obtain ⟨p, m, rfl⟩ := List.mem_map.mp hb
          rw [tK p m] at e
          cases e
        · rw [no] at e
          cases e)
    have md : Mod K mg (hidT s1.heap H) := ⟨inB, hid gl, ⟨mb, hid bl, bb⟩, free.imp fun mc z => ⟨hid z.1, z.2⟩⟩
    have tabs : ∀ p ∈ cs, TabB (hidT s1.heap H) mg p.1 p.2 := fun p m => by
      refine ⟨?_, ?_, fun z => ?_⟩
      · obtain ⟨o, us, file, tf, flags, tg, inF, text, tt, e1, r1, r2, r3, r⟩ := tC p m
        refine ⟨o, us, file, tf, flags, tg, inF, text, tt, hidT_get e1 (off e1 (fun xs n z => ?_) fun z => ?_), r1, r2, r3, r⟩
        · rw [r2] at z; cases z
        · rw [r2] at z
          cases z
          simp at r3
      · obtain ⟨bm, ob, b1, b2, b3, b4, b5, b6⟩ := bM
        refine ⟨bm, ob, b1, b2, fun z => ?_, fun z => ?_, hidT_get b3 (off b3 (fun xs n z => ?_) fun z => ?_), b4, b5, b6⟩
        · obtain ⟨o, es, ep, e, d, _⟩ := gl
          rw [z, e] at b3
          cases b3
          rw [d] at b6
          cases b6
        · rw [z, tE p m] at b3
          cases b3
          cases b6
        · rw [b6] at z; cases z
        · rw [b6] at z; cases z
      · obtain ⟨o, es, ep, e, d, _⟩ := gl
        rw [z, tE p m] at e
        cases e
        cases d
    have ev : Env0 P w K mg (hidT s1.heap H) callerA [] s1 H := ⟨rfl, md, fun _ _ e => of_hidT e, Nat.le_of_eq (hidT_size _ _), trivial, (fun _ z => nomatch z), hok, .of_eq g0⟩
    refine codeAny_mono ((F _ inB (hid gl) tabs).go (us := [.ref a]) (vs := [.ref a]) rfl hr ev (bind s1 (.ref a)) (.cons rfl .nil) (hsp H tr.tb hS)) fun r s2 z => ?_
    match r, z with
    | .ok (.ret u), ⟨v, H2, os, bare, un, hok2, rel, q⟩ =>
      cases (show v = V.bl true from q)
      cases (show u = Value.bool true from rel)
      have stay : ∀ b o, b ∉ cs.map (·.2) → s1.heap.get? b = some o → s2.heap.get? b = some o := fun b o nb e => by
        rcases q2 : H b with _ | u2
        · exact un.keep b o e q2 (fun z => nomatch z) (fun z => nomatch z)
        · rcases tr.what b u2 q2 with ⟨hb, _⟩ | ⟨_, _, ob, xs, rfl⟩
          · exact absurd hb nb
          · obtain ⟨e1, _⟩ := hok b _ q2
            obtain ⟨e2, _⟩ := hok2 b _ (un.frzs b ob _ q2)
            rw [e] at e1
            cases e1
            exact e2
      have more : ∀ p ∈ cs, ∃ ms : Array Value, s2.heap.get? p.2 = some { cls := .none, data := .fields ms } := fun p m => by
        obtain ⟨ms, z⟩ := un.tbls p.2 #[] (tr.tb p m)
        exact ⟨_, hok2 p.2 _ z⟩
      refine ⟨rfl, ⟨fun b o e => ?_, fun b o e => (?_ : ∃ _, _)⟩, os, bare⟩
      · by_cases isTb : b ∈ cs.map (·.2)
        · obtain ⟨p, m, rfl⟩ := List.mem_map.mp isTb
          obtain ⟨ms, z⟩ := more p m
          rw [tE p m] at e
          cases e
          exact .inr (.inl ⟨((tC p m).tab (tE p m)).isCodeTable, rfl, #[], ms, rfl, by rw [Array.empty_append]; exact z⟩)
        · exact .inl (stay b o isTb e)
      · by_cases isTb : b ∈ cs.map (·.2)
        · obtain ⟨p, m, rfl⟩ := List.mem_map.mp isTb
          obtain ⟨ms, z⟩ := more p m
          exact ⟨_, z⟩
        · exact ⟨o, stay b o isTb e⟩
    | .ok .next, z => exact z.elim
    | .ok .brk, z => exact z.elim
    | .ok .cont, z => exact z.elim
    | .error _, z => exact z.elim
  have mT : ∀ p ∈ cs, p.2 ∈ cs.map (·.2) := fun p m => List.mem_map.mpr ⟨p, m, rfl⟩
  rcases hk : K.lookup a with _ | o
  · refine main (fun b => if b = a then some (.frz { cls := .type "list", data := .seq vs.toArray } (.lst (ns.map V.int))) else if b ∈ cs.map (·.2) then some (.tbl #[]) else none) ⟨fun p m => ?_, fun b u z => ?_⟩ (.inl (.inr ⟨_, if_pos rfl⟩)) (fun b u z => ?_)
    · show (if p.2 = a then _ else _) = _
      rw [if_neg (fun z => anT (by rw [← z]; exact mT p m)), if_pos (mT p m)]
    · by_cases e : b = a
      · rw [if_pos e] at z
        cases z
        exact .inr ⟨e, hk, _, _, rfl⟩
      · rw [if_neg e] at z
        by_cases e2 : b ∈ cs.map (·.2)
        · rw [if_pos e2] at z
          cases z
          exact .inl ⟨e2, rfl⟩
        · rw [if_neg e2] at z
          cases z
    · dsimp only at z
      by_cases e : b = a
      · rw [if_pos e] at z
        cases z
        rw [e]
        refine ⟨ha, ?_, vs, _, rv, ha⟩
        rw [List.length_map]
        exact hl
      · rw [if_neg e] at z
        by_cases e2 : b ∈ cs.map (·.2)
        · rw [if_pos e2] at z
          cases z
          exact tabE b e2
        · rw [if_neg e2] at z
          cases z
  · have e := inK a o hk
    rw [ha] at e
    cases e
    refine main (fun b => if b ∈ cs.map (·.2) then some (.tbl #[]) else none) ⟨fun p m => if_pos (mT p m), fun b u z => ?_⟩ (.inr ⟨_, vs.toArray, _, hk, rfl, rfl, rfl, ?_, by simpa using rv⟩) (fun b u z => ?_)
    · by_cases e2 : b ∈ cs.map (·.2)
      · rw [if_pos e2] at z
        cases z
        exact .inl ⟨e2, rfl⟩
      · rw [if_neg e2] at z
        cases z
    · rw [List.size_toArray]
      rw [hi.length]
      exact hl
    · dsimp only at z
      by_cases e2 : b ∈ cs.map (·.2)
      · rw [if_pos e2] at z
        cases z
        exact tabE b e2
      · rw [if_neg e2] at z
        cases z
/-- the law's promise where nothing is guarded, with tables -/
def LawAtG (l : PySem.W.OpenLaw) (w : World) (K : PySem.W.Frag) (k n : Nat) (x : Str) (mg : Str → Option Value) (fa : Addr) (h : Heap) : Prop :=
  ∃ (fd : FuncData) (cs : List (Addr × Addr)) (sp : Sp), (∀ p ∈ cs, h.get? p.2 = some eTb) ∧ (∀ p ∈ cs, K.lookup p.2 = none) ∧ (∀ p ∈ cs, PySem.W.CodeHd h p.1 p.2) ∧ (∀ (s : Shared) (u : Value), BindsTo s fd ⟨[u], []⟩ [(x, u)]) ∧
    (∀ (H : Hp) (a : Addr) (ns : List Int), ns.length ≤ n → (∀ p ∈ cs, H p.2 = some (.tbl #[])) → SqL K H a (ns.map V.int) → sp [.ref a] H (fun v _ => v = .bl true) fun _ _ _ => False) ∧
    ∀ base : Heap, K.In base → base.Ns mainGlobals mg → (∀ p ∈ cs, TabB base mg p.1 p.2) → FnG l.prog w K mg base CX0 k fa fd [x] sp
theorem walkGT {l : PySem.W.OpenLaw} {n k : Nat} {q : Program} {loose : List Str} {XP : (Str → Option Value) → Heap → Prop} {YP : World → Heap → Prop} {d : DefRec} {K : Params → PySem.W.Frag} {x : Str}
    (hn : l.most = some n) (hn2 : n ≤ sizeLine) (hdf : d.params.defaults = []) (hr : Room k callerA) (hY : ∀ (w : World) (h : Heap), YP w h → (K w.params).In h)
    (F : ∀ (w : World) (mg : Str → Option Value) (fa : Addr) (h : Heap), YP w h → (K w.params).In h → h.Ns mainGlobals mg → mg d.name = some (.ref fa) → LawAtG l w (K w.params) k n x mg fa h) :
    PySem.W.WalkO q loose XP YP l.row.toRowW d [] (fun f vs => PySem.call f vs) := by
  refine Att.attach_call hn hdf fun w s0 s1 mg mb fa o pm cd doc a vs ns G Y ho hd hcd hmg hobj hints hlen hg => ?_
  have KX := hY w _ Y
  obtain ⟨fd, cs, sp, t1, t2, t3, bd, ask, go⟩ := F w mg fa _ Y KX G.T.g hmg
  exact lawGT KX G.T.g G.T.b G.T.builtins G.T.nolimit hg t1 t2 t3 G.T.bmain hobj hints (Nat.le_trans hlen hn2) hr go bd (fun H hH hS => ask H a ns hlen hH hS)
end Lk
end
section
namespace Lk
open PySem PySem.Spec PyProof.Rows L2
def top (i : Nat) : Stmt := PySem.Challenge.pw_looplearn_k36_far_words_refused.main.body.getD i (.Pass ⟨0, 0, 0, 0⟩)
abbrev s_is_whole : Stmt := top 19
abbrev s_is_within : Stmt := top 20
abbrev s_refuse_no_count : Stmt := top 21
abbrev s_is_coder : Stmt := top 25
abbrev s_refuse_no_coder : Stmt := top 26
abbrev s_one_longer : Stmt := top 27
abbrev s_next_coder : Stmt := top 28
abbrev s_rounds_later : Stmt := top 29
abbrev s_words_till_round : Stmt := top 30
abbrev s_behind : Stmt := top 31
abbrev s_refuse_no_place : Stmt := top 34
abbrev s_word_at : Stmt := top 35
abbrev s_letters_known : Stmt := top 36
abbrev s_letters_by : Stmt := top 37
abbrev s_most_rounds : Stmt := top 38
abbrev s_steps_till : Stmt := top 39
abbrev s_number_at : Stmt := top 40
abbrev s_steps_till_known : Stmt := top 41
abbrev s_learnt_by : Stmt := top 42
abbrev s_longest_by : Stmt := top 43
abbrev s_pair_at : Stmt := top 44
abbrev s_law_pot : Stmt := top 46
abbrev s_law_draw : Stmt := top 47
abbrev s_law_coder : Stmt := top 48
abbrev s_law_class : Stmt := top 49
abbrev s_law_no_coder : Stmt := top 50
abbrev s_law_none_of : Stmt := top 51
abbrev s_law_said : Stmt := top 52
abbrev s_law_right : Stmt := top 53
abbrev s_law : Stmt := top 54
end Lk
end
section
set_option maxRecDepth 100000
set_option maxHeartbeats 2000000
namespace Lk
open PySem PySem.Spec PyProof.Rows L2
section
variable {P : Program} {w : World} {K : PySem.W.Frag} {mg : Str → Option Value} {base : Heap}
theorem sc_whole : FnScope ["thing"] ["thing"] (defScope s_is_whole) := ⟨rfl, rfl, rfl, by decide +kernel, rfl, by decide +kernel, by decide +kernel⟩
theorem ok_whole {f : Addr} {fd : FuncData} (F : Fun K "is_whole" "is_whole" s_is_whole f fd) (mi : mg "isinstance" = none) (mn : mg "int" = none) (mb : mg "bool" = none) : FnOk P w K mg base CX0 1 f fd ["thing"] spWhole := by
  refine F.ok sc_whole (fun vs H Q E h => ?_) (fun cdv A outer s H vs Q E hr h => ?_)
  · obtain ⟨v, d, rfl, _⟩ := h
    rfl
  · obtain ⟨v, d, rfl, hv, q⟩ := h
    refine ⟨_, pss_one (ps_ret (pe_and (pe_callB call_isi (by rfl) mi (by decide +kernel) (pa_cons (pv 0) (pa_cons (pe_bltn (v := .ty "int") (by rfl) mn (by decide +kernel) rfl) pa_nil)))
      (pe_one (pe_not (pe_callB call_isi (by rfl) mi (by decide +kernel) (pa_cons (pv 0) (pa_cons (pe_bltn (v := .ty "bool") (by rfl) mb (by decide +kernel) rfl) pa_nil))))))), ?_⟩
    refine ⟨_, rfl, v, .ty "int", _, _, isI d, rfl, .ty _, hv.ty, kit_int d, _, rfl, ?_⟩
    cases hI : isI d with
    | false =>
      have e : isW d = false := by cases d <;> first | rfl | (cases hI)
      rw [e] at q
      exact q
    | true =>
      refine ⟨_, rfl, v, .ty "bool", _, _, isB d, rfl, .ty _, hv.ty, kit_bool d, _, rfl, ?_⟩
      have e : isW d = !isB d := by cases d <;> first | rfl | (cases hI)
      rw [e] at q
      exact q
end
end Lk
end
section
set_option maxRecDepth 100000
set_option maxHeartbeats 2000000
namespace Lk
open PySem PySem.Spec PyProof.Rows L2
section
variable {P : Program} {w : World} {K : PySem.W.Frag} {mg : Str → Option Value} {base : Heap}
theorem sc_within : FnScope ["thing", "least", "most"] ["thing", "least", "most"] (defScope s_is_within) := ⟨rfl, rfl, rfl, by decide +kernel, rfl, by decide +kernel, by decide +kernel⟩
theorem ok_within {f : Addr} {fd : FuncData} (F : Fun K "is_within" "is_within" s_is_within f fd) (cw : C8.Cal P w K mg base 1 "is_whole" spWhole []) : FnOk P w K mg base CX0 2 f fd ["thing", "least", "most"] spWithin := by
  refine F.ok sc_within (fun vs H Q E h => ?_) (fun cdv A outer s H vs Q E hr h => ?_)
  · obtain ⟨v, d, a, b, rfl, _⟩ := h
    rfl
  · obtain ⟨v, d, a, b, rfl, hv, q⟩ := h
    refine ⟨_, pss_one (by exact (ps_ret (pe_and (C8.pe_c cw hr (Nat.le_refl _) rfl (pa_cons (pv 0) pa_nil)) (pe_one (pe_chain op_le op_le (pv 1) (pv 0) (pv 2)))))), ?_⟩
    refine ⟨_, rfl, v, d, rfl, hv, _, rfl, ?_⟩
    cases hv with
    | int i =>
      refine ⟨_, rfl, _, rfl, _, _, rfl, rfl, _, rfl, ?_⟩
      have e : inR (.int i) a b = (decide (a ≤ i) && decide (i ≤ b)) := rfl
      rw [e] at q
      refine ite2 (fun g => ?_) (fun g => ?_)
      · refine ⟨_, rfl, _, _, rfl, rfl, ?_⟩
        rw [g, Bool.true_and] at q
        exact q
      · rw [Bool.eq_false_iff.mpr g, Bool.false_and] at q
        exact q
    | _ => exact q
end
end Lk
end
section
set_option maxRecDepth 100000
set_option maxHeartbeats 2000000
namespace Lk
open PySem PySem.Spec PyProof.Rows L2
section
variable {P : Program} {w : World} {K : PySem.W.Frag} {mg : Str → Option Value} {base : Heap}
theorem sc_count : FnScope ["thing", "least", "most"] ["thing", "least", "most"] (defScope s_refuse_no_count) := ⟨rfl, rfl, rfl, by decide +kernel, rfl, by decide +kernel, by decide +kernel⟩
theorem ok_count {f C : Addr} {fd : FuncData} (F : Fun K "refuse_no_count" "refuse_no_count" s_refuse_no_count f fd) (cw : C8.Cal P w K mg base 2 "is_within" spWithin []) (T : ErrC K mg "NoCount" C) : FnOk P w K mg base (L2.CX P w) 3 f fd ["thing", "least", "most"] (spCount C) := by
  refine F.okX sc_count (fun vs H Q E h => ?_) (fun cdv A outer s H vs Q E hr h => ?_)
  · obtain ⟨v, d, a, b, rfl, _⟩ := h
    rfl
  · obtain ⟨v, d, a, b, rfl, hab, hv, q0, q1⟩ := h
    refine ⟨_, pss_one (by exact (ps_if (pt_not (pt_val (C8.pe_c cw hr (Nat.le_refl _) rfl (pa_cons (pv 0) (pa_cons (pv 1) (pa_cons (pv 2) pa_nil))))))
      (pss_one (ps_raise rfl (takes_of rfl rfl rfl rfl) (SkE.pmk_own1 PySem.F.excBase_ValueError T.x T.g T.k (raises_own T.b T.t) rfl
        (pe_joined (.cons pe_str (.cons (pe_fmt (pv 1)) (.cons pe_str (.cons (pe_fmt (pv 2)) (.cons pe_str .nil))))))))) pss_nil)), ?_⟩
    refine ⟨_, rfl, _, rfl, _, rfl, v, d, a, b, rfl, hv, _, rfl, ?_⟩
    cases e : inR d a b with
    | true => exact q0 e
    | false =>
      rcases hab with ⟨rfl, rfl⟩ | ⟨rfl, rfl⟩ | ⟨rfl, rfl⟩ | ⟨rfl, rfl⟩ | ⟨rfl, rfl⟩ | ⟨rfl, rfl⟩ <;>
      · refine ⟨_, rfl, (by decide +kernel), _, rfl, .inr ⟨_, rfl, (by decide +kernel), _, rfl, (by decide +kernel), _, rfl, (by decide +kernel), _, rfl, .inr ⟨_, rfl, (by decide +kernel), _, rfl, (by decide +kernel), _, rfl, (by decide +kernel), ?_⟩⟩⟩
        exact q1 e
end
end Lk
end
section
set_option maxRecDepth 100000
set_option maxHeartbeats 2000000
namespace Lk
open PySem PySem.Spec PyProof.Rows L2
section
variable {P : Program} {w : World} {K : PySem.W.Frag} {mg : Str → Option Value} {base : Heap}
abbrev nIC : List Str := ["thing", "place", "lengths", "length"]
theorem sc_isCoder : FnScope nIC ["thing"] (defScope s_is_coder) := ⟨rfl, rfl, rfl, by decide +kernel, rfl, by decide +kernel, by decide +kernel⟩
theorem ok_isCoder {f : Addr} {fd : FuncData} (F : Fun K "is_coder" "is_coder" s_is_coder f fd) (cw : C8.Cal P w K mg base 1 "is_whole" spWhole []) (ci : C8.Cal P w K mg base 2 "is_within" spWithin [])
    (mi : mg "isinstance" = none) (mt : mg "tuple" = none) (ml : mg "len" = none) (ma : mg "all" = none) {tp : Tok} (mp : mg "MOST_PLACES" = some (.int 12 tp)) : FnOk P w K mg base CX0 3 f fd ["thing"] spIsCoder := by
  refine F.ok sc_isCoder (fun vs H Q E h => ?_) (fun cdv A outer s H vs Q E hr h => ?_)
  · obtain ⟨v, d, rfl, _⟩ := h
    rfl
  · obtain ⟨v, d, rfl, hv, q⟩ := h
    have nd := sc_isCoder.nd
    refine ⟨_, pss_cons (by exact (ps_if (PW.pt (pw_or (pt_not (pt_val (pe_callB call_isi (by rfl) mi (by decide +kernel) (pa_cons (pv 0) (pa_cons (pe_bltn (v := .ty "tuple") (by rfl) mt (by decide +kernel) rfl) pa_nil)))))
        (pw_or1 (pt_cmpR op_ne (pe_callB call_len_seq (by rfl) ml PySem.boot_len (pa_cons (pv 0) pa_nil)) pe_int (nomark _))))) (pss_one (ps_ret pe_bl)) pss_nil))
      (pss_cons (by exact (ps_asg (pv 0) (pg_tup rfl (pgs_cons (pg_name (i := 1) nd rfl (Or.inl rfl)) (pgs_cons (pg_name (i := 2) nd rfl (Or.inl rfl)) pgs_nil)))))
      (pss_cons (by exact (ps_if (PW.pt (pw_or (pt_not (pt_val (pe_callB call_isi (by rfl) mi (by decide +kernel) (pa_cons (pv 2) (pa_cons (pe_bltn (v := .ty "tuple") (by rfl) mt (by decide +kernel) rfl) pa_nil)))))
        (pw_or1 (pt_not (pt_chain op_le op_le pe_int (pe_callB call_len_seq (by rfl) ml PySem.boot_len (pa_cons (pv 2) pa_nil)) (pe_glob (v := .int 12) rfl mp ⟨_, rfl⟩)))))) (pss_one (ps_ret pe_bl)) pss_nil))
      (pss_cons (by exact (ps_if (pt_not (pt_val (C8.pe_c ci hr (by decide) rfl (pa_cons (pv 1) (pa_cons pe_int (pa_cons (pe_op op_sub (pe_callB call_len_seq (by rfl) ml PySem.boot_len (pa_cons (pv 2) pa_nil)) pe_int) pa_nil)))))) (pss_one (ps_ret pe_bl)) pss_nil))
      (pss_one (by exact (ps_ret (pe_callB (cr_all rfl) (by rfl) ma (by decide +kernel) (pa_cons (pe_lc (own := [("length", 3)]) (g := gName 3) (tt := tYes) rfl nd (pi_tup (pv 2)) (blkOk_by (N := nIC) (sc := defScope s_is_coder) (by decide +kernel))
          (fun _ _ _ _ _ => pg_name (i := 3) nd rfl (Or.inl rfl)) (fun _ _ _ _ _ => pts_nil) (fun _ _ _ _ _ => pe_and (C8.pe_c cw hr (by decide) rfl (pa_cons (pv 3) pa_nil)) (pe_one (pe_cmpR op_ge (pv 3) pe_int (nomark _))))) pa_nil)))))))), ?_⟩
    refine ⟨_, rfl, v, .ty "tuple", _, _, isT d, rfl, .ty _, hv.ty, kit_tuple d, _, rfl, ?_⟩
    cases hT : isT d with
    | false =>
      have e : isCd d = false := by cases d <;> first | rfl | (cases hT)
      rw [e] at q
      exact q H (Same.refl H)
    | true =>
      cases hv with
      | tup ea ma =>
        rename_i a xs ds
        refine ⟨_, rfl, a, xs, rfl, .inr (SqT.of ea), rfl, _, rfl, ite2 (fun g => ?_) (fun g => ?_)⟩
        · have z : xs.length ≠ 2 := fun z => by
            rw [z] at g
            cases g
          have e : isCd (.tuple ds) = false := isCd_two fun z2 => z (by rw [ma.length, z2])
          rw [e] at q
          exact q H (Same.refl H)
        · have z : xs.length = 2 := Classical.byContradiction fun z => g (by
            rw [Bool.not_eq_true', decide_eq_false_iff_not]
            intro y
            exact z (by have := V.int.inj y; omega))
          cases ma with
          | nil => cases z
          | cons hp m1 =>
            rename_i xp xs1 dp ds1
            cases m1 with
            | nil => cases z
            | cons hl m2 =>
              rename_i xl xs2 dl ds2
              cases m2 with
              | cons _ m3 => exact absurd z (by simp only [List.length_cons]; omega)
              | nil =>
                refine ⟨_, rfl, a, [xp, xl], rfl, SqT.of ea, rfl, _, _, rfl, _, _, rfl, rfl, ?_⟩
                refine ⟨_, rfl, xl, .ty "tuple", _, _, isT dl, rfl, .ty _, hl.ty, kit_tuple dl, _, rfl, ?_⟩
                cases hT2 : isT dl with
                | false =>
                  rw [isCd_no hT2] at q
                  exact q H (Same.refl H)
                | true =>
                  cases hl with
                  | tup eb mb =>
                    rename_i b ls dls
                    have hll := mb.length
                    refine ⟨_, rfl, b, ls, rfl, .inr (SqT.of eb), _, _, rfl, rfl, _, rfl, ?_⟩
                    have eC : isCd (.tuple [dp, .tuple dls]) = ((decide (1 ≤ dls.length) && decide (dls.length ≤ 12)) && (inR dp 0 ((dls.length : Int) - 1) && dls.all natD)) := rfl
                    rw [eC, ← hll] at q
                    refine ite2 (fun g1 => ?_) (fun g1 => ?_)
                    · have g1' : 1 ≤ ls.length := by have y := of_decide_eq_true g1; omega
                      refine ⟨_, _, rfl, rfl, _, rfl, ?_⟩
                      rw [decide_eq_true g1', Bool.true_and] at q
                      have e12 : decide ((ls.length : Int) ≤ 12) = decide (ls.length ≤ 12) := by
                        by_cases c : ls.length ≤ 12
                        · rw [decide_eq_true c, decide_eq_true (by omega)]
                        · rw [decide_eq_false c, decide_eq_false (by omega)]
                      rw [e12]
                      cases c12 : decide (ls.length ≤ 12) with
                      | false =>
                        rw [c12, Bool.false_and] at q
                        exact q H (Same.refl H)
                      | true =>
                        rw [c12, Bool.true_and] at q
                        have c12' := of_decide_eq_true c12
                        refine ⟨_, rfl, _, rfl, b, ls, rfl, .inr (SqT.of eb), _, _, rfl, rfl, xp, dp, 0, _, rfl, hp, _, rfl, ?_⟩
                        cases ci : inR dp 0 ((ls.length : Int) - 1) with
                        | false =>
                          rw [ci, Bool.false_and] at q
                          exact q H (Same.refl H)
                        | true =>
                          rw [ci, Bool.true_and] at q
                          refine ⟨_, rfl, b, rfl, ⟨ls, SqT.of eb⟩, fun D nD => ?_⟩
                          have ml2 : (dls.map natD).length ≤ 100000 := by rw [List.length_map, ← hll]; omega
                          refine lc_it walk_tup (fun i H3 => Same H H3 ∧ H3 D = some (.lst (((dls.map natD).take i).map V.bl))) ⟨same_new nD, upd_same⟩ (fun i H3 _ p => SqT.of (p.1 _ _ eb)) ?_ ?_
                          · rintro i x H3 H4 hi ⟨s3, e3⟩ ⟨rfl, hx⟩
                            obtain ⟨dx, hdx, tx⟩ := mb.get hx
                            have hc : (dls.map natD)[i]? = some (natD dx) := by rw [List.getElem?_map, hdx]; rfl
                            refine ⟨rfl, _, rfl, x, dx, rfl, Th.same s3 dx tx, _, rfl, ?_⟩
                            have fin : ∀ y : Bool, y = natD dx → ∃ acc, H4 D = some (HO.lst acc) ∧ acc.length < sizeLine ∧ Same H (upd H4 D (HO.lst (acc ++ [V.bl y]))) ∧ upd H4 D (HO.lst (acc ++ [V.bl y])) D = some (HO.lst (((dls.map natD).take (i + 1)).map V.bl)) := by
                              rintro y rfl
                              obtain ⟨acc, a1, a2, a3, a4⟩ := snoc_bl (H4 := H4) (D := D) e3 hc ml2
                              exact ⟨acc, a1, a2, same_push s3 nD, a3⟩
                            cases tx with
                            | int n => exact ⟨_, rfl, _, _, rfl, rfl, fin _ rfl⟩
                            | _ => exact fin _ rfl
                          · rintro H3 ⟨s3, e3⟩
                            rw [show ls.length = (dls.map natD).length by rw [List.length_map, hll], List.take_length] at e3
                            refine ⟨D, _, rfl, SqL.of e3, ?_⟩
                            rw [List.all_map]
                            exact q H3 s3
                    · have g1' : ¬ 1 ≤ ls.length := fun y => g1 (decide_eq_true (by omega))
                      refine ⟨_, rfl, ?_⟩
                      rw [decide_eq_false g1', Bool.false_and, Bool.false_and] at q
                      exact q H (Same.refl H)
                  | _ => cases hT2
      | _ => cases hT
end
end Lk
end
section
set_option maxRecDepth 100000
set_option maxHeartbeats 2000000
namespace Lk
open PySem PySem.Spec PyProof.Rows L2
section
variable {P : Program} {w : World} {K : PySem.W.Frag} {mg : Str → Option Value} {base : Heap}
theorem sc_refCoder : FnScope ["coder"] ["coder"] (defScope s_refuse_no_coder) := ⟨rfl, rfl, rfl, by decide +kernel, rfl, by decide +kernel, by decide +kernel⟩
theorem ok_refCoder {f C : Addr} {fd : FuncData} (F : Fun K "refuse_no_coder" "refuse_no_coder" s_refuse_no_coder f fd) (cl : C8.Cal P w K mg base 3 "is_coder" spIsCoder []) (T : ErrC K mg "NoCoder" C) {tp : Tok} (mp : mg "MOST_PLACES" = some (.int 12 tp)) : FnOk P w K mg base (L2.CX P w) 4 f fd ["coder"] (spRefCoder C) := by
  refine F.okX sc_refCoder (fun vs H Q E h => ?_) (fun cdv A outer s H vs Q E hr h => ?_)
  · obtain ⟨v, d, rfl, _⟩ := h
    rfl
  · obtain ⟨v, d, rfl, hv, q0, q1⟩ := h
    refine ⟨_, pss_one (by exact (ps_if (pt_not (pt_val (C8.pe_c cl hr (Nat.le_refl _) rfl (pa_cons (pv 0) pa_nil))))
      (pss_one (ps_raise rfl (takes_of rfl rfl rfl rfl) (SkE.pmk_own1 PySem.F.excBase_ValueError T.x T.g T.k (raises_own T.b T.t) rfl
        (pe_joined (.cons pe_str (.cons (pe_fmt (pe_glob (v := .int 12) rfl mp ⟨_, rfl⟩)) (.cons pe_str .nil))))))) pss_nil)), ?_⟩
    refine ⟨_, rfl, v, d, rfl, hv, fun H1 s1 => ⟨_, rfl, ?_⟩⟩
    cases e : isCd d with
    | true => exact q0 e H1 s1
    | false =>
      refine ⟨_, rfl, (by decide +kernel), .inr ⟨12, rfl, (by decide +kernel), _, rfl, (by decide +kernel), _, rfl, (by decide +kernel), ?_⟩⟩
      exact q1 e H1 s1
end
end Lk
end
section
set_option maxRecDepth 100000
set_option maxHeartbeats 2000000
namespace Lk
open PySem PySem.Spec PyProof.Rows L2
section
variable {P : Program} {w : World} {K : PySem.W.Frag} {mg : Str → Option Value} {base : Heap}
abbrev nOL : List Str := ["lengths", "place"]
theorem sc_oneLonger : FnScope nOL ["lengths", "place"] (defScope s_one_longer) := ⟨rfl, rfl, rfl, by decide +kernel, rfl, by decide +kernel, by decide +kernel⟩
theorem ok_oneLonger {f : Addr} {fd : FuncData} (F : Fun K "one_longer" "one_longer" s_one_longer f fd) : FnOk P w K mg base CX0 1 f fd ["lengths", "place"] spLonger := by
  refine F.ok sc_oneLonger (fun vs H Q E h => ?_) (fun cdv A outer s H vs Q E hr h => ?_)
  · obtain ⟨b, ls, k, rfl, _⟩ := h
    rfl
  · obtain ⟨b, ls, k, rfl, hb, hk, h12, q⟩ := h
    have nd := sc_oneLonger.nd
    refine ⟨_, pss_one (by exact (ps_ret (pe_tup (StX.pa_star (pe_slice sl_cut (pv 0) po_none (po_some (pv 1))) (pa_cons (pe_op op_add (pe_ix ix_tup (pv 0) (pv 1) (fun _ _ => rfl)) pe_int) (StX.pa_star (pe_slice sl_cut (pv 0) (po_some (pe_op op_add (pv 1) pe_int)) po_none) pa_nil)))))), ?_⟩
    refine ⟨_, rfl, _, rfl, _, rfl, b, _, rfl, SqT.of hb, fun b1 H1 s1 t1 _ => ⟨b1, _, rfl, .inl t1, ?_⟩⟩
    refine ⟨_, rfl, _, rfl, b, _, (k : Int), _, rfl, rfl, SqT.of (s1 _ _ hb), atI_nat (nat_at hk), _, _, rfl, rfl, ?_⟩
    refine ⟨_, rfl, _, rfl, _, _, rfl, rfl, _, rfl, b, _, rfl, SqT.of (s1 _ _ hb), fun b2 H2 s2 t2 _ => ⟨b2, _, rfl, .inl t2, ?_⟩⟩
    have e1 : cutV (ls.map vN) Option.none (some (k : Int)) = (ls.map vN).take k := cut_to (by rw [List.length_map]; omega)
    have e2 : cutV (ls.map vN) (some ((k : Int) + 1)) Option.none = (ls.map vN).drop (k + 1) := cut_from (n := k + 1)
    have e0 : V.int ((ls.getD k 0 : Int) + 1) = vN (ls.getD k 0 + 1) := rfl
    have eL : cutV (ls.map vN) Option.none (some (k : Int)) ++ (V.int ((ls.getD k 0 : Int) + 1) :: (cutV (ls.map vN) (some ((k : Int) + 1)) Option.none ++ [])) = (ls.set k (ls.getD k 0 + 1)).map vN := by
      rw [e1, e2, List.append_nil, ← List.map_take, ← List.map_drop, e0, ← List.map_cons, ← List.map_append, set_cut _ _ _ hk]
    refine ⟨?_, fun p np => ?_⟩
    · show (cutV (ls.map vN) Option.none (some (k : Int)) ++ (V.int ((ls.getD k 0 : Int) + 1) :: (cutV (ls.map vN) (some ((k : Int) + 1)) Option.none ++ []))).length ≤ sizeLine
      rw [eL, List.length_map, sizeLine_eq, List.length_set]
      omega
    · refine q p _ ((s1.trans s2).trans (same_new np)) ?_
      rw [upd_same]
      exact congrArg (fun z => some (HO.tup z)) eL
end
end Lk
end
section
set_option maxRecDepth 100000
set_option maxHeartbeats 2000000
namespace Lk
open PySem PySem.Spec PyProof.Rows L2
section
variable {P : Program} {w : World} {K : PySem.W.Frag} {mg : Str → Option Value} {base : Heap}
abbrev nNext : List Str := ["coder", "place", "lengths", "longer"]
theorem sc_next : FnScope nNext ["coder"] (defScope s_next_coder) := ⟨rfl, rfl, rfl, by decide +kernel, rfl, by decide +kernel, by decide +kernel⟩
theorem ok_next {f : Addr} {fd : FuncData} (F : Fun K "next_coder" "next_coder" s_next_coder f fd) (cl : C8.Cal P w K mg base 1 "one_longer" spLonger []) (ml : mg "len" = none) : FnOk P w K mg base CX0 2 f fd ["coder"] spNext := by
  refine F.ok sc_next (fun vs H Q E h => ?_) (fun cdv A outer s H vs Q E hr h => ?_)
  · obtain ⟨v, c, rfl, _⟩ := h
    rfl
  · obtain ⟨v, c, rfl, ⟨a, b, rfl, ha, hb⟩, hc, q⟩ := h
    have nd := sc_next.nd
    have hl : c.1 < c.2.length := hc.1
    have hm : c.2.length ≤ 12 := hc.2
    refine ⟨_, (pss_cons (by exact (ps_asg (pv 0) (pg_tup rfl (pgs_cons (pg_name (i := 1) nd rfl (Or.inl rfl)) (pgs_cons (pg_name (i := 2) nd rfl (Or.inl rfl)) pgs_nil)))))
      (pss_cons (by exact (ps_set (i := 3) nd rfl (Or.inl rfl) (C8.pe_c cl hr (by decide) rfl (pa_cons (pv 2) (pa_cons (pv 1) pa_nil)))))
      (pss_one (by exact (ps_ret (pe_tup (pa_cons (pe_op op_mod (pe_op op_add (pv 1) (pe_ix ix_tup (pv 3) (pv 1) (fun _ _ => rfl))) (pe_callB call_len_seq (by rfl) ml PySem.boot_len (pa_cons (pv 2) pa_nil))) (pa_cons (pv 3) pa_nil)))))))), ?_⟩
    refine ⟨_, rfl, a, _, rfl, SqT.of ha, rfl, _, _, rfl, _, _, rfl, rfl, ?_⟩
    refine ⟨_, rfl, _, rfl, b, c.2, c.1, rfl, hb, hl, hm, fun b1 H1 s1 t1 => ?_⟩
    have hl1 : c.1 < (nx c).2.length := by rw [nx_len]; exact hl
    have t1' : H1 b1 = some (.tup ((nx c).2.map vN)) := t1
    have sN : ∀ {p : Addr} {o : HO}, H1 p = none → Same H (upd H1 p o) := fun np => s1.trans (same_new np)
    have e3 : ((c.1 : Int) + (((nx c).2.getD c.1 0 : Nat) : Int)) % (c.2.length : Int) = ((nx c).1 : Int) := by
      rw [show (nx c).2.getD c.1 0 = len c c.1 + 1 from len_nx_same hl]
      show _ = (((c.1 + (len c c.1 + 1)) % c.2.length : Nat) : Int)
      rw [Int.natCast_emod]
      rfl
    refine ⟨_, rfl, _, rfl, _, rfl, b1, _, (c.1 : Int), _, rfl, rfl, SqT.of t1', atI_nat (nat_at hl1), _, _, rfl, rfl, _, rfl, b, _, rfl, .inr (SqT.of (s1 _ _ hb)), _, _, rfl, rfl, (by rw [List.length_map]; omega), _, rfl, (by show 2 ≤ sizeLine; decide), fun p np => ?_⟩
    refine q (.ref p) _ (sN np) ⟨p, b1, rfl, ?_, ?_⟩
    · rw [upd_same]
      show some (HO.tup [V.int (((c.1 : Int) + (((nx c).2.getD c.1 0 : Nat) : Int)) % ((c.2.map vN).length : Int)), V.ref b1]) = _
      rw [List.length_map, e3]
    · rw [upd_ne (ne_of_none t1' np)]
      exact t1'
end
end Lk
end
section
set_option maxRecDepth 100000
set_option maxHeartbeats 2000000
namespace Lk
open PySem PySem.Spec PyProof.Rows L2
section
variable {P : Program} {w : World} {K : PySem.W.Frag} {mg : Str → Option Value} {base : Heap}
abbrev nWT : List Str := ["places"]
theorem sc_till : FnScope nWT ["places"] (defScope s_words_till_round) := ⟨rfl, rfl, rfl, by decide +kernel, rfl, by decide +kernel, by decide +kernel⟩
theorem ok_till {f : Addr} {fd : FuncData} (F : Fun K "words_till_round" "words_till_round" s_words_till_round f fd) : FnOk P w K mg base CX0 1 f fd ["places"] spTill := by
  refine F.ok sc_till (fun vs H Q E h => ?_) (fun cdv A outer s H vs Q E hr h => ?_)
  · obtain ⟨p, rfl, _⟩ := h
    rfl
  · obtain ⟨p, rfl, p1, p12, q⟩ := h
    have nd := sc_till.nd
    refine ⟨_, (pss_one (by exact (ps_ret (pe_op op_add (pe_op op_pow (pe_op op_sub (pv 0) pe_int) pe_int) pe_int)))), ?_⟩
    have e2 : ((p : Int) - 1) ^ ((2 : Int).toNat) + 1 = (((p - 1) * (p - 1) + 1 : Nat) : Int) := by
      rw [show (2 : Int).toNat = 2 from rfl, show (p : Int) - 1 = ((p - 1 : Nat) : Int) by omega, Int.pow_succ, Int.pow_succ, Int.pow_zero, Int.one_mul, ← Int.natCast_mul]
      rfl
    refine ⟨_, rfl, _, _, rfl, rfl, _, _, rfl, rfl, ⟨by decide, by decide, by omega⟩, _, _, rfl, rfl, ?_⟩
    dsimp only
    rw [e2]
    exact q
end
end Lk
end
section
set_option maxRecDepth 100000
set_option maxHeartbeats 2000000
namespace Lk
open PySem PySem.Spec PyProof.Rows L2
section
variable {P : Program} {w : World} {K : PySem.W.Frag} {mg : Str → Option Value} {base : Heap}
abbrev nRL : List Str := ["coder", "rounds", "place", "lengths", "length"]
theorem sc_later : FnScope nRL ["coder", "rounds"] (defScope s_rounds_later) := ⟨rfl, rfl, rfl, by decide +kernel, rfl, by decide +kernel, by decide +kernel⟩
theorem ok_later {f : Addr} {fd : FuncData} (F : Fun K "rounds_later" "rounds_later" s_rounds_later f fd) (ml : mg "len" = none) (mt : mg "tuple" = none) : FnOk P w K mg base CX0 1 f fd ["coder", "rounds"] spLater := by
  refine F.ok sc_later (fun vs H Q E h => ?_) (fun cdv A outer s H vs Q E hr h => ?_)
  · obtain ⟨v, c, m, rfl, _⟩ := h
    rfl
  · obtain ⟨v, c, m, rfl, ⟨a, b, rfl, ha, hb⟩, hc, q⟩ := h
    have nd := sc_later.nd
    have h12 := hc.2
    have hp := hc.pos
    refine ⟨_, (pss_cons (by exact (ps_asg (pv 0) (pg_tup rfl (pgs_cons (pg_name (i := 2) nd rfl (Or.inl rfl)) (pgs_cons (pg_name (i := 3) nd rfl (Or.inr rfl)) pgs_nil)))))
      (pss_one (by exact (ps_ret (pe_tup (pa_cons (pv 2) (pa_cons (pe_callTy call_tuple_of (by rfl) mt (by decide +kernel) (pa_cons (pe_lc (own := [("length", 4)]) (g := (gName 4)) (tt := tYes) rfl nd (pi_tup (pv 3)) (blkOk_by (N := nRL) (sc := defScope s_rounds_later) (by decide +kernel)) (fun _ _ _ _ _ => (pg_name (i := 4) nd rfl (Or.inl rfl))) (fun _ _ _ _ _ => pts_nil) (fun _ _ _ _ _ => (pe_op op_add (pv 4) (pe_op op_mul (pv 1) (pe_callB (call_lenK (K := K) rfl) (by rfl) ml PySem.boot_len (pa_cons (pv 3) pa_nil)))))) pa_nil)) pa_nil))))))), ?_⟩
    refine ⟨_, rfl, a, _, rfl, SqT.of ha, rfl, _, _, rfl, _, _, rfl, rfl, ?_⟩
    refine ⟨_, rfl, _, rfl, b, rfl, ⟨_, SqT.of hb⟩, fun D nD => ?_⟩
    have hl2 : (c.2.map (· + m * c.2.length)).length ≤ 1000000 := by rw [List.length_map]; omega
    refine lc_it walk_tup (fun i H3 => Same H H3 ∧ H3 D = some (.lst (((c.2.map (· + m * c.2.length)).take i).map vN))) ⟨same_new nD, upd_same⟩ (fun i H3 _ p => SqT.of (p.1 _ _ hb)) ?_ ?_
    · rintro i x H3 H4 hi ⟨s3, e3⟩ ⟨rfl, hx⟩
      rw [List.getElem?_map] at hx
      obtain ⟨k, hk2, rfl⟩ : ∃ k, c.2[i]? = some k ∧ x = vN k := by
        cases e : c.2[i]? with
        | none => rw [e] at hx; cases hx
        | some k => rw [e] at hx; exact ⟨k, rfl, (Option.some.inj hx).symm⟩
      have hx2 : (c.2.map (· + m * c.2.length))[i]? = some (k + m * c.2.length) := by
        rw [List.getElem?_map, hk2]
        rfl
      obtain ⟨acc, a1, a2, a3⟩ := snoc_map (f := vN) e3 hx2 hl2
      refine ⟨rfl, _, rfl, _, rfl, _, rfl, b, _, rfl, .inr (SqT.of (s3 _ _ hb)), _, _, rfl, rfl, .inr ⟨by rw [List.length_map]; omega, by rw [List.length_map]; omega⟩, (k : Int), ((m * c.2.length : Nat) : Int), rfl, ?_, acc, a1, a2, same_push s3 nD, ?_⟩
      · rw [List.length_map, Int.natCast_mul]
      · rw [show vN (k + m * c.2.length) = V.int ((k : Int) + ((m * c.2.length : Nat) : Int)) from congrArg V.int (Int.natCast_add _ _)] at a3
        exact a3
    · rintro H3 ⟨s3, e3⟩
      rw [show (c.2.map vN).length = (c.2.map (· + m * c.2.length)).length by rw [List.length_map, List.length_map], List.take_length] at e3
      refine ⟨D, _, rfl, .inl ⟨SqL.of e3, fun l nl => ⟨(by show 2 ≤ sizeLine; decide), fun p np => ?_⟩⟩⟩
      refine q (.ref p) _ ((s3.trans (same_new nl)).trans (same_new np)) ⟨p, l, rfl, upd_same, ?_⟩
      rw [upd_ne (ne_of_none upd_same np), upd_same]
end
end Lk
end
section
set_option maxRecDepth 100000
set_option maxHeartbeats 2000000
namespace Lk
open PySem PySem.Spec PyProof.Rows L2
section
variable {P : Program} {w : World} {K : PySem.W.Frag} {mg : Str → Option Value} {base : Heap}
abbrev nBe : List Str := ["coder", "many", "places", "rounds", "_"]
theorem sc_behind : FnScope nBe ["coder", "many"] (defScope s_behind) := ⟨rfl, rfl, rfl, by decide +kernel, rfl, by decide +kernel, by decide +kernel⟩
theorem ok_behind {f C1 C2 : Addr} {fd : FuncData} (F : Fun K "behind" "behind" s_behind f fd) (cr : CalX P w K mg base 4 "refuse_no_coder" (spRefCoder C1)) (cc : CalX P w K mg base 3 "refuse_no_count" (spCount C2)) (cn : C8.Cal P w K mg base 2 "next_coder" spNext []) (ct : C8.Cal P w K mg base 1 "words_till_round" spTill []) (cl : C8.Cal P w K mg base 1 "rounds_later" spLater [])
    (mr : mg "range" = none) (ml : mg "len" = none) (mx : mg "max" = none) {tp : Tok} (mp : mg "MOST_STEPS" = some (.int 1000000000000000000 tp)) : FnOk P w K mg base (L2.CX P w) 5 f fd ["coder", "many"] (spOf C1 C2 1000000000000000000 toldCoder) := by
  refine F.okX sc_behind (fun vs H Q E h => ?_) (fun cdv A outer s H vs Q E hr h => ?_)
  · obtain ⟨v, u, d, e, rfl, _⟩ := h
    rfl
  · obtain ⟨v, u, d, e, rfl, hv, hu, q1, q2, q⟩ := h
    have nd := sc_behind.nd
    refine ⟨_, (pss_cons (by exact (ps_expr (pe_cX cr (takes_of rfl rfl rfl rfl) hr (by decide) rfl (pa_cons (pv 0) pa_nil))))
      (pss_cons (by exact (ps_expr (pe_cX cc (takes_of rfl rfl rfl rfl) hr (by decide) rfl (pa_cons (pv 1) (pa_cons pe_int (pa_cons (pe_glob (v := .int 1000000000000000000) rfl mp ⟨_, rfl⟩) pa_nil))))))
      (pss_cons (by exact (ps_set (i := 2) nd rfl (Or.inl rfl) (pe_callB call_len_seq (by rfl) ml PySem.boot_len (pa_cons (pe_ix ix_tup (pv 0) pe_int (fun _ _ => rfl)) pa_nil))))
      (pss_cons (by exact (ps_set (i := 3) nd rfl (Or.inl rfl) (pe_op op_fdivN (pe_callB (call_max2 rfl) (by rfl) mx (by decide +kernel) (pa_cons pe_int (pa_cons (pe_op op_sub (pv 1) (C8.pe_c ct hr (by decide) rfl (pa_cons (pv 2) pa_nil))) pa_nil))) (pe_op op_mul (pv 2) (pv 2)))))
      (pss_cons (by exact (ps_for (passes_of rfl) rfl (pi_range1 (by rfl) mr (pa_cons (pe_op op_sub (pv 1) (pe_op op_mul (pe_op op_mul (pv 3) (pv 2)) (pv 2))) pa_nil)) (pg_name (i := 4) nd rfl (Or.inl rfl)) (pss_one (by exact (ps_set (i := 0) nd rfl (Or.inl rfl) (C8.pe_c cn hr (by decide) rfl (pa_cons (pv 0) pa_nil)))))))
      (pss_one (by exact (ps_ret (C8.pe_c cl hr (by decide) rfl (pa_cons (pv 0) (pa_cons (pv 3) pa_nil))))))))))), ?_⟩
    refine ⟨_, rfl, v, d, rfl, hv, fun hd H1 s1 => ?_, fun hd H1 s1 => q1 hd H1 s1⟩
    refine ⟨_, rfl, u, e, 0, 1000000000000000000, rfl, .inr (.inl ⟨rfl, by decide⟩), Th.same s1 e hu, fun he => ?_, fun he => q2 hd he H1 s1⟩
    obtain ⟨c, rfl, hc⟩ := isCd_of hd
    obtain ⟨n, rfl, hn⟩ := count_of (m := 1000000000000000000) he
    have qq := q c n rfl hc rfl hn
    clear q q1 q2
    have c1 : Cat H1 v c := (Th.same s1 _ hv).cat
    have eu : u = .int (n : Int) := by cases hu; rfl
    subst eu
    obtain ⟨a, b, rfl, ha, hb⟩ := id c1
    have hp := hc.pos
    have h12 := hc.2
    refine ⟨_, rfl, a, _, 1, _, rfl, rfl, SqT.of ha, rfl, b, _, rfl, .inr (SqT.of hb), ?_⟩
    rw [List.length_map]
    have hpp : (c.2.length - 1) * (c.2.length - 1) ≤ 11 * 11 := Nat.mul_le_mul (by omega) (by omega)
    have hqq : c.2.length * c.2.length ≤ 12 * 12 := Nat.mul_le_mul h12 h12
    have hqp : 0 < c.2.length * c.2.length := Nat.mul_pos hp hp
    have eN : (if (n : Int) - (((c.2.length - 1) * (c.2.length - 1) + 1 : Nat) : Int) > 0 then (n : Int) - (((c.2.length - 1) * (c.2.length - 1) + 1 : Nat) : Int) else 0) = ((n - ((c.2.length - 1) * (c.2.length - 1) + 1) : Nat) : Int) := by
      split <;> omega
    have eR : Int.fdiv ((n - ((c.2.length - 1) * (c.2.length - 1) + 1) : Nat) : Int) ((c.2.length * c.2.length : Nat) : Int) = (rnds c.2.length n : Int) := by
      rw [Int.fdiv_eq_ediv_of_nonneg _ (by omega), ← Int.natCast_ediv]
      rfl
    refine ⟨_, rfl, _, rfl, c.2.length, rfl, by omega, h12, _, _, rfl, rfl, _, _, rfl, _, rfl, _, rfl, _, _, rfl, rfl, .inl ⟨by omega, by omega⟩,
      ((n - ((c.2.length - 1) * (c.2.length - 1) + 1) : Nat) : Int), ((c.2.length * c.2.length : Nat) : Int), congrArg V.int eN, congrArg V.int (Int.natCast_mul _ _).symm, ⟨by omega, by omega⟩, ?_⟩
    have hle := rnds_le c.2.length n
    have hleft := rnds_left c.2.length n hp
    have h1p : rnds c.2.length n * c.2.length ≤ rnds c.2.length n * (c.2.length * c.2.length) := Nat.mul_le_mul (Nat.le_refl _) (Nat.le_mul_of_pos_left _ hp)
    have h0p : rnds c.2.length n ≤ rnds c.2.length n * c.2.length := Nat.le_mul_of_pos_right _ hp
    have eM : (rnds c.2.length n : Int) * (c.2.length : Int) = ((rnds c.2.length n * c.2.length : Nat) : Int) := (Int.natCast_mul _ _).symm
    have eL : (n : Int) - ((rnds c.2.length n * c.2.length : Nat) : Int) * (c.2.length : Int) = ((n - rnds c.2.length n * (c.2.length * c.2.length) : Nat) : Int) := by
      rw [← Int.natCast_mul, Nat.mul_assoc]
      omega
    refine ⟨_, rfl, _, rfl, _, rfl, (rnds c.2.length n : Int), _, congrArg V.int eR, rfl, .inr ⟨by omega, by omega⟩, _, rfl, ((rnds c.2.length n * c.2.length : Nat) : Int), _, congrArg V.int eM, rfl, .inr ⟨by omega, by omega⟩, _, _, rfl, rfl,
      ((n - rnds c.2.length n * (c.2.length * c.2.length) : Nat) : Int), congrArg (fun z => [V.int z]) eL, by omega, by omega, ?_⟩
    rw [Int.toNat_natCast]
    refine for_range (lo := 0) (n := n - rnds c.2.length n * (c.2.length * c.2.length)) (fun i σ H2 => ∃ v' r3 y4, σ = [some v', some (.int (n : Int)), some (.int (c.2.length : Int)), some r3, y4] ∧ r3 = .int (rnds c.2.length n : Int) ∧ Same H1 H2 ∧ Cat H2 v' (it i c))
      ⟨.ref a, _, none, rfl, congrArg V.int eR, Same.refl _, c1⟩ ?_ ?_
    · rintro i σ H2 hi ⟨v', r3, y4, rfl, h3, s2, cat⟩
      refine ⟨_, rfl, v', it i c, rfl, cat, it_cdOk i hc, fun v2 H3 s3 cat3 => ?_⟩
      rw [← it_succ] at cat3
      exact ⟨v2, r3, _, rfl, h3, s2.trans s3, cat3⟩
    · rintro σ H2 ⟨v', r3, y4, rfl, rfl, s2, cat2⟩
      have far1 := far hc.1 n
      generalize hk : n - rnds c.2.length n * (c.2.length * c.2.length) = r at *
      have hlen : (it r c).2.length = c.2.length := it_len r
      refine ⟨_, rfl, _, rfl, v', it r c, rnds c.2.length n, rfl, cat2, it_cdOk r hc, fun v3 H3 s3 cat3 => ?_⟩
      refine qq v3 _ ((s1.trans s2).trans s3) ?_
      rw [far1]
      rw [hlen] at cat3
      exact cat3
end
end Lk
end
section
set_option maxRecDepth 100000
set_option maxHeartbeats 2000000
namespace Lk
open PySem PySem.Spec PyProof.Rows L2
section
variable {P : Program} {w : World} {K : PySem.W.Frag} {mg : Str → Option Value} {base : Heap}
abbrev nWa : List Str := ["coder", "number", "place", "lengths"]
theorem sc_wordAt : FnScope nWa ["coder", "number"] (defScope s_word_at) := ⟨rfl, rfl, rfl, by decide +kernel, rfl, by decide +kernel, by decide +kernel⟩
theorem ok_wordAt {f C1 C2 : Addr} {fd : FuncData} (F : Fun K "word_at" "word_at" s_word_at f fd) (cr : CalX P w K mg base 4 "refuse_no_coder" (spRefCoder C1)) (cc : CalX P w K mg base 3 "refuse_no_count" (spCount C2)) (cb : CalX P w K mg base 5 "behind" (spOf C1 C2 1000000000000000000 toldCoder)) {tp : Tok} (mp : mg "MOST_STEPS" = some (.int 1000000000000000000 tp)) : FnOk P w K mg base (L2.CX P w) 6 f fd ["coder", "number"] (spOf1 C1 C2 1000000000000000000 toldWd) := by
  refine F.okX sc_wordAt (fun vs H Q E h => ?_) (fun cdv A outer s H vs Q E hr h => ?_)
  · obtain ⟨v, u, d, e, rfl, _⟩ := h
    rfl
  · obtain ⟨v, u, d, e, rfl, hv, hu, q1, q2, q⟩ := h
    have nd := sc_wordAt.nd
    refine ⟨_, (pss_cons (by exact (ps_expr (pe_cX cr (takes_of rfl rfl rfl rfl) hr (by decide) rfl (pa_cons (pv 0) pa_nil))))
      (pss_cons (by exact (ps_expr (pe_cX cc (takes_of rfl rfl rfl rfl) hr (by decide) rfl (pa_cons (pv 1) (pa_cons pe_int (pa_cons (pe_glob (v := .int 1000000000000000000) rfl mp ⟨_, rfl⟩) pa_nil))))))
      (pss_cons (by exact (ps_asg (pe_cX cb (takes_of rfl rfl rfl rfl) hr (by decide) rfl (pa_cons (pv 0) (pa_cons (pe_op op_sub (pv 1) pe_int) pa_nil))) (pg_tup rfl (pgs_cons (pg_name (i := 2) nd rfl (Or.inl rfl)) (pgs_cons (pg_name (i := 3) nd rfl (Or.inl rfl)) pgs_nil)))))
      (pss_one (by exact (ps_ret (pe_tupS (pa_cons (pv 2) (pa_cons (pe_op op_add (pe_ix ix_tup (pv 3) (pv 2) (fun _ _ => rfl)) pe_int) pa_nil))))))))), ?_⟩
    refine ⟨_, rfl, v, d, rfl, hv, fun hd H1 s1 => ?_, fun hd H1 s1 => q1 hd H1 s1⟩
    refine ⟨_, rfl, u, e, 1, 1000000000000000000, rfl, .inr (.inr (.inr (.inr (.inl ⟨rfl, by decide⟩)))), Th.same s1 e hu, fun he => ?_, fun he => q2 hd he H1 s1⟩
    obtain ⟨c, rfl, hc⟩ := isCd_of hd
    obtain ⟨n, rfl, n1, hn⟩ := count_of1 (m := 1000000000000000000) he
    have qq := q c n rfl hc rfl n1 hn
    clear q q1 q2
    have c1 : Cat H1 v c := (Th.same s1 _ hv).cat
    have eu : u = .int (n : Int) := by cases hu; rfl
    subst eu
    refine ⟨_, rfl, _, rfl, _, _, rfl, rfl, ?_⟩
    dsimp only [tNil]
    rw [show (n : Int) - 1 = ((n - 1 : Nat) : Int) by omega]
    refine ofB_of c1 hc (by omega) fun v2 H2 s2 cat2 => ?_
    have ok2 := it_cdOk (n - 1) hc
    obtain ⟨a, b, rfl, ha, hb⟩ := id cat2
    refine ⟨a, _, rfl, SqT.of ha, rfl, _, _, rfl, _, _, rfl, rfl, ?_⟩
    refine ⟨_, rfl, _, rfl, _, rfl, b, _, ((it (n - 1) c).1 : Int), _, rfl, rfl, SqT.of hb, atI_nat (nat_at ok2.1), _, _, rfl, rfl, (by show 2 ≤ sizeLine; decide), fun p H3 n3 s3 e3 => ?_⟩
    exact qq p H3 (s1.trans (s2.trans s3)) e3
end
end Lk
end
section
set_option maxRecDepth 100000
set_option maxHeartbeats 2000000
namespace Lk
open PySem PySem.Spec PyProof.Rows L2
def spPlace (C : Addr) : Sp := fun vs H Q E => ∃ v d, ∃ p : Nat, vs = [v, .int (p : Int)] ∧ 1 ≤ p ∧ p ≤ 12 ∧ Th H v d ∧ (inR d 0 ((p : Int) - 1) = true → Q .non H) ∧ (inR d 0 ((p : Int) - 1) = false → E (.ref C) none H)
section
variable {P : Program} {w : World} {K : PySem.W.Frag} {mg : Str → Option Value} {base : Heap}
theorem sc_refPlace : FnScope ["place", "places"] ["place", "places"] (defScope s_refuse_no_place) := ⟨rfl, rfl, rfl, by decide +kernel, rfl, by decide +kernel, by decide +kernel⟩
theorem ok_refPlace {f C : Addr} {fd : FuncData} (F : Fun K "refuse_no_place" "refuse_no_place" s_refuse_no_place f fd) (cw : C8.Cal P w K mg base 2 "is_within" spWithin []) (T : ErrC K mg "NoPlace" C) : FnOk P w K mg base (L2.CX P w) 3 f fd ["place", "places"] (spPlace C) := by
  refine F.okX sc_refPlace (fun vs H Q E h => ?_) (fun cdv A outer s H vs Q E hr h => ?_)
  · obtain ⟨v, d, p, rfl, _⟩ := h
    rfl
  · obtain ⟨v, d, p, rfl, h1, h12, hv, q0, q1⟩ := h
    refine ⟨_, pss_one (by exact (ps_if (pt_not (pt_val (C8.pe_c cw hr (Nat.le_refl _) rfl (pa_cons (pv 0) (pa_cons pe_int (pa_cons (pe_op op_sub (pv 1) pe_int) pa_nil))))))
      (pss_one (ps_raise rfl (takes_of rfl rfl rfl rfl) (SkE.pmk_own1 PySem.F.excBase_ValueError T.x T.g T.k (raises_own T.b T.t) rfl
        (pe_joined (.cons pe_str (.cons (pe_fmt (pe_op op_sub (pv 1) pe_int)) .nil)))))) pss_nil)), ?_⟩
    refine ⟨_, rfl, _, rfl, _, _, rfl, rfl, v, d, 0, _, rfl, hv, _, rfl, ?_⟩
    cases e : inR d 0 ((p : Int) - 1) with
    | true => exact q0 e
    | false =>
      have e1 := q1 e
      have hp : p = 1 ∨ p = 2 ∨ p = 3 ∨ p = 4 ∨ p = 5 ∨ p = 6 ∨ p = 7 ∨ p = 8 ∨ p = 9 ∨ p = 10 ∨ p = 11 ∨ p = 12 := by omega
      clear q0 q1 e h1 h12
      rcases hp with rfl | rfl | rfl | rfl | rfl | rfl | rfl | rfl | rfl | rfl | rfl | rfl <;>
      · refine ⟨_, rfl, (by decide +kernel), _, rfl, _, _, rfl, rfl, .inr ⟨_, rfl, (by decide +kernel), _, rfl, (by decide +kernel), ?_⟩⟩
        exact e1
end
end Lk
end
section
set_option maxRecDepth 100000
set_option maxHeartbeats 2000000
namespace Lk
open PySem PySem.Spec PyProof.Rows L2 LamX NdefX
section
variable {P : Program} {w : World} {K : PySem.W.Frag} {mg : Str → Option Value} {base : Heap}
abbrev nMR : List Str := ["coder", "reached", "size", "rounds"]
theorem sc_most : FnScope nMR ["coder", "reached"] (defScope s_most_rounds) := ⟨rfl, rfl, rfl, by decide +kernel, rfl, by decide +kernel, by decide +kernel⟩
theorem ok_most {f : Addr} {fd : FuncData} (KX : K.In base) (F : Fun K "most_rounds" "most_rounds" s_most_rounds f fd) (gx : mg "most_rounds" = some (.ref f)) (bd : Binds K fd ["coder", "reached"] []) (cl : C8.Cal P w K mg base 1 "rounds_later" spLater []) : CalA P w K mg base 3 4 "most_rounds" spMost := by
  refine calA_of KX F sc_most gx bd (fun tl vs H Q h => ?_) (fun cdv A outer s H vs fr tl Q act hr h => ?_)
  · obtain ⟨v, c, B, c', q, M, rfl, _⟩ := h
    rfl
  · obtain ⟨v, c, B, c', qn, M, rfl, himp, hco, cat, hc, hB, R, hM, bM, q⟩ := h
    replace act := act.imp himp
    have nd := sc_most.nd
    refine ⟨_, (pss_cons (by exact (ps_set (i := 2) nd rfl (Or.inl rfl) pe_int))
      (pss_cons (by exact (ps_while PassesOwn.never (pt_not (pt_val (pe_actA (i := 1) act rfl hr (by decide) rfl (Or.inl rfl) (pa_cons (C8.pe_c cl hr (by decide) rfl (pa_cons (pv 0) (pa_cons (pv 2) pa_nil))) pa_nil)))) (pss_one (by exact (ps_aug (i := 2) nd rfl (Or.inl rfl) pe_int ip_mulC)))))
      (pss_cons (by exact (ps_set (i := 3) nd rfl (Or.inl rfl) pe_int))
      (pss_cons (by exact (ps_while PassesOwn.never (pt_cmpR op_gt (pv 2) pe_int (nomark _)) (pss_cons (by exact (ps_if (pt_not (pt_val (pe_actA (i := 1) act rfl hr (by decide) rfl (Or.inl rfl) (pa_cons (C8.pe_c cl hr (by decide) rfl (pa_cons (pv 0) (pa_cons (pe_op op_add (pv 3) (pv 2)) pa_nil))) pa_nil)))) (pss_one (by exact (ps_aug (i := 3) nd rfl (Or.inl rfl) (pv 2) ip_add))) pss_nil))
      (pss_one (by exact (ps_aug (i := 2) nd rfl (Or.inl rfl) pe_int ip_fdivC))))))
      (pss_one (by exact (ps_ret (pv 3)))))))), ?_⟩
    have h12 := hc.2
    have low : ∀ {r : Nat}, B (rl c r) = false → r < M := fun {r} hb => Nat.lt_of_not_le fun z => by
      rw [R.rl z bM] at hb
      cases hb
    have call : ∀ {H1 : Hp} {k : VK} (r : Nat), Same H H1 → r ≤ 3 * 10 ^ 40 → (∀ H3, Same H H3 → k (.bl (B (rl c r))) H3) →
        spLater [v, .int (r : Int)] H1 (fun x H2 => tNil [] H2 fun xs H3 => ∃ y, x :: xs = [y] ∧ tlOf c' qn (tlR B c.2.length) y H3 k) C8.E0 := fun {H1 k} r s1 hr3 hk => by
      refine ⟨v, c, r, rfl, cat.same s1, hc, fun v2 H2 s2 cat2 => ?_⟩
      refine ⟨_, rfl, s2 _ _ (s1 _ _ hco), rl c r, cat2, rl_ok hc r, rl_len c r, fun n hn => ?_, fun H3 s3 => hk H3 ((s1.trans s2).trans s3)⟩
      have z := rl_bd (D := 10 ^ 50) h12 hB (by have e : (3 : Nat) * 10 ^ 40 * 12 ≤ 10 ^ 50 := by decide
                                                omega) n hn
      have e : (10 : Nat) ^ 50 + 10 ^ 50 ≤ 10 ^ 60 := by decide
      omega
    refine ⟨fun m σ H1 => ∃ z : Nat, σ = [some v, some (.ref fr), some (.int (z : Int)), none] ∧ m = M - z ∧ (∃ j, z = 2 ^ j) ∧ z ≤ 2 * 10 ^ 40 ∧ Same H H1, ⟨_, 1, rfl, rfl, ⟨0, rfl⟩, by decide, Same.refl _⟩, ?_⟩
    rintro m σ H1 ⟨z, rfl, rfl, ⟨j, hj⟩, hz, s1⟩
    refine ⟨rfl, _, rfl, _, rfl, ?_⟩
    dsimp only
    refine call z s1 (by omega) fun H3 s3 => ?_
    refine ⟨_, rfl, ?_⟩
    cases hb : B (rl c z) with
    | false =>
      have lt := low hb
      refine iteT ?_
      refine ⟨fun σ' H' => σ' = [some v, some (.ref fr), some (.int ((z * 2 : Nat) : Int)), none] ∧ Same H H', fun σ' H' p => ?_, ?_⟩
      · obtain ⟨rfl, p2⟩ := p
        have zp : 0 < z := by rw [hj]; exact Nat.two_pow_pos j
        exact ⟨M - z * 2, by omega, z * 2, rfl, rfl, ⟨j + 1, by rw [hj, Nat.pow_succ]⟩, by omega, p2⟩
      · refine ⟨_, rfl, _, _, rfl, rfl, .inr ⟨by decide, by decide⟩, ?_, s3⟩
        show [some v, some (V.ref fr), some (V.int ((z : Int) * 2)), none] = _
        rw [Int.natCast_mul]
        rfl
    | true =>
      refine iteF ?_
      have s03 := s3
      clear s1 s3
      refine ⟨fun m σ H1 => ∃ r z : Nat, σ = [some v, some (.ref fr), some (.int (z : Int)), some (.int (r : Int))] ∧ m = z ∧ (z = 0 ∨ ∃ j, z = 2 ^ j) ∧ z ≤ 2 * 10 ^ 40 ∧ (r = 0 ∨ B (rl c r) = false) ∧ B (rl c (r + (if z = 0 then 1 else 2 * z))) = true ∧ Same H H1, ⟨_, 0, z, rfl, rfl, .inr ⟨j, hj⟩, hz, .inl rfl, ?_, s03⟩, ?_⟩
      · refine R.rl (m := z) ?_ hb
        split <;> omega
      clear hj hz hb z j
      rintro m σ H1 ⟨r, z, rfl, hm, hz, hz2, hr0, hb, s1⟩
      have hrm : r ≤ 10 ^ 40 := by
        rcases hr0 with e | e
        · omega
        · have := low e
          omega
      refine ⟨_, rfl, _, _, rfl, rfl, _, rfl, ite2 ?_ ?_⟩
      · intro hd
        have hzp : 0 < z := by
          have := of_decide_eq_true hd
          omega
        have half : ((z : Int) / 2) = ((z / 2 : Nat) : Int) := (Int.natCast_ediv _ _).symm
        have hz3 : z / 2 = 0 ∨ ∃ j, z / 2 = 2 ^ j := by
          rcases hz with e | ⟨j, e⟩
          · omega
          · cases j with
            | zero =>
              left
              rw [e]
            | succ j =>
              right
              exact ⟨j, by rw [e, Nat.pow_succ]; omega⟩
        have hz4 : z = if z / 2 = 0 then 1 else 2 * (z / 2) := by
          rcases hz with e | ⟨j, e⟩
          · omega
          · cases j with
            | zero =>
              rw [Nat.pow_zero] at e
              rw [e]
              rfl
            | succ j =>
              rw [Nat.pow_succ] at e
              have := Nat.two_pow_pos j
              rw [if_neg (by omega)]
              omega
        rw [if_neg (by omega)] at hb
        refine ⟨fun σ' H' => ∃ r' : Nat, σ' = [some v, some (.ref fr), some (.int ((z / 2 : Nat) : Int)), some (.int (r' : Int))] ∧ (r' = 0 ∨ B (rl c r') = false) ∧ B (rl c (r' + z)) = true ∧ Same H H', fun σ' H' p => ?_, ?_⟩
        · obtain ⟨r', rfl, p1, p2, p3⟩ := p
          refine ⟨z / 2, by omega, r', z / 2, rfl, rfl, hz3, by omega, p1, ?_, p3⟩
          rw [← hz4]
          exact p2
        · refine ⟨rfl, _, rfl, _, rfl, _, rfl, _, _, rfl, rfl, ?_⟩
          refine call (r + z) s1 (by omega) fun H3 s3 => ?_
          refine ⟨_, rfl, ?_⟩
          cases hb2 : B (rl c (r + z)) with
          | false =>
            refine iteT ?_
            refine ⟨_, rfl, _, rfl, _, _, rfl, rfl, _, rfl, _, _, rfl, rfl, ⟨by decide, by decide⟩, r + z, ?_, .inr hb2, ?_, s3⟩
            · show [some v, some (V.ref fr), some (V.int ((z : Int) / 2)), some (V.int ((r : Int) + (z : Int)))] = _
              rw [half]
              rfl
            · rw [show r + z + z = r + 2 * z by omega]
              exact hb
          | true =>
            refine iteF ?_
            refine ⟨_, rfl, _, _, rfl, rfl, ⟨by decide, by decide⟩, r, ?_, hr0, hb2, s3⟩
            show [some v, some (V.ref fr), some (V.int ((z : Int) / 2)), some (V.int (r : Int))] = _
            rw [half]
      · intro hd
        have hz0 : z = 0 := by
          refine Classical.byContradiction fun hne => ?_
          exact hd (decide_eq_true (show (0 : Int) < (z : Int) by omega))
        subst hz0
        rw [if_pos rfl] at hb
        exact ⟨_, rfl, q r H1 s1 hrm hr0 hb⟩
end
end Lk
end
section
set_option maxRecDepth 100000
set_option maxHeartbeats 2000000
namespace Lk
open PySem PySem.Spec PyProof.Rows L2 LamX NdefX
section
variable {P : Program} {w : World} {K : PySem.W.Frag} {mg : Str → Option Value} {base : Heap}
abbrev nST : List Str := ["coder", "reached", "places", "many", "rounds"]
theorem sc_steps : FnScope nST ["coder", "reached"] (defScope s_steps_till) := ⟨rfl, rfl, rfl, by decide +kernel, rfl, by decide +kernel, by decide +kernel⟩
theorem ok_steps {f : Addr} {fd : FuncData} (KX : K.In base) (F : Fun K "steps_till" "steps_till" s_steps_till f fd) (gx : mg "steps_till" = some (.ref f)) (bd : Binds K fd ["coder", "reached"] []) (cl : C8.Cal P w K mg base 1 "rounds_later" spLater []) (cn : C8.Cal P w K mg base 2 "next_coder" spNext []) (ct : C8.Cal P w K mg base 1 "words_till_round" spTill [])
    (cm : CalA P w K mg base 3 4 "most_rounds" spMost) (ml : mg "len" = none) : CalA P w K mg base 3 5 "steps_till" spSteps := by
  refine calA_of KX F sc_steps gx bd (fun tl vs H Q h => ?_) (fun cdv A outer s H vs fr tl Q act hr h => ?_)
  · obtain ⟨v, c, B, c', q, M, rfl, _⟩ := h
    rfl
  · obtain ⟨v, c, B, c', qn, M, rfl, himp, hco, cat, hc, hB, R, hM, bM, q⟩ := h
    replace act := act.imp himp
    have nd := sc_steps.nd
    refine ⟨_, (pss_cons (by exact (ps_set (i := 2) nd rfl (Or.inl rfl) (pe_callB call_len_seq (by rfl) ml PySem.boot_len (pa_cons (pe_ix ix_tup (pv 0) pe_int (fun _ _ => rfl)) pa_nil))))
      (pss_cons (by exact (ps_set (i := 3) nd rfl (Or.inl rfl) pe_int))
      (C8.pss_cut (by exact (ps_while PassesOwn.never (PW.pt (pw_and (pt_not (pt_val (pe_actA (i := 1) act rfl hr (by decide) rfl (Or.inl rfl) (pa_cons (pv 0) pa_nil)))) (pw_and1 (pt_cmpR op_lt (pv 3) (C8.pe_c ct hr (by decide) rfl (pa_cons (pv 2) pa_nil)) (nomark _))))) (pss_cons (by exact (ps_set (i := 0) nd rfl (Or.inl rfl) (C8.pe_c cn hr (by decide) rfl (pa_cons (pv 0) pa_nil))))
      (pss_one (by exact (ps_aug (i := 3) nd rfl (Or.inl rfl) pe_int ip_add))))))
      (pss_cons (by exact (ps_set (i := 4) nd rfl (Or.inl rfl) (pe_passA cm act rfl hr (by decide) rfl (pa_cons (pv 0) (pa_cons (pv 1) pa_nil)))))
      (pss_cons (by exact (ps_aug (i := 3) nd rfl (Or.inl rfl) (pe_op op_mul (pe_op op_mul (pv 4) (pv 2)) (pv 2)) ip_add))
      (pss_cons (by exact (ps_set (i := 0) nd rfl (Or.inl rfl) (C8.pe_c cl hr (by decide) rfl (pa_cons (pv 0) (pa_cons (pv 4) pa_nil)))))
      (pss_cons (by exact (ps_while PassesOwn.never (pt_not (pt_val (pe_actA (i := 1) act rfl hr (by decide) rfl (Or.inl rfl) (pa_cons (pv 0) pa_nil)))) (pss_cons (by exact (ps_set (i := 0) nd rfl (Or.inl rfl) (C8.pe_c cn hr (by decide) rfl (pa_cons (pv 0) pa_nil))))
      (pss_one (by exact (ps_aug (i := 3) nd rfl (Or.inl rfl) pe_int ip_add))))))
      (pss_one (by exact (ps_ret (pv 3))))))))))), ?_⟩
    have h12 := hc.2
    have hp := hc.pos
    have hpp : (c.2.length - 1) * (c.2.length - 1) ≤ 11 * 11 := Nat.mul_le_mul (by omega) (by omega)
    have hqq : c.2.length * c.2.length ≤ 12 * 12 := Nat.mul_le_mul h12 h12
    obtain ⟨a, b, rfl, ha, hb⟩ := id cat
    refine ⟨_, rfl, a, _, 1, _, rfl, rfl, SqT.of ha, rfl, b, _, rfl, .inr (SqT.of hb), ?_⟩
    rw [List.length_map]
    have e60 : (10 : Nat) ^ 49 + 10 ^ 49 ≤ 10 ^ 60 := by decide
    -- till it is reached, or so many steps
    have ask : ∀ {H1 : Hp} {k : VK} {v' : V} {d : Cd}, Same H H1 → Cat H1 v' d → CdOk d → d.2.length = c.2.length → (∀ n ∈ d.2, n < 10 ^ 60) → (∀ H3, Same H1 H3 → k (.bl (B d)) H3) →
        (∃ y, [v'] = [y] ∧ tlOf c' qn (tlR B c.2.length) y H1 k) := fun {H1 k v' d} s1 cd od dl hd hk => ⟨_, rfl, s1 _ _ hco, d, cd, od, dl, hd, hk⟩
    refine ⟨fun σ H1 => ∃ v' i, σ = [some v', some (.ref fr), some (.int (c.2.length : Int)), some (.int ((i : Nat) : Int)), none] ∧ (B (it i c) = true ∨ i = (c.2.length - 1) * (c.2.length - 1) + 1) ∧ i ≤ (c.2.length - 1) * (c.2.length - 1) + 1 ∧ (∀ m, m < i → B (it m c) = false) ∧ Same H H1 ∧ Cat H1 v' (it i c), ?_, ?_⟩
    · refine ⟨fun m σ H1 => ∃ v' i, σ = [some v', some (.ref fr), some (.int (c.2.length : Int)), some (.int ((i : Nat) : Int)), none] ∧ m = (c.2.length - 1) * (c.2.length - 1) + 1 - i ∧ i ≤ (c.2.length - 1) * (c.2.length - 1) + 1 ∧ (∀ m, m < i → B (it m c) = false) ∧ Same H H1 ∧ Cat H1 v' (it i c), ⟨_, _, 0, rfl, rfl, Nat.zero_le _, fun m h => absurd h (Nat.not_lt_zero m), Same.refl _, cat⟩, ?_⟩
      rintro m σ H1 ⟨v', i, rfl, hm, hi, hno, s1, cati⟩
      have oki := it_cdOk i hc
      have bdi : ∀ n ∈ (it i c).2, n < 10 ^ 49 + i := it_bound hc.1 hB i
      refine ⟨rfl, _, rfl, ?_⟩
      dsimp only [tNil]
      refine ask s1 cati oki (it_len i) (fun n hn => by have := bdi n hn; omega) fun H2 s2 => ?_
      refine ⟨_, rfl, ?_⟩
      cases hb2 : B (it i c) with
      | true =>
        refine iteF ?_
        exact ⟨v', i, rfl, .inl hb2, hi, hno, s1.trans s2, cati.same s2⟩
      | false =>
        refine iteT ?_
        refine ⟨_, rfl, _, rfl, c.2.length, rfl, by omega, h12, _, _, rfl, rfl, _, rfl, ite2 ?_ ?_⟩
        · intro hd
          have lt := of_decide_eq_true hd
          refine ⟨fun σ' H' => ∃ v3, σ' = [some v3, some (.ref fr), some (.int (c.2.length : Int)), some (.int ((i + 1 : Nat) : Int)), none] ∧ Same H H' ∧ Cat H' v3 (it (i + 1) c), fun σ' H' p => ?_, ?_⟩
          · obtain ⟨v3, rfl, p2, p3⟩ := p
            refine ⟨(c.2.length - 1) * (c.2.length - 1) + 1 - (i + 1), by omega, v3, i + 1, rfl, rfl, by omega, fun m hm => ?_, p2, p3⟩
            rcases Nat.lt_or_eq_of_le (Nat.le_of_lt_succ hm) with g | g
            · exact hno m g
            · rw [g]
              exact hb2
          · refine ⟨_, rfl, v', it i c, rfl, cati.same s2, oki, fun v3 H3 s3 cat3 => ?_⟩
            rw [← it_succ] at cat3
            exact ⟨_, rfl, _, _, rfl, rfl, v3, rfl, (s1.trans s2).trans s3, cat3⟩
        · intro hd
          have e : i = (c.2.length - 1) * (c.2.length - 1) + 1 := by
            refine Classical.byContradiction fun hne => hd (decide_eq_true ?_)
            omega
          exact ⟨v', i, rfl, .inr e, hi, hno, s1.trans s2, cati.same s2⟩
    rintro σ H1 ⟨v', i, rfl, hor, hi, hno, s1, cati⟩
    have oki := it_cdOk i hc
    have li : (it i c).2.length = c.2.length := it_len i
    have bdi : ∀ n ∈ (it i c).2, n < 10 ^ 49 + i := it_bound hc.1 hB i
    have Ri : Rea B (it i c).2.length := by rw [li]; exact R
    have bMi : B (rl (it i c) M) = true := by
      refine R _ _ (rl_len c M) (by rw [rl_len, li]) (fun k hk => ?_) bM
      rw [rl_at hk, rl_at (by rw [li]; exact hk), li]
      have := len_mono i k hc.1
      omega
    have e50 : (10 : Nat) ^ 49 + 122 ≤ 10 ^ 50 := by decide
    refine ⟨_, rfl, _, rfl, [v'], rfl, v', it i c, B, c', qn, M, rfl, (fun _ _ _ h => by rw [it_len] at h; exact h), s1 _ _ hco, cati, oki, (fun n hn => by have := bdi n hn; omega), Ri, hM, bMi, fun r H2 s2 hr40 hr0 hr1 => ?_⟩
    -- where the rest begins
    have at_ : rl (it i c) r = it (i + r * (c.2.length * c.2.length)) c ∧ (∀ m, m < i + r * (c.2.length * c.2.length) → B (it m c) = false) ∧ ∃ N, N ≤ c.2.length * c.2.length ∧ Till B (it (i + r * (c.2.length * c.2.length)) c) N := by
      rcases hor with h | h
      · have r0 : r = 0 := by
          rcases hr0 with e | e
          · exact e
          · have z := Ri.rl (m := 0) (n := r) (Nat.zero_le _) (by rw [rl_zero]; exact h)
            rw [e] at z
            cases z
        subst r0
        rw [rl_zero, Nat.zero_mul, Nat.add_zero]
        exact ⟨rfl, hno, 0, Nat.zero_le _, h, fun m hm => absurd hm (Nat.not_lt_zero m)⟩
      · have fr : Free (it i c) := free_late hc.1 (by omega)
        have er : ∀ q, rl (it i c) q = it (i + q * (c.2.length * c.2.length)) c := fun q => by
          rw [rl_it oki.1 fr, li, it_add]
        refine ⟨er r, fun m hm => ?_, ?_⟩
        · rcases hr0 with e | e
          · rw [e, Nat.zero_mul, Nat.add_zero] at hm
            exact hno m hm
          · refine bool_no fun hb => ?_
            have z := R.it hc.1 (Nat.le_of_lt hm) hb
            rw [← er r, e] at z
            cases z
        · have z : B (it (c.2.length * c.2.length) (it (i + r * (c.2.length * c.2.length)) c)) = true := by
            rw [← it_add, show i + r * (c.2.length * c.2.length) + c.2.length * c.2.length = i + (r + 1) * (c.2.length * c.2.length) by rw [Nat.succ_mul]; omega, ← er]
            exact hr1
          obtain ⟨N, h1, h2⟩ := least_of (Q := fun n => B (it n (it (i + r * (c.2.length * c.2.length)) c)) = true) z
          exact ⟨N, Nat.le_of_not_lt fun g => h2 _ g z, h1, fun m hm => bool_no (h2 m hm)⟩
    obtain ⟨eA, hA, N, hNp, hN⟩ := at_
    have eV : (i : Int) + (r : Int) * (c.2.length : Int) * (c.2.length : Int) = ((i + r * (c.2.length * c.2.length) + 0 : Nat) : Int) := by
      push_cast
      rw [Int.mul_assoc]
      omega
    have hrp : r * (c.2.length * c.2.length) ≤ 10 ^ 40 * 144 := Nat.mul_le_mul hr40 (by omega)
    have e60' : (10 : Nat) ^ 49 + (122 + 10 ^ 40 * 144 + 144) ≤ 10 ^ 60 := by decide
    refine ⟨_, rfl, _, rfl, _, rfl, _, _, rfl, rfl, .inr ⟨by omega, by omega⟩, _, rfl, _, _, rfl, rfl, .inr ⟨by omega, by omega⟩, _, _, rfl, rfl, ?_⟩
    refine ⟨_, rfl, _, rfl, v', it i c, r, rfl, cati.same s2, oki, fun v4 H4 s4 cat4 => ?_⟩
    have cat5 : Cat H4 v4 (it (i + r * (c.2.length * c.2.length)) c) := by
      rw [← eA]
      exact cat4
    refine ⟨fun m σ H5 => ∃ v5 k, σ = [some v5, some (.ref fr), some (.int (c.2.length : Int)), some (.int ((i + r * (c.2.length * c.2.length) + k : Nat) : Int)), some (.int (r : Int))] ∧ m = N - k ∧ k ≤ N ∧ Same H H5 ∧ Cat H5 v5 (it (i + r * (c.2.length * c.2.length) + k) c), ⟨_, v4, 0, ?_, rfl, Nat.zero_le _, (s1.trans s2).trans s4, cat5⟩, ?_⟩
    · show [some v4, some (V.ref fr), some (V.int (c.2.length : Int)), some (V.int ((i : Int) + (r : Int) * (c.2.length : Int) * (c.2.length : Int))), some (V.int (r : Int))] = _
      rw [eV]
    rintro m σ H5 ⟨v5, k, rfl, hm, hk, s5, catk⟩
    have okk := it_cdOk (i + r * (c.2.length * c.2.length) + k) hc
    have bdk : ∀ n ∈ (it (i + r * (c.2.length * c.2.length) + k) c).2, n < 10 ^ 49 + (i + r * (c.2.length * c.2.length) + k) := it_bound hc.1 hB _
    refine ⟨rfl, _, rfl, ?_⟩
    dsimp only [tNil]
    refine ask s5 catk okk (it_len _) (fun n hn => by have := bdk n hn; omega) fun H6 s6 => ?_
    refine ⟨_, rfl, ?_⟩
    have eK : it (i + r * (c.2.length * c.2.length) + k) c = it k (it (i + r * (c.2.length * c.2.length)) c) := it_add _ _ _
    cases hb2 : B (it (i + r * (c.2.length * c.2.length) + k) c) with
    | true =>
      refine iteF ?_
      refine ⟨_, rfl, q _ H6 (s5.trans s6) ⟨hb2, fun m hm => ?_⟩⟩
      by_cases g : m < i + r * (c.2.length * c.2.length)
      · exact hA m g
      · have z := hN.2 (m - (i + r * (c.2.length * c.2.length))) (by omega)
        rw [← it_add, show i + r * (c.2.length * c.2.length) + (m - (i + r * (c.2.length * c.2.length))) = m by omega] at z
        exact z
    | false =>
      have lt : k < N := by
        refine Nat.lt_of_le_of_ne hk fun e => ?_
        rw [eK, e, hN.1] at hb2
        cases hb2
      refine iteT ?_
      refine ⟨fun σ' H' => ∃ v6, σ' = [some v6, some (.ref fr), some (.int (c.2.length : Int)), some (.int ((i + r * (c.2.length * c.2.length) + (k + 1) : Nat) : Int)), some (.int (r : Int))] ∧ Same H H' ∧ Cat H' v6 (it (i + r * (c.2.length * c.2.length) + (k + 1)) c), fun σ' H' p => ?_, ?_⟩
      · obtain ⟨v6, rfl, p2, p3⟩ := p
        exact ⟨N - (k + 1), by omega, v6, k + 1, rfl, rfl, by omega, p2, p3⟩
      · refine ⟨_, rfl, v5, _, rfl, catk.same s6, okk, fun v6 H7 s7 cat7 => ?_⟩
        rw [← it_succ] at cat7
        exact ⟨_, rfl, _, _, rfl, rfl, v6, rfl, (s5.trans s6).trans s7, cat7⟩
end
end Lk
end
section
set_option maxRecDepth 100000
set_option maxHeartbeats 2000000
namespace Lk
open PySem PySem.Spec PyProof.Rows L2 LamX NdefX
section
variable {P : Program} {w : World} {K : PySem.W.Frag} {mg : Str → Option Value} {base : Heap}
abbrev nTK : List Str := ["coder", "place", "length"]
theorem sc_tillKnown : FnScope nTK ["coder", "place", "length"] (defScope s_steps_till_known) := ⟨rfl, rfl, rfl, by decide +kernel, rfl, by decide +kernel, by decide +kernel⟩
def tlTK (ws : List (Option V)) : TL := fun v H Q => ∃ (i : Nat) (l : Int), ws = [some (.int (i : Int)), some (.int l)] ∧ ∃ p, i < p ∧ tlR (knoB i l) p v H Q
theorem ok_tillKnown {f c PT : Addr} {fd : FuncData} {T : List (Addr × Str)} (F : FunC K "steps_till_known" "steps_till_known" s_steps_till_known f fd c) (TBc : TabB base mg c PT) (hmT : (PT, ("steps_till_known" ++ ".<locals>." : Str) ++ "<lambda>") ∈ T) (hu : ∀ p ∈ T, p.1 = PT → p.2 = ("steps_till_known" ++ ".<locals>." : Str) ++ "<lambda>")
    (cst : CalA P w K mg base 3 5 "steps_till" spSteps) : FnOk P w K mg base C8.CX0 6 f fd ["coder", "place", "length"] (spKnown T) := by
  refine F.ok sc_tillKnown (fun vs H Q E h => ?_) (fun A outer s H vs Q E hr h => ?_)
  · obtain ⟨v, c1, i, l, rfl, _⟩ := h
    rfl
  · obtain ⟨v, c1, i, l, rfl, cat, hc, hB, hT, hi, hl, q⟩ := h
    have nd := sc_tillKnown.nd
    refine ⟨_, (pss_one (by exact (ps_ret (pe_lamA (kb := 2) (N := ["later", "place", "length"]) (fr := ["place", "length"]) (js := [1, 2]) (y := "later") (T := T) (tl := tlTK) cst hr (by decide) (by decide) rfl (pv 0) TBc rfl hmT hu rfl (by show ndefB (defScope s_steps_till_known) _ _ = true; decide +kernel) rfl (nscope_by (by decide +kernel)) (fun _ _ _ _ _ _ => rfl) (fun ws f2 c2 cl A2 outer2 s2 H2 v2 Q2 hr2 ht => by obtain ⟨i2, l2, hws, pp, hip, cc2, cat2, ok2, hl2, hb2, q2⟩ := ht; subst hws; obtain ⟨xa, xb, rfl, hxa, hxb⟩ := id cat2; exact ⟨_, pe_cmpR op_ge (pe_ix (ix_tupK (K := K) rfl) (pe_ix (ix_tupK (K := K) rfl) (pv 0) pe_int (fun _ _ => rfl)) (pv 1) (fun _ _ => rfl)) (pv 2) (nomark _), ⟨_, rfl, xa, _, 1, _, rfl, rfl, SqT.of hxa, rfl, _, rfl, xb, _, (i2 : Int), _, rfl, rfl, SqT.of hxb, atI_nat (nat_at (by omega)), _, rfl, _, _, rfl, rfl, q2 _ (Same.refl _)⟩⟩))))), ?_⟩
    refine ⟨_, rfl, hT, fun c' H3 eN T3 hco => ?_⟩
    exact ⟨v, c1, knoB i l, c', _, l, rfl, fun v H Q h => ⟨h.1, i, l, rfl, _, hi, h.2⟩, hco, cat.ext (T := T) ⟨eN, T3⟩, hc, hB, knoB_rea hi _, hl, knoB_ev hi, fun m H4 s4 till => q m H4 (((Ext.refl hT).trans ⟨eN, T3⟩).same s4) till⟩
end
end Lk
end
section
set_option maxRecDepth 100000
set_option maxHeartbeats 2000000
namespace Lk
open PySem PySem.Spec PyProof.Rows L2 LamX NdefX
/-- NoCoder, NoPlace, NoCount; else how many steps till the word is learnt -/
def spLearnt (C1 C2 C3 : Addr) (T : List (Addr × Str)) : Sp := fun vs H Q E => ∃ v u x d e f, vs = [v, u, x] ∧ Th H v d ∧ Th H u e ∧ Th H x f ∧ Tabs T H ∧ (∀ c, d = cdD c → ∀ x ∈ c.2, x < 10 ^ 49) ∧ (isCd d = false → ∀ H', Same H H' → E (.ref C1) none H') ∧
  (∀ c, d = cdD c → CdOk c → inR e 0 ((c.2.length : Int) - 1) = false → ∀ H', Same H H' → E (.ref C3) none H') ∧
  (∀ c, d = cdD c → CdOk c → inR e 0 ((c.2.length : Int) - 1) = true → inR f 1 (10 ^ 18) = false → ∀ H', Same H H' → E (.ref C2) none H') ∧
  (∀ c (i l : Nat), d = cdD c → CdOk c → e = .int i → f = .int l → i < c.2.length → 1 ≤ l → l ≤ 10 ^ 18 → ∀ (m : Nat) H', Ext T H H' → Till (knoB i (l : Int)) c m → Q (.int (m : Int)) H')
theorem learnt_of {C1 C2 C3 : Addr} {T : List (Addr × Str)} {Q : VK} {E : XK} {H : Hp} {v : V} {c : Cd} {i l : Nat} (cat : Cat H v c) (ok : CdOk c) (t : Tabs T H) (hB : ∀ x ∈ c.2, x < 10 ^ 49) (hi : i < c.2.length) (h1 : 1 ≤ l) (hl : l ≤ 10 ^ 18)
    (k : ∀ (m : Nat) H', Ext T H H' → Till (knoB i (l : Int)) c m → Q (.int (m : Int)) H') : spLearnt C1 C2 C3 T [v, .int (i : Int), .int (l : Int)] H Q E := by
  refine ⟨v, .int (i : Int), .int (l : Int), cdD c, .int (i : Int), .int (l : Int), rfl, cat.th, .int _, .int _, t, fun c2 ec => ?_, fun z => ?_, fun c2 ec _ z => ?_, fun c2 ec _ _ z => ?_, fun c2 i2 l2 ec _ ei el _ _ _ => ?_⟩
  · rw [← cdD_inj ec]
    exact hB
  · rw [isCd_cdD ok] at z
    cases z
  · rw [← cdD_inj ec] at z
    exfalso
    have y : (decide ((0 : Int) ≤ (i : Int)) && decide ((i : Int) ≤ (c.2.length : Int) - 1)) = false := z
    rw [decide_eq_true (by omega), decide_eq_true (by omega)] at y
    cases y
  · exfalso
    have e18 : (10 : Int) ^ 18 = ((10 ^ 18 : Nat) : Int) := by decide
    have y : (decide ((1 : Int) ≤ (l : Int)) && decide ((l : Int) ≤ 10 ^ 18)) = false := z
    rw [decide_eq_true (by omega), decide_eq_true (by omega)] at y
    cases y
  · have e := cdD_inj ec
    have e2 : i2 = i := by injection ei with ei; omega
    have e3 : l2 = l := by injection el with el; omega
    subst e e2 e3
    exact k
section
variable {P : Program} {w : World} {K : PySem.W.Frag} {mg : Str → Option Value} {base : Heap}
abbrev nLy : List Str := ["coder", "place", "length"]
theorem sc_learntBy : FnScope nLy ["coder", "place", "length"] (defScope s_learnt_by) := ⟨rfl, rfl, rfl, by decide +kernel, rfl, by decide +kernel, by decide +kernel⟩
theorem ok_learntBy {f C1 C2 C3 : Addr} {fd : FuncData} {T : List (Addr × Str)} (F : Fun K "learnt_by" "learnt_by" s_learnt_by f fd) (cr : CalX P w K mg base 4 "refuse_no_coder" (spRefCoder C1)) (cp : CalX P w K mg base 3 "refuse_no_place" (spPlace C3)) (cc : CalX P w K mg base 3 "refuse_no_count" (spCount C2)) (ck : C8.Cal P w K mg base 6 "steps_till_known" (spKnown T) []) (ml : mg "len" = none) {tp : Tok} (mp : mg "MOST_STEPS" = some (.int 1000000000000000000 tp)) : FnOk P w K mg base (L2.CX P w) 7 f fd ["coder", "place", "length"] (spLearnt C1 C2 C3 T) := by
  refine F.okX sc_learntBy (fun vs H Q E h => ?_) (fun cdv A outer s H vs Q E hr h => ?_)
  · obtain ⟨v, u, x, d, e, f, rfl, _⟩ := h
    rfl
  · obtain ⟨v, u, x, d, e, f, rfl, hv, hu, hx, hT, hB, q1, q3, q2, q⟩ := h
    have nd := sc_learntBy.nd
    refine ⟨_, (pss_cons (by exact (ps_expr (pe_cX cr (takes_of rfl rfl rfl rfl) hr (by decide) rfl (pa_cons (pv 0) pa_nil))))
      (pss_cons (by exact (ps_expr (pe_cX cp (takes_of rfl rfl rfl rfl) hr (by decide) rfl (pa_cons (pv 1) (pa_cons (pe_callB call_len_seq (by rfl) ml PySem.boot_len (pa_cons (pe_ix ix_tup (pv 0) pe_int (fun _ _ => rfl)) pa_nil)) pa_nil)))))
      (pss_cons (by exact (ps_expr (pe_cX cc (takes_of rfl rfl rfl rfl) hr (by decide) rfl (pa_cons (pv 2) (pa_cons pe_int (pa_cons (pe_glob (v := .int 1000000000000000000) rfl mp ⟨_, rfl⟩) pa_nil))))))
      (pss_one (by exact (ps_ret (C8.pe_c ck hr (by decide) rfl (pa_cons (pv 0) (pa_cons (pv 1) (pa_cons (pv 2) pa_nil)))))))))), ?_⟩
    refine ⟨_, rfl, v, d, rfl, hv, fun hd H1 s1 => ?_, fun hd H1 s1 => q1 hd H1 s1⟩
    obtain ⟨c1, rfl, hc⟩ := isCd_of hd
    have cat1 : Cat H1 v c1 := (Th.same s1 _ hv).cat
    obtain ⟨a, b, rfl, ha, hb⟩ := id cat1
    refine ⟨_, rfl, _, rfl, a, _, 1, _, rfl, rfl, SqT.of ha, rfl, b, _, rfl, .inr (SqT.of hb), ?_⟩
    dsimp only [tNil]
    rw [List.length_map]
    refine ⟨u, e, c1.2.length, rfl, hc.pos, hc.2, Th.same s1 e hu, fun he => ?_, fun he => q3 c1 rfl hc he H1 s1⟩
    refine ⟨_, rfl, x, f, 1, 1000000000000000000, rfl, .inr (.inr (.inr (.inr (.inl ⟨rfl, by decide⟩)))), Th.same s1 f hx, fun hf => ?_, fun hf => q2 c1 rfl hc he hf H1 s1⟩
    obtain ⟨l, rfl, hl1, hl⟩ := count_of1 (m := 1000000000000000000) hf
    obtain ⟨i, rfl, hi⟩ : ∃ i : Nat, e = .int i ∧ i < c1.2.length := by
      cases e with
      | int i =>
        have z : (decide ((0 : Int) ≤ i) && decide (i ≤ (c1.2.length : Int) - 1)) = true := he
        rw [Bool.and_eq_true, decide_eq_true_eq, decide_eq_true_eq] at z
        exact ⟨i.toNat, by rw [Int.toNat_of_nonneg z.1], by omega⟩
      | _ => cases he
    have eu : u = .int (i : Int) := by cases hu; rfl
    have ex : x = .int (l : Int) := by cases hx; rfl
    subst eu ex
    have e18 : (1000000000000000000 : Nat) ≤ 10 ^ 40 := by decide
    have e18' : (1000000000000000000 : Nat) = 10 ^ 18 := by decide
    refine ⟨_, rfl, _, rfl, _, rfl, .ref a, c1, i, l, rfl, cat1, hc, hB c1 rfl, hT.ext s1, hi, by omega, fun m H3 eX till => ?_⟩
    exact q c1 i l rfl hc rfl rfl hi hl1 (by omega) m H3 ((Ext.of hT s1).trans eX) till
end
end Lk
end
section
set_option maxRecDepth 100000
set_option maxHeartbeats 2000000
/-! Words and when they are learnt; heaps kept but for a pot and the tables. -/
namespace Lk
open PySem PySem.Spec PyProof.Rows L2 LamX NdefX
theorem len_step (n : Nat) {c : Cd} (h : COk c) (i : Nat) : len (it (n + 1) c) i = if i = (it n c).1 then len (it n c) i + 1 else len (it n c) i := by
  rw [it_succ]
  by_cases e : i = (it n c).1
  · rw [if_pos e, e]
    exact len_nx_same (it_ok n h)
  · rw [if_neg e]
    exact len_nx_ne e
theorem len_grow (m : Nat) {c : Cd} (h : COk c) (i : Nat) : len (it m c) i ≤ len c i + m := by
  induction m with
  | zero => exact Nat.le_refl _
  | succ m ih =>
    rw [len_step m h]
    split <;> omega
theorem kno_iff {c : Cd} {i l m : Nat} : knoB i (l : Int) (it m c) = true ↔ l ≤ len (it m c) i := by
  unfold knoB
  rw [decide_eq_true_eq]
  omega
theorem kno_no {c : Cd} {i l m : Nat} : knoB i (l : Int) (it m c) = false ↔ len (it m c) i < l := by
  unfold knoB
  rw [decide_eq_false_iff_not]
  omega
theorem till_zero {c : Cd} {i l n : Nat} (t : Till (knoB i (l : Int)) c n) (h : l ≤ len c i) : n = 0 := by
  cases n with
  | zero => rfl
  | succ n =>
    have z := kno_no.mp (t.2 0 (Nat.succ_pos n))
    have e : it 0 c = c := rfl
    rw [e] at z
    omega
theorem till_word {c : Cd} (h : COk c) {i l n : Nat} (t : Till (knoB i (l : Int)) c n) (hl : len c i < l) : 1 ≤ n ∧ wd (it (n - 1) c) = (i, l) ∧ len (it n c) i = l := by
  cases n with
  | zero =>
    have z := kno_iff.mp t.1
    have e : it 0 c = c := rfl
    rw [e] at z
    omega
  | succ n =>
    have a := kno_iff.mp t.1
    have b := kno_no.mp (t.2 n (Nat.lt_succ_self n))
    rw [len_step n h] at a
    have e : i = (it n c).1 := by
      refine Classical.byContradiction fun g => ?_
      rw [if_neg g] at a
      omega
    rw [if_pos e] at a
    refine ⟨Nat.succ_pos n, ?_, ?_⟩
    · show ((it n c).1, len (it n c) (it n c).1 + 1) = (i, l)
      rw [← e]
      refine Prod.ext rfl ?_
      show len (it n c) i + 1 = l
      omega
    · rw [len_step n h, if_pos e]
      omega
theorem word_till {c : Cd} (h : COk c) {i l n : Nat} (h1 : 1 ≤ n) (e : wd (it (n - 1) c) = (i, l)) : Till (knoB i (l : Int)) c n := by
  obtain ⟨n, rfl⟩ : ∃ m, n = m + 1 := ⟨n - 1, by omega⟩
  have e' : ((it n c).1, len (it n c) (it n c).1 + 1) = (i, l) := e
  injection e' with e1 e2
  refine ⟨kno_iff.mpr ?_, fun m hm => kno_no.mpr ?_⟩
  · rw [len_step n h, if_pos e1.symm, ← e1]
    omega
  · have z := len_mono (n - m) i (it_ok m h)
    rw [← it_add, show m + (n - m) = n by omega] at z
    rw [e1] at e2
    omega
/-- between a word of a place and the next longer one there no word begins there -/
theorem till_between {c : Cd} (h : COk c) {i l n n2 m : Nat} (t : Till (knoB i (l : Int)) c n) (t2 : Till (knoB i ((l + 1 : Nat) : Int)) c n2) (h1 : n < m) (h2 : m < n2) : (it (m - 1) c).1 ≠ i := fun e => by
  obtain ⟨k, rfl⟩ : ∃ k, m = k + 1 := ⟨m - 1, by omega⟩
  have a := kno_iff.mp t.1
  have b := kno_no.mp (t2.2 (k + 1) h2)
  have z := len_mono (k - n) i (it_ok n h)
  rw [← it_add, show n + (k - n) = k by omega] at z
  have e' : (it k c).1 = i := e
  rw [len_step k h, if_pos e'.symm] at b
  omega
theorem till_later {c : Cd} (h : COk c) {i l n n2 : Nat} (t : Till (knoB i (l : Int)) c n) (t2 : Till (knoB i ((l + 1 : Nat) : Int)) c n2) (hl : len c i < l) : n < n2 := by
  have a := (till_word h t hl).2.2
  have b := kno_iff.mp t2.1
  refine Nat.lt_of_not_le fun g => ?_
  have z := len_mono (n - n2) i (it_ok n2 h)
  rw [← it_add, show n2 + (n - n2) = n by omega] at z
  omega
/-- the next longer word of a place comes soon -/
theorem till_near {c : Cd} (h : CdOk c) {i l n n2 : Nat} (hi : i < c.2.length) (t : Till (knoB i (l : Int)) c n) (t2 : Till (knoB i ((l + 1 : Nat) : Int)) c n2) : n2 ≤ n + 300 := by
  have h12 := h.2
  have hp := h.pos
  have okn := it_ok n h.1
  have fr : Free (it ((c.2.length - 1) * (c.2.length - 1) + 1) (it n c)) := free_late okn (by rw [it_len]; exact Nat.le_refl _)
  have r := it_round (it_ok ((c.2.length - 1) * (c.2.length - 1) + 1) okn) fr
  rw [it_len, it_len] at r
  have a := kno_iff.mp t.1
  have b := len_mono ((c.2.length - 1) * (c.2.length - 1) + 1) i okn
  have e : len (it (c.2.length * c.2.length) (it ((c.2.length - 1) * (c.2.length - 1) + 1) (it n c))) i = len (it ((c.2.length - 1) * (c.2.length - 1) + 1) (it n c)) i + c.2.length := by
    rw [r]
    exact getD_map_add _ _ (by rw [it_len, it_len]; exact hi)
  rw [← it_add, ← it_add] at e
  have hpp : (c.2.length - 1) * (c.2.length - 1) ≤ 11 * 11 := Nat.mul_le_mul (by omega) (by omega)
  have hqq : c.2.length * c.2.length ≤ 12 * 12 := Nat.mul_le_mul h12 h12
  have k : knoB i ((l + 1 : Nat) : Int) (it (n + ((c.2.length - 1) * (c.2.length - 1) + 1) + c.2.length * c.2.length) c) = true := by
    refine kno_iff.mpr ?_
    rw [Nat.add_assoc n, e]
    omega
  have z : n2 ≤ n + ((c.2.length - 1) * (c.2.length - 1) + 1) + c.2.length * c.2.length := Nat.le_of_not_lt fun g => by
    rw [t2.2 _ g] at k
    cases k
  omega
/-! ### letters -/
theorem let_iff {c : Cd} {d : Int} {m : Nat} : letB d (it m c) = true ↔ d < lkI (it m c).2 := by
  unfold letB
  exact decide_eq_true_iff
theorem let_no {c : Cd} {d : Int} {m : Nat} : letB d (it m c) = false ↔ lkI (it m c).2 ≤ d := by
  unfold letB
  rw [decide_eq_false_iff_not]
  omega
theorem lkI_set : ∀ (ls : List Nat) (p : Nat), p < ls.length → lkI (ls.set p (ls.getD p 0 + 1)) = lkI ls + ((ls.getD p 0 + 1 : Nat) : Int)
  | [], p, h => absurd h (Nat.not_lt_zero p)
  | l :: ls, 0, _ => by
    show lkI ((l + 1) :: ls) = lkI (l :: ls) + ((l + 1 : Nat) : Int)
    rw [lkI_cons, lkI_cons]
    have a := two_tri l
    have b := two_tri (l + 1)
    have e : (l + 1) * (l + 1 + 1) = l * (l + 1) + 2 * (l + 1) := by
      rw [Nat.mul_succ (l + 1) (l + 1), Nat.mul_succ (l + 1) l, Nat.mul_comm (l + 1) l]
      omega
    omega
  | l :: ls, p + 1, h => by
    show lkI (l :: ls.set p (ls.getD p 0 + 1)) = lkI (l :: ls) + ((ls.getD p 0 + 1 : Nat) : Int)
    rw [lkI_cons, lkI_cons, lkI_set ls p (by rw [List.length_cons] at h; omega)]
    omega
/-- a word has as many letters as its length -/
theorem lkI_step (n : Nat) {c : Cd} (h : COk c) : lkI (it (n + 1) c).2 = lkI (it n c).2 + ((wd (it n c)).2 : Int) := by
  rw [it_succ]
  exact lkI_set _ _ (it_ok n h)
theorem lkI_le {m n : Nat} (hmn : m ≤ n) {c : Cd} (h : COk c) : lkI (it m c).2 + ((n - m : Nat) : Int) ≤ lkI (it n c).2 := by
  obtain ⟨k, rfl⟩ : ∃ k, n = m + k := ⟨n - m, by omega⟩
  rw [show m + k - m = k by omega]
  induction k with
  | zero => exact Int.le_of_eq (Int.add_zero _)
  | succ k ih =>
    have z := ih (Nat.le_add_right m k)
    have y := lkI_step (m + k) h
    have w1 : 1 ≤ (wd (it (m + k) c)).2 := Nat.succ_pos _
    show _ ≤ lkI (it (m + k + 1) c).2
    omega
/-- the letter stands in just one word -/
theorem let_till {c : Cd} (h : COk c) {n : Nat} {d : Int} (h1 : 1 ≤ n) (ha : lkI (it (n - 1) c).2 ≤ d) (hb : d < lkI (it n c).2) : Till (letB d) c n := by
  refine ⟨let_iff.mpr hb, fun m hm => let_no.mpr ?_⟩
  have z := lkI_le (show m ≤ n - 1 by omega) h
  omega
theorem till_let {c : Cd} (h : COk c) {n : Nat} {d : Int} (t : Till (letB d) c n) (h0 : lkI c.2 ≤ d) : 1 ≤ n ∧ lkI (it (n - 1) c).2 ≤ d ∧ d < lkI (it n c).2 := by
  have a := let_iff.mp t.1
  cases n with
  | zero =>
    have e : it 0 c = c := rfl
    rw [e] at a
    omega
  | succ n => exact ⟨Nat.succ_pos n, let_no.mp (t.2 n (Nat.lt_succ_self n)), a⟩
theorem Cat.at_ {H : Hp} {a : Addr} {c : Cd} (h : Cat H (.ref a) c) : ∃ b, H a = some (.tup [.int (c.1 : Int), .ref b]) ∧ H b = some (.tup (c.2.map vN)) := by
  obtain ⟨_, b, e, h1, h2⟩ := h
  cases e
  exact ⟨b, h1, h2⟩
/-! ### kept but for a pot -/
def ExB (T : List (Addr × Str)) (a : Addr) (H H2 : Hp) : Prop := (∀ b o, b ≠ a → H b = some o → (∀ ps, o ≠ .tbl ps) → H2 b = some o) ∧ Tabs T H2
theorem ExB.refl {T : List (Addr × Str)} {a : Addr} {H : Hp} (t : Tabs T H) : ExB T a H H := ⟨fun _ _ _ e _ => e, t⟩
theorem ExB.trans {T : List (Addr × Str)} {a : Addr} {H H1 H2 : Hp} (x : ExB T a H H1) (y : ExB T a H1 H2) : ExB T a H H2 := ⟨fun b o n e q => y.1 b o n (x.1 b o n e q) q, y.2⟩
theorem Ext.exb {T : List (Addr × Str)} {a : Addr} {H H1 : Hp} (x : Ext T H H1) : ExB T a H H1 := ⟨fun b o _ e q => x.1 b o e q, x.2⟩
theorem Tabs.but {T : List (Addr × Str)} {a : Addr} {xs : List V} {H H1 : Hp} (t : Tabs T H) (ha : H a = some (.lst xs)) (s : SameBut a H H1) : Tabs T H1 := fun p hp => by
  obtain ⟨ps, h1, h2, h3⟩ := t p hp
  refine ⟨ps, s _ _ (fun z => by rw [z, ha] at h1; cases h1) h1, h2, fun pos cv hc => ?_⟩
  obtain ⟨c, e1, e2⟩ := h3 pos cv hc
  refine ⟨c, e1, s _ _ (fun z => ?_) e2⟩
  rw [z, ha] at e2
  unfold CodeO at e2
  cases e2
theorem Urn.exb {T : List (Addr × Str)} {a : Addr} {n : Int} {H H1 : Hp} (u : Urn H a n) (t : Tabs T H) (s : SameBut a H H1) : ExB T a H H1 := by
  obtain ⟨u0, u1, u2, e, _⟩ := u
  exact ⟨fun b o n q _ => s b o n q, Tabs.but t e s⟩
theorem Urn.keep {T : List (Addr × Str)} {a : Addr} {n : Int} {H H1 : Hp} (u : Urn H a n) (e : ExB T a H H1) {v : V} {c : Cd} (h : Cat H v c) : Cat H1 v c := by
  obtain ⟨u0, u1, u2, eq, _⟩ := u
  have h2 : Cat (noTb H) v c := (Th.noTb _ h.th).cat
  have eq2 : noTb H a = some (.lst [.int u0, .int u1, .int u2]) := noTb_at eq fun ps z => nomatch z
  refine h2.but eq2 fun b o n q => e.1 b o n (noTb_same _ _ q) fun ps z => ?_
  have q2 := noTb_same _ _ q
  unfold noTb at q
  rw [q2, z] at q
  cases q
theorem Ext.fresh {T : List (Addr × Str)} {a : Addr} {H H1 : Hp} (e : Ext T H H1) (na : H1 a = none) : ∀ o, H a = some o → ∃ ps, o = .tbl ps := fun o h => Classical.byContradiction fun g => by
  have z := e.1 a o h fun ps q => g ⟨ps, q⟩
  rw [na] at z
  cases z
theorem Ext.pot {T : List (Addr × Str)} {a : Addr} {H H1 H2 : Hp} (e : Ext T H H1) (x : ExB T a H1 H2) (na : ∀ o, H a = some o → ∃ ps, o = .tbl ps) : Ext T H H2 :=
  ⟨fun b o h n => x.1 b o (fun z => by
    rw [z] at h
    obtain ⟨ps, q⟩ := na o h
    exact n ps q) (e.1 b o h n) n, x.2⟩
end Lk
end
section
set_option maxRecDepth 100000
set_option maxHeartbeats 2000000
namespace Lk
open PySem PySem.Spec PyProof.Rows L2 LamX NdefX
/-- what a pair tells of the word x of the coder c -/
def What (c : Cd) (x : Nat × Nat) (H : Hp) (v : V) : Prop :=
  (x.2 = 1 ∧ v = .int 0) ∨ (2 ≤ x.2 ∧ x.2 - 1 ≤ len c x.1 ∧ ∃ r, v = .ref r ∧ H r = some (.tup [.int (x.1 : Int), .int ((x.2 - 1 : Nat) : Int)])) ∨ (2 ≤ x.2 ∧ len c x.1 < x.2 - 1 ∧ ∃ m : Nat, v = .int (m : Int) ∧ Till (knoB x.1 ((x.2 - 1 : Nat) : Int)) c m)
def lastOf (c : Cd) (x : Nat × Nat) : Nat := (x.1 + x.2 - 1) % c.2.length
/-- NoCoder, NoCount; else the pair -/
def spPairAt (C1 C2 : Addr) (T : List (Addr × Str)) : Sp := fun vs H Q E => ∃ v u d e, vs = [v, u] ∧ Th H v d ∧ Th H u e ∧ Tabs T H ∧ (∀ c, d = cdD c → ∀ x ∈ c.2, x < 10 ^ 39) ∧ (isCd d = false → ∀ H', Same H H' → E (.ref C1) none H') ∧
  (isCd d = true → inR e 1 1000000000000000000 = false → ∀ H', Same H H' → E (.ref C2) none H') ∧
  (∀ c (n : Nat), d = cdD c → CdOk c → e = .int n → 1 ≤ n → n ≤ 1000000000000000000 → ∀ q wv H', Ext T H H' → What c (wd (it (n - 1) c)) H' wv → H' q = some (.tup [wv, .int (lastOf c (wd (it (n - 1) c)) : Int)]) → Q (.ref q) H')
theorem pair_of {C1 C2 : Addr} {T : List (Addr × Str)} {Q : VK} {E : XK} {H : Hp} {v : V} {c : Cd} {n : Nat} (cat : Cat H v c) (ok : CdOk c) (t : Tabs T H) (hB : ∀ x ∈ c.2, x < 10 ^ 39) (h1 : 1 ≤ n) (hn : n ≤ 1000000000000000000)
    (k : ∀ q wv H', Ext T H H' → What c (wd (it (n - 1) c)) H' wv → H' q = some (.tup [wv, .int (lastOf c (wd (it (n - 1) c)) : Int)]) → Q (.ref q) H') : spPairAt C1 C2 T [v, .int (n : Int)] H Q E := by
  refine ⟨v, .int (n : Int), cdD c, .int (n : Int), rfl, cat.th, .int _, t, fun c2 ec => ?_, fun z => ?_, fun _ z => ?_, fun c2 n2 ec _ en _ _ => ?_⟩
  · rw [← cdD_inj ec]
    exact hB
  · rw [isCd_cdD ok] at z
    cases z
  · exfalso
    have y : (decide ((1 : Int) ≤ (n : Int)) && decide ((n : Int) ≤ 1000000000000000000)) = false := z
    rw [decide_eq_true (by omega), decide_eq_true (by omega)] at y
    cases y
  · have e := cdD_inj ec
    have e2 : n2 = n := by injection en with en; omega
    subst e e2
    exact k
section
variable {P : Program} {w : World} {K : PySem.W.Frag} {mg : Str → Option Value} {base : Heap}
abbrev nPa : List Str := ["coder", "number", "place", "length", "_", "lengths", "last"]
theorem sc_pairAt : FnScope nPa ["coder", "number"] (defScope s_pair_at) := ⟨rfl, rfl, rfl, by decide +kernel, rfl, by decide +kernel, by decide +kernel⟩
theorem ok_pairAt {f C1 C2 : Addr} {fd : FuncData} {T : List (Addr × Str)} (F : Fun K "pair_at" "pair_at" s_pair_at f fd) (cw : CalX P w K mg base 6 "word_at" (spOf1 C1 C2 1000000000000000000 toldWd)) (ck : C8.Cal P w K mg base 6 "steps_till_known" (spKnown T) []) (ml : mg "len" = none) : FnOk P w K mg base (L2.CX P w) 7 f fd ["coder", "number"] (spPairAt C1 C2 T) := by
  refine F.okX sc_pairAt (fun vs H Q E h => ?_) (fun cdv A outer s H vs Q E hr h => ?_)
  · obtain ⟨v, u, d, e, rfl, _⟩ := h
    rfl
  · obtain ⟨v, u, d, e, rfl, hv, hu, hT, hB, q1, q2, q⟩ := h
    have nd := sc_pairAt.nd
    refine ⟨_, (pss_cons (by exact (ps_asg (pe_cX cw (takes_of rfl rfl rfl rfl) hr (by decide) rfl (pa_cons (pv 0) (pa_cons (pv 1) pa_nil))) (pg_tup rfl (pgs_cons (pg_name (i := 2) nd rfl (Or.inl rfl)) (pgs_cons (pg_name (i := 3) nd rfl (Or.inl rfl)) pgs_nil)))))
      (pss_cons (by exact (ps_asg (pv 0) (pg_tup rfl (pgs_cons (pg_name (i := 4) nd rfl (Or.inl rfl)) (pgs_cons (pg_name (i := 5) nd rfl (Or.inl rfl)) pgs_nil)))))
      (pss_cons (by exact (ps_set (i := 6) nd rfl (Or.inl rfl) (pe_op op_mod (pe_op op_sub (pe_op op_add (pv 2) (pv 3)) pe_int) (pe_callB call_len_seq (by rfl) ml PySem.boot_len (pa_cons (pv 5) pa_nil)))))
      (pss_cons (by exact (ps_if (pt_cmpR op_eq (pv 3) pe_int (nomark _)) (pss_one (by exact (ps_ret (pe_tupS (pa_cons pe_int (pa_cons (pv 6) pa_nil)))))) pss_nil))
      (pss_cons (by exact (ps_if (pt_cmpR op_le (pe_op op_sub (pv 3) pe_int) (pe_ix ix_tup (pv 5) (pv 2) (fun _ _ => rfl)) (nomark _)) (pss_one (by exact (ps_ret (pe_tupS (pa_cons (pe_tupS (pa_cons (pv 2) (pa_cons (pe_op op_sub (pv 3) pe_int) pa_nil))) (pa_cons (pv 6) pa_nil)))))) pss_nil))
      (pss_one (by exact (ps_ret (pe_tupS (pa_cons (C8.pe_c ck hr (by decide) rfl (pa_cons (pv 0) (pa_cons (pv 2) (pa_cons (pe_op op_sub (pv 3) pe_int) pa_nil)))) (pa_cons (pv 6) pa_nil))))))))))), ?_⟩
    refine ⟨_, rfl, _, rfl, v, u, d, e, rfl, hv, hu, fun hd H1 s1 => q1 hd H1 s1, fun hd he H1 s1 => q2 hd he H1 s1, fun c n ec hc en h1 hn wq H1 s1 ew => ?_⟩
    have qq := q c n ec hc en h1 hn
    have hB1 := hB c ec
    subst ec
    clear q q1 q2
    have cat1 : Cat H1 v c := (Th.same s1 _ hv).cat
    obtain ⟨ca, lb, rfl, hca, hlb⟩ := id cat1
    refine ⟨wq, _, rfl, SqT.of ew, rfl, _, _, rfl, _, _, rfl, rfl, ?_⟩
    have h12 := hc.2
    have hp := hc.pos
    have ok1 := it_cdOk (n - 1) hc
    have li : (it (n - 1) c).2.length = c.2.length := it_len _
    have g := len_grow (n - 1) hc.1 (it (n - 1) c).1
    have hx1 : (wd (it (n - 1) c)).1 < c.2.length := by
      rw [← li]
      exact ok1.1
    have hx2 : (wd (it (n - 1) c)).2 ≤ len c (wd (it (n - 1) c)).1 + n := by
      show len (it (n - 1) c) (it (n - 1) c).1 + 1 ≤ len c (it (n - 1) c).1 + n
      omega
    have hx3 : 1 ≤ (wd (it (n - 1) c)).2 := Nat.succ_pos _
    generalize wd (it (n - 1) c) = x at *
    have hlen : len c x.1 < 10 ^ 39 := by
      refine hB1 _ ?_
      show c.2.getD _ 0 ∈ c.2
      rw [List.getD_eq_getElem?_getD, List.getElem?_eq_getElem hx1]
      exact List.getElem_mem hx1
    have e39 : (10 : Nat) ^ 39 + 1000000000000000000 ≤ 10 ^ 40 := by decide
    have e49 : (10 : Nat) ^ 39 ≤ 10 ^ 49 := by decide
    have elast : ((x.1 : Int) + (x.2 : Int) - 1) % (c.2.length : Int) = ((lastOf c x : Nat) : Int) := by
      unfold lastOf
      rw [Int.natCast_emod]
      congr 1
      omega
    refine ⟨_, rfl, ca, _, rfl, SqT.of hca, rfl, _, _, rfl, _, _, rfl, rfl, ?_⟩
    refine ⟨_, rfl, _, rfl, _, _, rfl, rfl, _, _, rfl, rfl, _, rfl, lb, _, rfl, .inr (SqT.of hlb), _, _, rfl, rfl, (by rw [List.length_map]; omega), ?_⟩
    dsimp only
    rw [List.length_map, elast]
    refine ⟨_, rfl, rfl, _, rfl, ?_⟩
    by_cases g1 : x.2 = 1
    · rw [decide_eq_true (show V.int (x.2 : Int) = V.int 1 by rw [g1]; rfl)]
      refine iteT ?_
      refine ⟨_, rfl, (by show 2 ≤ sizeLine; decide), fun r H2 n2 s2 e2 => ?_⟩
      exact qq r _ H2 ((Ext.of hT s1).same s2) (.inl ⟨g1, rfl⟩) e2
    rw [decide_eq_false (show ¬ V.int (x.2 : Int) = V.int 1 from fun z => g1 (by have z2 := V.int.inj z; omega))]
    refine iteF ?_
    refine ⟨_, rfl, _, _, rfl, rfl, _, rfl, _, rfl, lb, _, (x.1 : Int), _, rfl, rfl, SqT.of hlb, atI_nat (nat_at hx1), _, _, rfl, rfl, _, rfl, ite2 (fun hd => ?_) (fun hd => ?_)⟩
    · have hd' := of_decide_eq_true hd
      have hd2 : (x.2 : Int) - 1 ≤ ((len c x.1 : Nat) : Int) := hd'
      refine ⟨_, rfl, _, rfl, _, _, rfl, rfl, (by show 2 ≤ sizeLine; decide), fun r1 H2 n2 s2 e2 => ?_⟩
      refine ⟨_, rfl, (by show 2 ≤ sizeLine; decide), fun r H3 n3 s3 e3 => ?_⟩
      dsimp only at e2
      rw [show ((x.2 : Int) - 1) = ((x.2 - 1 : Nat) : Int) by omega] at e2
      exact qq r _ H3 (((Ext.of hT s1).same s2).same s3) (.inr (.inl ⟨by omega, by omega, r1, rfl, s3 _ _ e2⟩)) e3
    · have hd2 : len c x.1 < x.2 - 1 := by
        refine Nat.lt_of_not_le fun g2 => hd (decide_eq_true ?_)
        show (x.2 : Int) - 1 ≤ ((len c x.1 : Nat) : Int)
        omega
      refine ⟨_, rfl, _, rfl, _, rfl, _, _, rfl, rfl, ?_⟩
      dsimp only [tNil, List.append_nil]
      rw [show ((x.2 : Int) - 1) = ((x.2 - 1 : Nat) : Int) by omega]
      refine ⟨.ref ca, c, x.1, x.2 - 1, rfl, cat1, hc, (fun y hy => by have := hB1 y hy; omega), hT.ext s1, hx1, by omega, fun m H2 e2 till => ?_⟩
      refine ⟨_, rfl, (by show 2 ≤ sizeLine; decide), fun r H3 n3 s3 e3 => ?_⟩
      exact qq r _ H3 (((Ext.of hT s1).trans e2).same s3) (.inr (.inr ⟨by omega, hd2, m, rfl, till⟩)) e3
end
end Lk
end
section
set_option maxRecDepth 100000
set_option maxHeartbeats 2000000
namespace Lk
open PySem PySem.Spec PyProof.Rows L2
section
variable {P : Program} {w : World} {K : PySem.W.Frag} {mg : Str → Option Value} {base : Heap}
abbrev nLK : List Str := ["coder", "_", "lengths", "length"]
theorem sc_lettersKnown : FnScope nLK ["coder"] (defScope s_letters_known) := ⟨rfl, rfl, rfl, by decide +kernel, rfl, by decide +kernel, by decide +kernel⟩
theorem ok_lettersKnown {f : Addr} {fd : FuncData} (F : Fun K "letters_known" "letters_known" s_letters_known f fd) (mu : mg "sum" = none) : FnOk P w K mg base CX0 1 f fd ["coder"] spLK := by
  refine F.ok sc_lettersKnown (fun vs H Q E h => ?_) (fun cdv A outer s H vs Q E hr h => ?_)
  · obtain ⟨v, c, rfl, _⟩ := h
    rfl
  · obtain ⟨v, c, rfl, ⟨a, b, rfl, ha, hb⟩, hc, hB, q⟩ := h
    have nd := sc_lettersKnown.nd
    have h12 := hc.2
    refine ⟨_, (pss_cons (by exact (ps_asg (pv 0) (pg_tup rfl (pgs_cons (pg_name (i := 1) nd rfl (Or.inl rfl)) (pgs_cons (pg_name (i := 2) nd rfl (Or.inl rfl)) pgs_nil)))))
      (pss_one (by exact (ps_ret (pe_callB (cr_sum rfl) (by rfl) mu (by decide +kernel) (pa_cons (pe_lc (own := [("length", 3)]) (g := (gName 3)) (tt := tYes) rfl nd (pi_tup (pv 2)) (blkOk_by (N := nLK) (sc := defScope s_letters_known) (by decide +kernel)) (fun _ _ _ _ _ => (pg_name (i := 3) nd rfl (Or.inl rfl))) (fun _ _ _ _ _ => pts_nil) (fun _ _ _ _ _ => (pe_op op_fdiv (pe_op op_mulW (pv 3) (pe_op op_add (pv 3) pe_int)) pe_int))) pa_nil)))))), ?_⟩
    refine ⟨_, rfl, a, _, rfl, SqT.of ha, rfl, _, _, rfl, _, _, rfl, rfl, ?_⟩
    refine ⟨_, rfl, b, rfl, ⟨_, SqT.of hb⟩, fun D nD => ?_⟩
    have lm : (c.2.map tri).length ≤ 1000000 := by rw [List.length_map]; omega
    refine lc_it walk_tup (fun i H3 => Same H H3 ∧ H3 D = some (.lst (((c.2.map tri).take i).map vN))) ⟨same_new nD, upd_same⟩ (fun i H3 _ p => SqT.of (p.1 _ _ hb)) ?_ ?_
    · rintro i x H3 H4 hi ⟨s3, e3⟩ ⟨rfl, hx⟩
      rw [List.length_map] at hi
      rw [nat_at hi] at hx
      cases hx
      have hx2 : (c.2.map tri)[i]? = some (tri (c.2.getD i 0)) := by
        rw [List.getElem?_map, List.getD_eq_getElem?_getD, List.getElem?_eq_getElem hi]
        rfl
      obtain ⟨acc, a1, a2, a3⟩ := snoc_map (f := vN) e3 hx2 lm
      have hl : c.2.getD i 0 < 10 ^ 60 := by
        refine hB _ ?_
        rw [List.getD_eq_getElem?_getD, List.getElem?_eq_getElem hi]
        exact List.getElem_mem hi
      have hw : CMulW ((c.2.getD i 0 : Nat) : Int) (((c.2.getD i 0 : Nat) : Int) + 1) := by
        have z : (10 : Nat) ^ 60 < 2 ^ 300 := by decide +kernel
        exact wide_mul (a := 300) (b := 300) (by omega) (by omega) (by decide) (by decide) (by decide)
      refine ⟨rfl, _, rfl, _, rfl, _, _, rfl, rfl, _, _, rfl, rfl, hw, _, _, rfl, rfl, ⟨by decide, by decide⟩, acc, a1, a2, same_push s3 nD, ?_⟩
      rw [show vN (tri (c.2.getD i 0)) = V.int (((c.2.getD i 0 : Nat) : Int) * (((c.2.getD i 0 : Nat) : Int) + 1) / 2) from ?_] at a3
      · exact a3
      · refine congrArg V.int ?_
        unfold tri
        rw [Int.natCast_ediv, Int.natCast_mul]
        rfl
    · rintro H3 ⟨s3, e3⟩
      rw [show (c.2.map vN).length = (c.2.map tri).length by rw [List.length_map, List.length_map], List.take_length] at e3
      refine ⟨D, c.2.map fun l => ((tri l : Nat) : Int), rfl, SqL.of (by rw [List.map_map]; rw [List.map_map] at e3; exact e3), ?_⟩
      exact q H3 s3
end
end Lk
end
section
set_option maxRecDepth 100000
set_option maxHeartbeats 2000000
namespace Lk
open PySem PySem.Spec PyProof.Rows L2
section
variable {P : Program} {w : World} {K : PySem.W.Frag} {mg : Str → Option Value} {base : Heap}
theorem sc_lettersBy : FnScope ["coder", "many"] ["coder", "many"] (defScope s_letters_by) := ⟨rfl, rfl, rfl, by decide +kernel, rfl, by decide +kernel, by decide +kernel⟩
theorem ok_lettersBy {f C1 C2 : Addr} {fd : FuncData} (F : Fun K "letters_by" "letters_by" s_letters_by f fd) (cb : CalX P w K mg base 5 "behind" (spOf C1 C2 1000000000000000000 toldCoder)) (ck : C8.Cal P w K mg base 1 "letters_known" spLK []) : FnOk P w K mg base (L2.CX P w) 6 f fd ["coder", "many"] (spLet C1 C2) := by
  refine F.okX sc_lettersBy (fun vs H Q E h => ?_) (fun cdv A outer s H vs Q E hr h => ?_)
  · obtain ⟨v, u, d, e, rfl, _⟩ := h
    rfl
  · obtain ⟨v0, u0, d, e, rfl, hv, hu, hB0, q1, q2, q⟩ := h
    have nd := sc_lettersBy.nd
    refine ⟨_, (pss_one (by exact (ps_ret (pe_op op_sub (C8.pe_c ck hr (by decide) rfl (pa_cons (pe_cX cb (takes_of rfl rfl rfl rfl) hr (by decide) rfl (pa_cons (pv 0) (pa_cons (pv 1) pa_nil))) pa_nil)) (C8.pe_c ck hr (by decide) rfl (pa_cons (pv 0) pa_nil)))))), ?_⟩
    refine ⟨_, rfl, _, rfl, v0, u0, d, e, rfl, hv, hu, q1, q2, fun c n ec hc en hn => fun v2 H2 s2 cat2 => ?_⟩
    subst ec
    have c0 : Cat H v0 c := hv.cat
    have hB := hB0 c rfl
    have ok2 := it_cdOk n hc
    refine ⟨v2, it n c, rfl, cat2, ok2, fun x hx => ?_, fun H3 s3 => ?_⟩
    · have z := it_bound hc.1 hB n x hx
      have z2 : (10 : Nat) ^ 40 + 1000000000000000000 < 10 ^ 60 := by decide +kernel
      omega
    · refine ⟨_, rfl, v0, c, rfl, (c0.same s2).same s3, hc, fun x hx => Nat.lt_trans (hB x hx) (by decide +kernel), fun H4 s4 => ?_⟩
      refine ⟨_, _, rfl, rfl, ?_⟩
      exact q c n rfl hc en hn H4 (s2.trans (s3.trans s4))
end
end Lk
end
section
set_option maxRecDepth 100000
set_option maxHeartbeats 2000000
namespace Lk
open PySem PySem.Spec PyProof.Rows L2
section
variable {P : Program} {w : World} {K : PySem.W.Frag} {mg : Str → Option Value} {base : Heap}
abbrev nLo : List Str := ["coder", "many", "_", "lengths"]
theorem sc_longest : FnScope nLo ["coder", "many"] (defScope s_longest_by) := ⟨rfl, rfl, rfl, by decide +kernel, rfl, by decide +kernel, by decide +kernel⟩
theorem ok_longest {f C1 C2 : Addr} {fd : FuncData} (F : Fun K "longest_by" "longest_by" s_longest_by f fd) (cb : CalX P w K mg base 5 "behind" (spOf C1 C2 1000000000000000000 toldCoder)) (mx : mg "max" = none) : FnOk P w K mg base (L2.CX P w) 6 f fd ["coder", "many"] (spOf C1 C2 1000000000000000000 toldMax) := by
  refine F.okX sc_longest (fun vs H Q E h => ?_) (fun cdv A outer s H vs Q E hr h => ?_)
  · obtain ⟨v, u, d, e, rfl, _⟩ := h
    rfl
  · obtain ⟨v, u, d, e, rfl, hv, hu, q1, q2, q⟩ := h
    have nd := sc_longest.nd
    refine ⟨_, (pss_cons (by exact (ps_asg (pe_cX cb (takes_of rfl rfl rfl rfl) hr (by decide) rfl (pa_cons (pv 0) (pa_cons (pv 1) pa_nil))) (pg_tup rfl (pgs_cons (pg_name (i := 2) nd rfl (Or.inl rfl)) (pgs_cons (pg_name (i := 3) nd rfl (Or.inl rfl)) pgs_nil)))))
      (pss_one (by exact (ps_ret (pe_callB (cr_maxT rfl) (by rfl) mx (by decide +kernel) (pa_cons (pv 3) pa_nil)))))), ?_⟩
    refine ⟨_, rfl, _, rfl, v, u, d, e, rfl, hv, hu, q1, q2, fun c n ec hc en hn => fun v2 H2 s2 cat2 => ?_⟩
    have ok2 := it_cdOk n hc
    obtain ⟨a, b, rfl, ha, hb⟩ := id cat2
    refine ⟨a, _, rfl, SqT.of ha, rfl, _, _, rfl, _, _, rfl, rfl, ?_⟩
    refine ⟨_, rfl, b, (it n c).2.map fun n => ((n : Nat) : Int), rfl, SqT.of (by rw [← ints_vN]; exact hb), (by rw [List.length_map]; exact ok2.pos), fun m h1 h2 => ?_⟩
    obtain ⟨k, rfl, hk⟩ := isMax_of h1 h2
    exact q c n ec hc en hn k H2 hk s2
end
end Lk
end
section
set_option maxRecDepth 100000
set_option maxHeartbeats 2000000
namespace Lk
open PySem PySem.Spec PyProof.Rows L2 LamX NdefX
section
variable {P : Program} {w : World} {K : PySem.W.Frag} {mg : Str → Option Value} {base : Heap}
abbrev nNA : List Str := ["coder", "letter", "due"]
theorem sc_numberAt : FnScope nNA ["coder", "letter"] (defScope s_number_at) := ⟨rfl, rfl, rfl, by decide +kernel, rfl, by decide +kernel, by decide +kernel⟩
def tlNA (ws : List (Option V)) : TL := fun v H Q => ∃ due : Int, ws = [some (.int due)] ∧ ∃ p, tlR (letB due) p v H Q
theorem ok_numberAt {f c PT C1 C2 : Addr} {fd : FuncData} {T : List (Addr × Str)} (F : FunC K "number_at" "number_at" s_number_at f fd c) (TBc : TabB base mg c PT) (hmT : (PT, ("number_at" ++ ".<locals>." : Str) ++ "<lambda>") ∈ T) (hu : ∀ p ∈ T, p.1 = PT → p.2 = ("number_at" ++ ".<locals>." : Str) ++ "<lambda>")
    (cr : CalX P w K mg base 4 "refuse_no_coder" (spRefCoder C1)) (cc : CalX P w K mg base 3 "refuse_no_count" (spCount C2)) (clk : C8.Cal P w K mg base 1 "letters_known" spLK []) (cst : CalA P w K mg base 3 5 "steps_till" spSteps) {tp : Tok} (mp : mg "MOST_LETTER" = some (.int 1000000000000000000000000000000000000 tp)) :
    FnOk P w K mg base (L2.CX P w) 6 f fd ["coder", "letter"] (spNumAt C1 C2 T) := by
  refine F.okX sc_numberAt (fun vs H Q E h => ?_) (fun A outer s H vs Q E hr h => ?_)
  · obtain ⟨v, u, d, e, rfl, _⟩ := h
    rfl
  · obtain ⟨v, u, d, e, rfl, hv, hu', hT, hB, q1, q2, q⟩ := h
    have nd := sc_numberAt.nd
    refine ⟨_, (pss_cons (by exact (ps_expr (pe_cX cr (takes_of rfl rfl rfl rfl) hr (by decide) rfl (pa_cons (pv 0) pa_nil))))
      (pss_cons (by exact (ps_expr (pe_cX cc (takes_of rfl rfl rfl rfl) hr (by decide) rfl (pa_cons (pv 1) (pa_cons pe_int (pa_cons (pe_glob (v := .int 1000000000000000000000000000000000000) rfl mp ⟨_, rfl⟩) pa_nil))))))
      (pss_cons (by exact (ps_set (i := 2) nd rfl (Or.inr rfl) (pe_op op_add (C8.pe_c clk hr (by decide) rfl (pa_cons (pv 0) pa_nil)) (pv 1))))
      (pss_one (by exact (ps_ret (pe_lamA (kb := 2) (N := ["later", "due"]) (fr := ["due"]) (js := [2]) (y := "later") (T := T) (tl := tlNA) cst hr (by decide) (by decide) rfl (pv 0) TBc rfl hmT hu rfl (by show ndefB (defScope s_number_at) _ _ = true; decide +kernel) rfl (nscope_by (by decide +kernel)) (fun _ _ _ _ _ _ => rfl) (fun ws f2 c2 cl A2 outer2 s2 H2 v2 Q2 hr2 ht => by obtain ⟨due, hws, pp, cc2, cat2, ok2, hl2, hb2, q2⟩ := ht; subst hws; exact ⟨_, pe_cmpR op_gt (C8.pe_c clk hr2 (by decide) rfl (pa_cons (pv 0) pa_nil)) (pv 1) (nomark _), ⟨_, rfl, v2, cc2, rfl, cat2, ok2, hb2, fun H3 s3 => ⟨_, rfl, _, _, rfl, rfl, q2 H3 s3⟩⟩⟩)))))))), ?_⟩
    refine ⟨_, rfl, v, d, rfl, hv, fun hd H1 s1 => ?_, fun hd H1 s1 => q1 hd H1 s1⟩
    have e36 : (1000000000000000000000000000000000000 : Nat) = 10 ^ 36 := by decide
    refine ⟨_, rfl, u, e, 0, 1000000000000000000000000000000000000, rfl, .inr (.inr (.inr (.inr (.inr ⟨rfl, by decide⟩)))), Th.same s1 e hu', fun he => ?_, fun he => q2 hd he H1 s1⟩
    obtain ⟨c1, rfl, hc⟩ := isCd_of hd
    obtain ⟨n, rfl, hn⟩ := count_of (m := 1000000000000000000000000000000000000) he
    rw [e36] at hn
    have qq := q c1 n rfl hc rfl hn
    have hB1 := hB c1 rfl
    clear q q1 q2
    have cat1 : Cat H1 v c1 := (Th.same s1 _ hv).cat
    have eu : u = .int (n : Int) := by cases hu'; rfl
    subst eu
    have e60 : (10 : Nat) ^ 49 ≤ 10 ^ 60 := by decide
    refine ⟨_, rfl, v, c1, rfl, cat1, hc, (fun x hx => by have := hB1 x hx; omega), fun H2 s2 => ?_⟩
    refine ⟨_, rfl, _, _, rfl, rfl, _, rfl, (hT.ext s1).ext s2, fun c' H3 eN T3 hco => ?_⟩
    have e40 : (10 : Nat) ^ 36 + 1 ≤ 10 ^ 40 := by decide
    have eX : Ext T H H3 := ((Ext.of hT s1).same s2).trans ⟨eN, T3⟩
    exact ⟨v, c1, letB (lkI c1.2 + (n : Int)), c', _, n + 1, rfl, fun v H Q h => ⟨h.1, _, rfl, _, h.2⟩, hco, (cat1.same s2).ext (T := T) ⟨eN, T3⟩, hc, hB1, letB_rea _ _, by omega, letB_ev hc.pos n, fun m H4 s4 till => qq m H4 (eX.same s4) till⟩
end
end Lk
end
section
set_option maxRecDepth 100000
set_option maxHeartbeats 2000000
namespace Lk
open PySem PySem.Spec PyProof.Rows L2
section
variable {P : Program} {w : World} {K : PySem.W.Frag} {mg : Str → Option Value} {base : Heap}
abbrev nPot : List Str := ["script", "k", "cell"]
theorem sc_pot : FnScope nPot ["script", "k"] (defScope s_law_pot) := ⟨rfl, rfl, rfl, by decide +kernel, rfl, by decide +kernel, by decide +kernel⟩
theorem ok_pot {f : Addr} {fd : FuncData} (F : Fun K "_law_pot" "_law_pot" s_law_pot f fd) (mmax : mg "max" = none) (ml : mg "len" = none) : FnOk P w K mg base CX0 1 f fd ["script", "k"] (spPot K) := by
  refine F.ok sc_pot (fun vs H Q E h => ?_) (fun cdv A outer s H vs Q E hr h => ?_)
  · obtain ⟨S, ns, k, rfl, _⟩ := h
    rfl
  · obtain ⟨S, ns, k, rfl, hS, hk, hl, q⟩ := h
    have nd := sc_pot.nd
    refine ⟨_, (pss_cons (by exact (ps_set (i := 2) nd rfl (Or.inl rfl) pe_int))
      (C8.pss_cut (by exact (ps_if (pt_cmpR op_lt (pv 1) (pe_callB call_len_seq (by rfl) ml PySem.boot_len (pa_cons (pv 0) pa_nil)) (nomark _)) (pss_one (by exact (ps_set (i := 2) nd rfl (Or.inl rfl) (pe_ix ix_list (pv 0) (pv 1) (fun _ _ => rfl))))) pss_nil))
      (pss_one (by exact (ps_ret (pe_lstS (pa_cons (pe_callB (call_max2 rfl) (by rfl) mmax (by decide +kernel) (pa_cons pe_int (pa_cons (pe_op op_sub (pv 2) (pe_op op_pow pe_int pe_int)) pa_nil))) (pa_cons (pe_op op_add (pe_op op_add (pe_op op_mul (pe_op op_mod (pv 2) (pe_op op_add (pe_op op_pow pe_int pe_int) pe_int)) pe_int) (pv 1)) pe_int) (pa_cons pe_int pa_nil))))))))), ?_⟩
    refine ⟨fun σ' H' => ∃ c : Int, σ' = [some (.ref S), some (.int (k : Int)), some (.int c)] ∧ H' = H, ?_, ?_⟩
    · refine ⟨_, rfl, _, rfl, S, _, rfl, .inl hS, _, _, rfl, rfl, _, rfl, ite2 (fun e => ?_) (fun e => ?_)⟩
      · have e2 := of_decide_eq_true e
        rw [List.length_map] at e2
        have hk2 : k < ns.length := by omega
        have at1 : (ns.map V.int)[k]? = some (V.int ns[k]) := by rw [List.getElem?_map, List.getElem?_eq_getElem hk2]; rfl
        exact ⟨_, rfl, _, rfl, S, _, (k : Int), _, rfl, rfl, hS, atI_nat at1, _, rfl, rfl⟩
      · exact ⟨0, rfl, rfl⟩
    · rintro σ0 H2 ⟨c, rfl, rfl⟩
      have e34 : (0 : Int) < 10 ^ (34 : Int).toNat + 193 := by decide
      refine ⟨_, rfl, _, _, rfl, rfl, ⟨by decide, by decide, by decide⟩, _, _, rfl, rfl, _, _, rfl, _, rfl, _, _, rfl, rfl, ⟨by decide, by decide, by decide⟩, _, _, rfl, rfl, _, _, rfl, rfl, e34, _, _, rfl, rfl, .inr ⟨by decide, by decide⟩, _, rfl, _, _, rfl, rfl, _, _, rfl, rfl, (by show 3 ≤ sizeLine; decide), fun p H1 n1 s1 e1 => q p H1 n1 s1 ⟨_, _, 0, e1, ?_, ?_, by decide, by decide⟩⟩
      · have z := Int.emod_nonneg c (show (10 ^ (34 : Int).toNat + 193 : Int) ≠ 0 by decide)
        omega
      · have z := Int.emod_lt_of_pos c e34
        have z2 : ((10 : Int) ^ (34 : Int).toNat + 193) * 64 + 64 < 10 ^ 36 := by decide
        omega
abbrev nDraw : List Str := ["pot", "many", "found", "mixed"]
theorem sc_draw : FnScope nDraw ["pot", "many"] (defScope s_law_draw) := ⟨rfl, rfl, rfl, by decide +kernel, rfl, by decide +kernel, by decide +kernel⟩
theorem ok_draw {f : Addr} {fd : FuncData} (F : Fun K "_law_draw" "_law_draw" s_law_draw f fd) : FnOk P w K mg base CX0 1 f fd ["pot", "many"] spPull := by
  refine F.ok sc_draw (fun vs H Q E h => ?_) (fun cdv A outer s H vs Q E hr h => ?_)
  · obtain ⟨a, m, n, rfl, _⟩ := h
    rfl
  · obtain ⟨a, m, n, rfl, ⟨u0, u1, u2, hb, g1, l1, g2, l2⟩, hn, h0, h1, q⟩ := h
    have nd := sc_draw.nd
    refine ⟨_, (pss_cons (by exact (ps_if (pt_cmpR op_gt (pe_ix ix_list (pv 0) pe_int (fun _ _ => rfl)) pe_int (nomark _)) (pss_cons (by exact (ps_set (i := 2) nd rfl (Or.inl rfl) (pe_op op_mod (pe_ix ix_list (pv 0) pe_int (fun _ _ => rfl)) (pv 1))))
      (pss_cons (by exact (ps_asg (pe_op op_fdivW (pe_ix ix_list (pv 0) pe_int (fun _ _ => rfl)) (pv 1)) (pg_sub (pv 0) pe_int set_list)))
      (pss_one (by exact (ps_ret (pv 2)))))) pss_nil))
      (pss_cons (by exact (ps_asg (pe_op op_add (pe_ix ix_list (pv 0) pe_int (fun _ _ => rfl)) pe_int) (pg_sub (pv 0) pe_int set_list)))
      (pss_cons (by exact (ps_set (i := 3) nd rfl (Or.inl rfl) (pe_op op_mod (pe_op op_powW (pe_op op_add (pe_ix ix_list (pv 0) pe_int (fun _ _ => rfl)) (pe_op op_mul pe_int (pe_ix ix_list (pv 0) pe_int (fun _ _ => rfl)))) pe_int) (pe_op op_add (pe_op op_pow pe_int pe_int) pe_int))))
      (pss_cons (by exact (ps_set (i := 3) nd rfl (Or.inl rfl) (pe_op op_mod (pe_op op_powW (pe_op op_add (pv 3) (pe_op op_mul pe_int (pe_ix ix_list (pv 0) pe_int (fun _ _ => rfl)))) pe_int) (pe_op op_add (pe_op op_pow pe_int pe_int) pe_int))))
      (pss_one (by exact (ps_ret (pe_op op_mod (pe_op op_fdiv (pv 3) pe_int) (pv 1))))))))), ?_⟩
    refine ⟨_, rfl, a, _, 0, .int u0, rfl, rfl, SqL.of hb, rfl, _, _, rfl, rfl, _, rfl, ite2 (fun c => ?_) (fun c => ?_)⟩
    · refine ⟨_, rfl, a, _, 0, .int u0, rfl, rfl, SqL.of hb, rfl, _, rfl, _, _, rfl, rfl, h0, ?_⟩
      refine ⟨_, rfl, a, _, 0, .int u0, rfl, rfl, SqL.of hb, rfl, _, rfl, _, _, rfl, rfl, pick_div h0 h1, _, rfl, a, _, 0, 0, rfl, rfl, hb, rfl, ?_⟩
      refine ⟨_, rfl, ?_⟩
      refine q _ _ (Int.emod_nonneg _ (by omega)) (Int.emod_lt_of_pos _ h0) ⟨u0 / m, u1, u2, upd_same, g1, l1, g2, by omega⟩ fun p o n e => ?_
      rw [upd_ne n]
      exact e
    · refine ⟨_, rfl, a, _, 2, .int u2, rfl, rfl, SqL.of hb, rfl, _, _, rfl, rfl, _, rfl, a, _, 2, 2, rfl, rfl, hb, rfl, ?_⟩
      have e38 : (0 : Int) < 10 ^ (37 : Int).toNat + 43 := by decide
      have e36 : (0 : Int) < 10 ^ (36 : Int).toNat + 67 := by decide
      have b1 : (u1 + 982451629 * (u2 + 1)).natAbs < 2 ^ 1000 := by
        have z : (2 : Nat) ^ 1000 > 10 ^ 40 := by decide +kernel
        omega
      refine ⟨_, rfl, a, _, 1, .int u1, rfl, rfl, SqL.of upd_same, rfl, _, rfl, a, _, 2, .int (u2 + 1), rfl, rfl, SqL.of upd_same, rfl, _, _, rfl, rfl, .inl ⟨by decide, by decide⟩, _, _, rfl, rfl, _, _, rfl, rfl, ⟨by decide, by decide, b1⟩, _, _, rfl, rfl, ⟨by decide, by decide, by decide⟩, _, _, rfl, rfl, _, _, rfl, rfl, e38, ?_⟩
      dsimp only
      generalize hF : ((u1 + 982451629 * (u2 + 1)) ^ (3 : Int).toNat % (10 ^ (37 : Int).toNat + 43) : Int) = F1
      have hF0 : 0 ≤ F1 := by rw [← hF]; exact Int.emod_nonneg _ (by omega)
      have hF1 : F1 < 10 ^ (37 : Int).toNat + 43 := by rw [← hF]; exact Int.emod_lt_of_pos _ e38
      have hF2 : F1 < 10 ^ 39 := Int.lt_trans hF1 (by decide)
      have b2 : (F1 + 15485917 * (u2 + 1)).natAbs < 2 ^ 1000 := by
        have z : (2 : Nat) ^ 1000 > 10 ^ 40 := by decide +kernel
        omega
      refine ⟨_, rfl, _, rfl, a, _, 2, .int (u2 + 1), rfl, rfl, SqL.of upd_same, rfl, _, _, rfl, rfl, .inl ⟨by decide, by decide⟩, _, _, rfl, rfl, _, _, rfl, rfl, ⟨by decide, by decide, b2⟩, _, _, rfl, rfl, ⟨by decide, by decide, by decide⟩, _, _, rfl, rfl, _, _, rfl, rfl, e36, ?_⟩
      refine ⟨_, rfl, _, _, rfl, rfl, ⟨by decide, by decide⟩, _, rfl, _, _, rfl, rfl, h0, ?_⟩
      exact q _ _ (Int.emod_nonneg _ (by omega)) (Int.emod_lt_of_pos _ h0) ⟨u0, u1, u2 + 1, upd_same, g1, l1, by omega, by omega⟩ sameBut_upd
end
end Lk
end
section
set_option maxRecDepth 100000
set_option maxHeartbeats 4000000
namespace Lk
open PySem PySem.Spec PyProof.Rows L2
section
variable {P : Program} {w : World} {K : PySem.W.Frag} {mg : Str → Option Value} {base : Heap}
abbrev nFc : List Str := ["pot", "size", "kind", "lengths", "k", "some"]
theorem sc_fcoder : FnScope nFc ["pot"] (defScope s_law_coder) := ⟨rfl, rfl, rfl, by decide +kernel, rfl, by decide +kernel, by decide +kernel⟩
theorem ok_fcoder {f : Addr} {fd : FuncData} (F : Fun K "_law_coder" "_law_coder" s_law_coder f fd) (pull : C8.Cal P w K mg base 1 "_law_draw" spPull []) (mr : mg "range" = none) (mt : mg "tuple" = none) : FnOk P w K mg base CX0 2 f fd ["pot"] spFCoder := by
  refine F.ok sc_fcoder (fun vs H Q E h => ?_) (fun cdv A outer s H vs Q E hr h => ?_)
  · obtain ⟨a, n, rfl, _⟩ := h
    rfl
  · obtain ⟨a, n, rfl, hb, hn, q⟩ := h
    have nd := sc_fcoder.nd
    refine ⟨_, (pss_cons (by exact (ps_set (i := 1) nd rfl (Or.inl rfl) (pe_op op_add pe_int (C8.pe_c pull hr (by decide) rfl (pa_cons (pv 0) (pa_cons (pe_ix ix_list (pe_lstS (pa_cons pe_int (pa_cons pe_int (pa_cons pe_int pa_nil)))) (C8.pe_c pull hr (by decide) rfl (pa_cons (pv 0) (pa_cons pe_int pa_nil))) (fun _ _ => rfl)) pa_nil))))))
      (pss_cons (by exact (ps_set (i := 2) nd rfl (Or.inl rfl) (C8.pe_c pull hr (by decide) rfl (pa_cons (pv 0) (pa_cons pe_int pa_nil)))))
      (pss_cons (by exact (ps_set (i := 3) nd rfl (Or.inl rfl) (pe_lstS pa_nil)))
      (pss_cons (by exact (ps_for PassesOwn.never rfl (pi_range1 (by rfl) mr (pa_cons (pv 1) pa_nil)) (pg_name (i := 4) nd rfl (Or.inl rfl)) (C8.pss_cut (by exact (ps_set (i := 5) nd rfl (Or.inl rfl) (pe_lstS (pa_cons pe_int (pa_cons (C8.pe_c pull hr (by decide) rfl (pa_cons (pv 0) (pa_cons pe_int pa_nil))) (pa_cons (C8.pe_c pull hr (by decide) rfl (pa_cons (pv 0) (pa_cons pe_int pa_nil))) (pa_cons (C8.pe_c pull hr (by decide) rfl (pa_cons (pv 0) (pa_cons (pe_op op_add (pe_op op_pow pe_int pe_int) pe_int) pa_nil))) pa_nil)))))))
      (pss_one (by exact (ps_expr (pe_bm PySem.F.plainAttrs_list PySem.F.slot_list_append PySem.F.type_list_append mt_append (pv 3) (pa_cons (pe_ifExp (pt_cmpR op_lt (pv 2) pe_int (nomark _)) (pe_ix ix_list (pv 5) (pv 2) (fun _ _ => rfl)) (pe_ix ix_list (pv 5) (C8.pe_c pull hr (by decide) rfl (pa_cons (pv 0) (pa_cons pe_int pa_nil))) (fun _ _ => rfl))) pa_nil))))))))
      (pss_one (by exact (ps_ret (pe_tupS (pa_cons (C8.pe_c pull hr (by decide) rfl (pa_cons (pv 0) (pa_cons (pv 1) pa_nil))) (pa_cons (pe_callTy call_tupS (by rfl) mt (by decide +kernel) (pa_cons (pv 3) pa_nil)) pa_nil)))))))))), ?_⟩
    have big : (12 : Int) ≤ 10 ^ 40 := by decide
    refine ⟨_, rfl, (by show 3 ≤ sizeLine; decide), fun L1 H1 nL1 s1 eL1 => ?_⟩
    have naL1 := hb.ne nL1
    refine ⟨_, rfl, a, 3, _, rfl, hb.same s1, by omega, by decide, by decide, fun v0 H2 f0 f3 b2 sb2 => ?_⟩
    have eL1' := sb2 L1 _ naL1.symm eL1
    obtain ⟨m, m1, m12, hm⟩ : ∃ m : Int, 1 ≤ m ∧ m ≤ 12 ∧ ([V.int 3, V.int 6, V.int 12] : List V)[v0.toNat]? = some (V.int m) := by
      obtain ⟨j, rfl⟩ := Int.eq_ofNat_of_zero_le f0
      match j, f3 with
      | 0, _ => exact ⟨3, by decide, by decide, rfl⟩
      | 1, _ => exact ⟨6, by decide, by decide, rfl⟩
      | 2, _ => exact ⟨12, by decide, by decide, rfl⟩
      | j + 3, z => exact absurd z (by omega)
    refine ⟨L1, _, v0, V.int m, rfl, rfl, SqL.of eL1', ?_, ?_⟩
    · rw [show v0 = ((v0.toNat : Nat) : Int) by omega]
      exact atI_nat hm
    refine ⟨a, m, _, rfl, b2, by omega, by omega, by omega, fun v1 H3 g0 g1 b3 sb3 => ?_⟩
    obtain ⟨p, hp⟩ : ∃ p : Nat, 1 + v1 = (p : Int) := ⟨(1 + v1).toNat, by omega⟩
    refine ⟨_, v1, rfl, rfl, ?_⟩
    dsimp only
    rw [hp]
    have hp1 : 1 ≤ p := by omega
    have hp12 : p ≤ 12 := by omega
    refine ⟨_, rfl, a, 5, _, rfl, b3, by omega, by decide, by decide, fun kind H4 w0 w5 b4 sb4 => ?_⟩
    refine ⟨(by show 0 ≤ sizeLine; decide), fun D H5 nD s5 eD => ?_⟩
    have naD := b4.ne nD
    have sb04 : SameBut a H H4 := ((but_of s1).trans sb2).trans (sb3.trans sb4)
    have nD0 : H D = none := by
      cases e : H D with
      | none => rfl
      | some o => exact absurd (sb04 D o naD.symm e) (by rw [nD]; exact fun z => nomatch z)
    refine ⟨_, rfl, (p : Int), rfl, by omega, by omega, ?_⟩
    rw [Int.toNat_natCast]
    refine for_range (lo := 0) (n := p) (fun i σ H6 => ∃ y4 y5, σ = [some (.ref a), some (.int (p : Int)), some (.int kind), some (.ref D), y4, y5] ∧ ∃ ls : List Nat, ls.length = i ∧ (∀ x ∈ ls, x ≤ 10 ^ 30) ∧ H6 D = some (.lst (ls.map vN)) ∧ Urn H6 a (n + 3 + 4 * (i : Int)) ∧ SameBut a H H6)
      ⟨none, none, rfl, [], rfl, (fun _ h => nomatch h), eD, (b4.same s5).le (by omega), sb04.trans (but_of s5)⟩ ?_ ?_
    · rintro i σ H6 hi ⟨y4, y5, rfl, ls, hl, hls, eD6, b6, sb6⟩
      have lls : ls.length < sizeLine := Nat.lt_of_lt_of_le (show ls.length < 13 by omega) (by decide)
      refine ⟨fun σ' H' => ∃ (S : Addr) (ms : List Nat), σ' = [some (.ref a), some (.int (p : Int)), some (.int kind), some (.ref D), some (.int (0 + (i : Int))), some (.ref S)] ∧ H' S = some (.lst (ms.map vN)) ∧ S ≠ a ∧ S ≠ D ∧ ms.length = 4 ∧ (∀ x ∈ ms, x ≤ 10 ^ 30) ∧ H' D = some (.lst (ls.map vN)) ∧ Urn H' a (n + 3 + 4 * (i : Int) + 3) ∧ SameBut a H H', ?_, ?_⟩
      · refine ⟨_, rfl, a, 3, _, rfl, b6, by omega, by decide, by decide, fun x1 H7 c0 c1 b7 sb7 => ?_⟩
        refine ⟨_, rfl, a, 40, _, rfl, b7, by omega, by decide, by decide, fun x2 H8 d0 d1 b8 sb8 => ?_⟩
        refine ⟨_, rfl, _, _, rfl, rfl, ⟨by decide, by decide, by decide⟩, _, _, rfl, rfl, a, _, _, rfl, b8, by omega, by decide, by decide, fun x3 H9 h0 h1 b9 sb9 => ?_⟩
        refine ⟨(by show 4 ≤ sizeLine; decide), fun S H10 nS s10 eS => ?_⟩
        obtain ⟨k1, rfl⟩ := Int.eq_ofNat_of_zero_le c0
        obtain ⟨k2, rfl⟩ := Int.eq_ofNat_of_zero_le d0
        obtain ⟨k3, rfl⟩ := Int.eq_ofNat_of_zero_le h0
        have sb69 : SameBut a H6 H9 := (sb7.trans sb8).trans sb9
        have eD9 := sb69 D _ naD.symm eD6
        have h1' : (k3 : Int) < 1000000000000000000000000000001 := h1
        refine ⟨S, [0, k1, k2, k3], rfl, eS, (b9.ne nS).symm, (ne_of_none eD9 nS).symm, rfl, ?_, s10 _ _ eD9, (b9.same s10).le (by omega), (sb6.trans sb69).trans (but_of s10)⟩
        intro x hx
        simp only [List.mem_cons, List.not_mem_nil, or_false] at hx
        rcases hx with rfl | rfl | rfl | rfl <;> omega
      · rintro σ1 H7 ⟨S, ms, rfl, eS, nSa, nSD, lm, hms, eD7, b7, sb7⟩
        have getm : ∀ j : Int, 0 ≤ j → j < 4 → ∃ x : Nat, x ≤ 10 ^ 30 ∧ (ms.map vN)[j.toNat]? = some (vN x) := fun j j0 j4 => by
          have hj : j.toNat < ms.length := by omega
          exact ⟨ms[j.toNat], hms _ (List.getElem_mem hj), by rw [List.getElem?_map, List.getElem?_eq_getElem hj]; rfl⟩
        have fin : ∀ (x : Nat) (H8 : Hp), x ≤ 10 ^ 30 → H8 D = some (.lst (ls.map vN)) → Urn H8 a (n + 3 + 4 * (i : Int) + 4) → SameBut a H H8 → (∃ y4 y5, ([some (.ref a), some (.int (p : Int)), some (.int kind), some (.ref D), some (.int (0 + (i : Int))), some (.ref S)] : L2.St) = [some (.ref a), some (.int (p : Int)), some (.int kind), some (.ref D), y4, y5] ∧ ∃ ls' : List Nat, ls'.length = i + 1 ∧ (∀ x ∈ ls', x ≤ 10 ^ 30) ∧ (upd H8 D (.lst (ls.map vN ++ [V.int (x : Int)]))) D = some (.lst (ls'.map vN)) ∧ Urn (upd H8 D (.lst (ls.map vN ++ [V.int (x : Int)]))) a (n + 3 + 4 * ((i + 1 : Nat) : Int)) ∧ SameBut a H (upd H8 D (.lst (ls.map vN ++ [V.int (x : Int)])))) := fun x H8 hx e8 b8 sb8 => by
          refine ⟨_, _, rfl, ls ++ [x], by rw [List.length_append, hl]; rfl, fun y hy => ?_, by rw [upd_same, List.map_append]; rfl, ?_, fun b o nb e => ?_⟩
          · rcases List.mem_append.mp hy with h | h
            · exact hls y h
            · rw [List.mem_singleton.mp h]
              exact hx
          · obtain ⟨u0, u1, u2, e, r1, r2, r3, r4⟩ := b8
            exact ⟨u0, u1, u2, by rw [upd_ne naD]; exact e, r1, r2, r3, by push_cast; omega⟩
          · rw [upd_ne (ne_of_none e nD0)]
            exact sb8 b o nb e
        refine ⟨_, rfl, .inl ⟨rfl, _, SqL.of eD7⟩, ?_⟩
        refine ⟨_, rfl, _, _, rfl, rfl, _, rfl, ite2 (fun e => ?_) (fun e => ?_)⟩
        · have e4 := of_decide_eq_true e
          obtain ⟨x, hx, gx⟩ := getm kind w0 e4
          refine ⟨_, rfl, _, rfl, S, _, kind, vN x, rfl, rfl, SqL.of eS, ?_, ?_⟩
          · rw [show kind = ((kind.toNat : Nat) : Int) by omega]
            exact atI_nat gx
          exact ⟨D, _, _, rfl, rfl, eD7, by rw [List.length_map]; omega, fin x H7 hx eD7 (b7.le (by omega)) sb7⟩
        · refine ⟨_, rfl, _, rfl, a, 4, _, rfl, b7, by omega, by decide, by decide, fun j H8 j0 j4 b8 sb8 => ?_⟩
          obtain ⟨x, hx, gx⟩ := getm j j0 j4
          refine ⟨S, _, j, vN x, rfl, rfl, SqL.of (sb8 S _ nSa eS), ?_, ?_⟩
          · rw [show j = ((j.toNat : Nat) : Int) by omega]
            exact atI_nat gx
          have eD8 := sb8 D _ naD.symm eD7
          exact ⟨D, _, _, rfl, rfl, eD8, by rw [List.length_map]; omega, fin x H8 hx eD8 (b8.le (by omega)) (sb7.trans sb8)⟩
    · rintro σ H6 ⟨y4, y5, rfl, ls, hl, hls, eD6, b6, sb6⟩
      refine ⟨_, rfl, _, rfl, a, (p : Int), _, rfl, b6, by omega, by omega, by omega, fun k0 H7 k1 k2 b7 sb7 => ?_⟩
      obtain ⟨k, rfl⟩ := Int.eq_ofNat_of_zero_le k1
      refine ⟨_, rfl, D, _, rfl, .inl ⟨sb7 D _ naD.symm eD6, fun T H8 nT w8 eT => ⟨(by show 2 ≤ sizeLine; decide), fun U H9 nU w9 eU => ?_⟩⟩⟩
      refine q (.ref U) (k, ls) H9 ⟨(by show k < ls.length; omega), (by show ls.length ≤ 12; omega)⟩ hls (((b7.same w8).same w9).le (by omega)) ((sb6.trans sb7).trans (but_of (Same.trans w8 w9))) ⟨U, T, rfl, eU, w9 _ _ eT⟩
end
end Lk
end
section
set_option maxRecDepth 100000
set_option maxHeartbeats 2000000
/-! All classes of errors, seen from one. -/
namespace Lk
open PySem PySem.Spec PyProof.Rows L2
def ernL : List Str := ["NoKnown", "NoText", "NoPairs", "NoLoop", "NoCoder", "NoCount", "NotRound", "NoTree", "NoSign", "NotLike", "NoPlace", "NoCounts", "NoWord", "Nothing", "NoLog", "NoRow"]
/-- all classes of errors, seen from the one at CL, whose name is nm -/
structure Errs16 (K : PySem.W.Frag) (mg : Str → Option Value) (CL : Addr) (nm : Str) : Prop where
  C : ExcC K CL
  ve : mg "ValueError" = none
  yes : PySem.W.kitOne K (.ref CL) (.type "ValueError") = some true
  iso : mg "isinstance" = none
  e : ∀ x ∈ ernL, IsB K mg CL x (decide (x = nm))
end Lk
end
section
set_option maxRecDepth 100000
set_option maxHeartbeats 4000000
namespace Lk
open PySem PySem.Spec PyProof.Rows L2
section
variable {P : Program} {w : World} {K : PySem.W.Frag} {mg : Str → Option Value} {base : Heap}
theorem at_no {o : Option Bool} {b c : Bool} (h : o = some b) (e : b = c) : o = some c := by rw [h, e]
abbrev nCl : List Str := ["caught", "some", "odd"]
theorem sc_lclass : FnScope nCl ["caught"] (defScope s_law_class) := ⟨rfl, rfl, rfl, by decide +kernel, rfl, by decide +kernel, by decide +kernel⟩
theorem ok_class36 {f CL : Addr} {fd : FuncData} {nm wd : Str} (F : Fun K "_law_class" "_law_class" s_law_class f fd) (T : Errs16 K mg CL nm) (one : (nm = "NoCoder" ∧ wd = "coder") ∨ (nm = "NoPlace" ∧ wd = "place") ∨ (nm = "NoCount" ∧ wd = "count")) : FnOk P w K mg base CX0 1 f fd ["caught"] (spClass CL wd) := by
  refine F.ok sc_lclass (fun vs H Q E h => ?_) (fun cdv A outer s H vs Q E hr h => ?_)
  · obtain ⟨a, rfl, _⟩ := h
    rfl
  · obtain ⟨a, rfl, ha, q⟩ := h
    have nd := sc_lclass.nd
    have mi := T.iso
    obtain ⟨C1, g1, k1⟩ := T.e "NoCoder" (by decide +kernel)
    obtain ⟨C2, g2, k2⟩ := T.e "NoPlace" (by decide +kernel)
    obtain ⟨C3, g3, k3⟩ := T.e "NoCount" (by decide +kernel)
    obtain ⟨D1, h1, y1⟩ := T.e "NoCounts" (by decide +kernel)
    obtain ⟨D2, h2, y2⟩ := T.e "NoKnown" (by decide +kernel)
    obtain ⟨D3, h3, y3⟩ := T.e "NoLog" (by decide +kernel)
    obtain ⟨D4, h4, y4⟩ := T.e "NoLoop" (by decide +kernel)
    obtain ⟨D5, h5, y5⟩ := T.e "NoPairs" (by decide +kernel)
    obtain ⟨D6, h6, y6⟩ := T.e "NoRow" (by decide +kernel)
    obtain ⟨D7, h7, y7⟩ := T.e "NoSign" (by decide +kernel)
    obtain ⟨D8, h8, y8⟩ := T.e "NoText" (by decide +kernel)
    obtain ⟨D9, h9, y9⟩ := T.e "NoTree" (by decide +kernel)
    obtain ⟨D10, h10, y10⟩ := T.e "NoWord" (by decide +kernel)
    obtain ⟨D11, h11, y11⟩ := T.e "NotLike" (by decide +kernel)
    obtain ⟨D12, h12, y12⟩ := T.e "NotRound" (by decide +kernel)
    obtain ⟨D13, h13, y13⟩ := T.e "Nothing" (by decide +kernel)
    refine ⟨_, (pss_cons (by exact (ps_set (i := 1) nd rfl (Or.inl rfl) (pe_lstS (pa_cons (pe_isG mi g1 rfl rfl rfl (.inl rfl)) (pa_cons (pe_isG mi g2 rfl rfl rfl (.inl rfl)) (pa_cons (pe_isG mi g3 rfl rfl rfl (.inl rfl)) pa_nil))))))
      (pss_cons (by exact (ps_set (i := 2) nd rfl (Or.inl rfl) (pe_callB call_isXT (by rfl) mi (by decide +kernel) (pa_cons (pv 0) (pa_cons (pe_tup (pa_cons (pe_glob (v := .ref D1) rfl h1 rfl) (pa_cons (pe_glob (v := .ref D2) rfl h2 rfl) (pa_cons (pe_glob (v := .ref D3) rfl h3 rfl) (pa_cons (pe_glob (v := .ref D4) rfl h4 rfl) (pa_cons (pe_glob (v := .ref D5) rfl h5 rfl) (pa_cons (pe_glob (v := .ref D6) rfl h6 rfl) (pa_cons (pe_glob (v := .ref D7) rfl h7 rfl) (pa_cons (pe_glob (v := .ref D8) rfl h8 rfl) (pa_cons (pe_glob (v := .ref D9) rfl h9 rfl) (pa_cons (pe_glob (v := .ref D10) rfl h10 rfl) pa_nil))))))))))) pa_nil)))))
      (pss_cons (by exact (ps_set (i := 2) nd rfl (Or.inl rfl) (pe_or (pv 2) (pe_or (pe_callB call_isXT (by rfl) mi (by decide +kernel) (pa_cons (pv 0) (pa_cons (pe_tup (pa_cons (pe_glob (v := .ref D11) rfl h11 rfl) (pa_cons (pe_glob (v := .ref D12) rfl h12 rfl) (pa_cons (pe_glob (v := .ref D13) rfl h13 rfl) pa_nil)))) pa_nil))) (pe_one (pe_not (pe_callB call_isX (by rfl) mi (by decide +kernel) (pa_cons (pv 0) (pa_cons (pe_bltn (v := .ty "ValueError") (by rfl) T.ve (by decide +kernel) rfl) pa_nil)))))))))
      (pss_cons (by exact (ps_if (PW.pt (pw_or (pt_val (pv 2)) (pw_or1 (pt_cmpR op_ne (pe_bm PySem.F.plainAttrs_list PySem.F.slot_list_count PySem.F.type_list_count mt_lcountB (pv 1) (pa_cons pe_bl pa_nil)) pe_int (nomark _))))) (pss_one (by exact (ps_ret pe_str))) pss_nil))
      (pss_one (by exact (ps_ret (pe_ix ix_list (pe_lstS (pa_cons pe_str (pa_cons pe_str (pa_cons pe_str pa_nil)))) (pe_bm PySem.F.plainAttrs_list PySem.F.slot_list_index PySem.F.type_list_index mt_index (pv 1) (pa_cons pe_bl pa_nil)) (fun _ _ => rfl))))))))), ?_⟩
    rcases one with ⟨rfl, rfl⟩ | ⟨rfl, rfl⟩ | ⟨rfl, rfl⟩
    · replace k1 := at_no (c := true) k1 (by decide +kernel)
      replace k2 := at_no (c := false) k2 (by decide +kernel)
      replace k3 := at_no (c := false) k3 (by decide +kernel)
      replace y1 := at_no (c := false) y1 (by decide +kernel)
      replace y2 := at_no (c := false) y2 (by decide +kernel)
      replace y3 := at_no (c := false) y3 (by decide +kernel)
      replace y4 := at_no (c := false) y4 (by decide +kernel)
      replace y5 := at_no (c := false) y5 (by decide +kernel)
      replace y6 := at_no (c := false) y6 (by decide +kernel)
      replace y7 := at_no (c := false) y7 (by decide +kernel)
      replace y8 := at_no (c := false) y8 (by decide +kernel)
      replace y9 := at_no (c := false) y9 (by decide +kernel)
      replace y10 := at_no (c := false) y10 (by decide +kernel)
      replace y11 := at_no (c := false) y11 (by decide +kernel)
      replace y12 := at_no (c := false) y12 (by decide +kernel)
      replace y13 := at_no (c := false) y13 (by decide +kernel)
      refine ⟨a, CL, _, rfl, T.C, ha, k1, a, CL, _, rfl, T.C, ha, k2, a, CL, _, rfl, T.C, ha, k3, (by show 3 ≤ sizeLine; decide), fun S1 H1 n1 s1 e1 => ?_⟩
      have no : ∀ b : Bool, false = true → b = true := fun _ z => nomatch z
      have ha1 := s1 _ _ ha
      refine ⟨_, rfl, (by show 10 ≤ sizeLine; decide), fun t ht => ?_⟩
      have s2 : Same H1 (upd H1 t (.tup [.ref D1, .ref D2, .ref D3, .ref D4, .ref D5, .ref D6, .ref D7, .ref D8, .ref D9, .ref D10])) := same_new ht
      refine ⟨a, CL, t, _, [.ref D1, .ref D2, .ref D3, .ref D4, .ref D5, .ref D6, .ref D7, .ref D8, .ref D9, .ref D10], false, rfl, T.C, s2 _ _ ha1, upd_same, ?_, ?_, ?_⟩
      · exact .cons (.own _) (.cons (.own _) (.cons (.own _) (.cons (.own _) (.cons (.own _) (.cons (.own _) (.cons (.own _) (.cons (.own _) (.cons (.own _) (.cons (.own _) .nil)))))))))
      · exact kitAny_cons y1 (fun _ => kitAny_cons y2 (fun _ => kitAny_cons y3 (fun _ => kitAny_cons y4 (fun _ => kitAny_cons y5 (fun _ => kitAny_cons y6 (fun _ => kitAny_cons y7 (fun _ => kitAny_cons y8 (fun _ => kitAny_cons y9 (fun _ => kitAny_cons y10 (fun _ => kitAny_nil) (no _)) (no _)) (no _)) (no _)) (no _)) (no _)) (no _)) (no _)) (no _)) (no _)
      generalize upd H1 t (.tup [.ref D1, .ref D2, .ref D3, .ref D4, .ref D5, .ref D6, .ref D7, .ref D8, .ref D9, .ref D10]) = H2 at s2
      have ha2 := s2 _ _ ha1
      have e2 := s2 _ _ e1
      refine ⟨_, rfl, _, rfl, ?_⟩
      refine iteF ⟨_, rfl, (by show 3 ≤ sizeLine; decide), fun t2 ht2 => ?_⟩
      have s3 : Same H2 (upd H2 t2 (.tup [.ref D11, .ref D12, .ref D13])) := same_new ht2
      refine ⟨a, CL, t2, _, [.ref D11, .ref D12, .ref D13], false, rfl, T.C, s3 _ _ ha2, upd_same, .cons (.own _) (.cons (.own _) (.cons (.own _) .nil)), kitAny_cons y11 (fun _ => kitAny_cons y12 (fun _ => kitAny_cons y13 (fun _ => kitAny_nil) (no _)) (no _)) (no _), _, rfl, ?_⟩
      generalize upd H2 t2 (.tup [.ref D11, .ref D12, .ref D13]) = H3 at s3
      have ha3 := s3 _ _ ha2
      have e3 := s3 _ _ e2
      refine iteF ⟨_, rfl, a, CL, .ty "ValueError", _, true, rfl, T.C, ha3, .ty _, T.yes, _, rfl, ?_⟩
      refine ⟨_, rfl, _, rfl, ?_⟩
      refine iteF ⟨_, rfl, .inl ⟨rfl, _, SqL.of e3⟩, S1, [true, false, false], true, rfl, rfl, SqL.of e3, rfl, _, rfl, ?_⟩
      refine iteF ?_
      refine ⟨(by show 3 ≤ sizeLine; decide), fun S2 H4 n4 s4 e4 => ?_⟩
      refine ⟨_, rfl, .inl ⟨rfl, _, SqL.of (s4 _ _ e3)⟩, S1, _, .bl true, 0, .bl true, rfl, rfl, SqL.of (s4 _ _ e3), rfl, rfl, rfl, rfl, ?_, ?_⟩
      · intro m z hm hz
        exact absurd hm (Nat.not_lt_zero _)
      · refine ⟨S2, _, _, .str "coder", rfl, rfl, SqL.of e4, rfl, ?_⟩
        exact q _ (Same.trans s1 (Same.trans s2 (Same.trans s3 s4)))
    · replace k1 := at_no (c := false) k1 (by decide +kernel)
      replace k2 := at_no (c := true) k2 (by decide +kernel)
      replace k3 := at_no (c := false) k3 (by decide +kernel)
      replace y1 := at_no (c := false) y1 (by decide +kernel)
      replace y2 := at_no (c := false) y2 (by decide +kernel)
      replace y3 := at_no (c := false) y3 (by decide +kernel)
      replace y4 := at_no (c := false) y4 (by decide +kernel)
      replace y5 := at_no (c := false) y5 (by decide +kernel)
      replace y6 := at_no (c := false) y6 (by decide +kernel)
      replace y7 := at_no (c := false) y7 (by decide +kernel)
      replace y8 := at_no (c := false) y8 (by decide +kernel)
      replace y9 := at_no (c := false) y9 (by decide +kernel)
      replace y10 := at_no (c := false) y10 (by decide +kernel)
      replace y11 := at_no (c := false) y11 (by decide +kernel)
      replace y12 := at_no (c := false) y12 (by decide +kernel)
      replace y13 := at_no (c := false) y13 (by decide +kernel)
      refine ⟨a, CL, _, rfl, T.C, ha, k1, a, CL, _, rfl, T.C, ha, k2, a, CL, _, rfl, T.C, ha, k3, (by show 3 ≤ sizeLine; decide), fun S1 H1 n1 s1 e1 => ?_⟩
      have no : ∀ b : Bool, false = true → b = true := fun _ z => nomatch z
      have ha1 := s1 _ _ ha
      refine ⟨_, rfl, (by show 10 ≤ sizeLine; decide), fun t ht => ?_⟩
      have s2 : Same H1 (upd H1 t (.tup [.ref D1, .ref D2, .ref D3, .ref D4, .ref D5, .ref D6, .ref D7, .ref D8, .ref D9, .ref D10])) := same_new ht
      refine ⟨a, CL, t, _, [.ref D1, .ref D2, .ref D3, .ref D4, .ref D5, .ref D6, .ref D7, .ref D8, .ref D9, .ref D10], false, rfl, T.C, s2 _ _ ha1, upd_same, ?_, ?_, ?_⟩
      · exact .cons (.own _) (.cons (.own _) (.cons (.own _) (.cons (.own _) (.cons (.own _) (.cons (.own _) (.cons (.own _) (.cons (.own _) (.cons (.own _) (.cons (.own _) .nil)))))))))
      · exact kitAny_cons y1 (fun _ => kitAny_cons y2 (fun _ => kitAny_cons y3 (fun _ => kitAny_cons y4 (fun _ => kitAny_cons y5 (fun _ => kitAny_cons y6 (fun _ => kitAny_cons y7 (fun _ => kitAny_cons y8 (fun _ => kitAny_cons y9 (fun _ => kitAny_cons y10 (fun _ => kitAny_nil) (no _)) (no _)) (no _)) (no _)) (no _)) (no _)) (no _)) (no _)) (no _)) (no _)
      generalize upd H1 t (.tup [.ref D1, .ref D2, .ref D3, .ref D4, .ref D5, .ref D6, .ref D7, .ref D8, .ref D9, .ref D10]) = H2 at s2
      have ha2 := s2 _ _ ha1
      have e2 := s2 _ _ e1
      refine ⟨_, rfl, _, rfl, ?_⟩
      refine iteF ⟨_, rfl, (by show 3 ≤ sizeLine; decide), fun t2 ht2 => ?_⟩
      have s3 : Same H2 (upd H2 t2 (.tup [.ref D11, .ref D12, .ref D13])) := same_new ht2
      refine ⟨a, CL, t2, _, [.ref D11, .ref D12, .ref D13], false, rfl, T.C, s3 _ _ ha2, upd_same, .cons (.own _) (.cons (.own _) (.cons (.own _) .nil)), kitAny_cons y11 (fun _ => kitAny_cons y12 (fun _ => kitAny_cons y13 (fun _ => kitAny_nil) (no _)) (no _)) (no _), _, rfl, ?_⟩
      generalize upd H2 t2 (.tup [.ref D11, .ref D12, .ref D13]) = H3 at s3
      have ha3 := s3 _ _ ha2
      have e3 := s3 _ _ e2
      refine iteF ⟨_, rfl, a, CL, .ty "ValueError", _, true, rfl, T.C, ha3, .ty _, T.yes, _, rfl, ?_⟩
      refine ⟨_, rfl, _, rfl, ?_⟩
      refine iteF ⟨_, rfl, .inl ⟨rfl, _, SqL.of e3⟩, S1, [false, true, false], true, rfl, rfl, SqL.of e3, rfl, _, rfl, ?_⟩
      refine iteF ?_
      refine ⟨(by show 3 ≤ sizeLine; decide), fun S2 H4 n4 s4 e4 => ?_⟩
      refine ⟨_, rfl, .inl ⟨rfl, _, SqL.of (s4 _ _ e3)⟩, S1, _, .bl true, 1, .bl true, rfl, rfl, SqL.of (s4 _ _ e3), rfl, rfl, rfl, rfl, ?_, ?_⟩
      · intro m z hm hz
        match m, hm, hz with
        | 0, _, h => cases h; rfl
      · refine ⟨S2, _, _, .str "place", rfl, rfl, SqL.of e4, rfl, ?_⟩
        exact q _ (Same.trans s1 (Same.trans s2 (Same.trans s3 s4)))
    · replace k1 := at_no (c := false) k1 (by decide +kernel)
      replace k2 := at_no (c := false) k2 (by decide +kernel)
      replace k3 := at_no (c := true) k3 (by decide +kernel)
      replace y1 := at_no (c := false) y1 (by decide +kernel)
      replace y2 := at_no (c := false) y2 (by decide +kernel)
      replace y3 := at_no (c := false) y3 (by decide +kernel)
      replace y4 := at_no (c := false) y4 (by decide +kernel)
      replace y5 := at_no (c := false) y5 (by decide +kernel)
      replace y6 := at_no (c := false) y6 (by decide +kernel)
      replace y7 := at_no (c := false) y7 (by decide +kernel)
      replace y8 := at_no (c := false) y8 (by decide +kernel)
      replace y9 := at_no (c := false) y9 (by decide +kernel)
      replace y10 := at_no (c := false) y10 (by decide +kernel)
      replace y11 := at_no (c := false) y11 (by decide +kernel)
      replace y12 := at_no (c := false) y12 (by decide +kernel)
      replace y13 := at_no (c := false) y13 (by decide +kernel)
      refine ⟨a, CL, _, rfl, T.C, ha, k1, a, CL, _, rfl, T.C, ha, k2, a, CL, _, rfl, T.C, ha, k3, (by show 3 ≤ sizeLine; decide), fun S1 H1 n1 s1 e1 => ?_⟩
      have no : ∀ b : Bool, false = true → b = true := fun _ z => nomatch z
      have ha1 := s1 _ _ ha
      refine ⟨_, rfl, (by show 10 ≤ sizeLine; decide), fun t ht => ?_⟩
      have s2 : Same H1 (upd H1 t (.tup [.ref D1, .ref D2, .ref D3, .ref D4, .ref D5, .ref D6, .ref D7, .ref D8, .ref D9, .ref D10])) := same_new ht
      refine ⟨a, CL, t, _, [.ref D1, .ref D2, .ref D3, .ref D4, .ref D5, .ref D6, .ref D7, .ref D8, .ref D9, .ref D10], false, rfl, T.C, s2 _ _ ha1, upd_same, ?_, ?_, ?_⟩
      · exact .cons (.own _) (.cons (.own _) (.cons (.own _) (.cons (.own _) (.cons (.own _) (.cons (.own _) (.cons (.own _) (.cons (.own _) (.cons (.own _) (.cons (.own _) .nil)))))))))
      · exact kitAny_cons y1 (fun _ => kitAny_cons y2 (fun _ => kitAny_cons y3 (fun _ => kitAny_cons y4 (fun _ => kitAny_cons y5 (fun _ => kitAny_cons y6 (fun _ => kitAny_cons y7 (fun _ => kitAny_cons y8 (fun _ => kitAny_cons y9 (fun _ => kitAny_cons y10 (fun _ => kitAny_nil) (no _)) (no _)) (no _)) (no _)) (no _)) (no _)) (no _)) (no _)) (no _)) (no _)
      generalize upd H1 t (.tup [.ref D1, .ref D2, .ref D3, .ref D4, .ref D5, .ref D6, .ref D7, .ref D8, .ref D9, .ref D10]) = H2 at s2
      have ha2 := s2 _ _ ha1
      have e2 := s2 _ _ e1
      refine ⟨_, rfl, _, rfl, ?_⟩
      refine iteF ⟨_, rfl, (by show 3 ≤ sizeLine; decide), fun t2 ht2 => ?_⟩
      have s3 : Same H2 (upd H2 t2 (.tup [.ref D11, .ref D12, .ref D13])) := same_new ht2
      refine ⟨a, CL, t2, _, [.ref D11, .ref D12, .ref D13], false, rfl, T.C, s3 _ _ ha2, upd_same, .cons (.own _) (.cons (.own _) (.cons (.own _) .nil)), kitAny_cons y11 (fun _ => kitAny_cons y12 (fun _ => kitAny_cons y13 (fun _ => kitAny_nil) (no _)) (no _)) (no _), _, rfl, ?_⟩
      generalize upd H2 t2 (.tup [.ref D11, .ref D12, .ref D13]) = H3 at s3
      have ha3 := s3 _ _ ha2
      have e3 := s3 _ _ e2
      refine iteF ⟨_, rfl, a, CL, .ty "ValueError", _, true, rfl, T.C, ha3, .ty _, T.yes, _, rfl, ?_⟩
      refine ⟨_, rfl, _, rfl, ?_⟩
      refine iteF ⟨_, rfl, .inl ⟨rfl, _, SqL.of e3⟩, S1, [false, false, true], true, rfl, rfl, SqL.of e3, rfl, _, rfl, ?_⟩
      refine iteF ?_
      refine ⟨(by show 3 ≤ sizeLine; decide), fun S2 H4 n4 s4 e4 => ?_⟩
      refine ⟨_, rfl, .inl ⟨rfl, _, SqL.of (s4 _ _ e3)⟩, S1, _, .bl true, 2, .bl true, rfl, rfl, SqL.of (s4 _ _ e3), rfl, rfl, rfl, rfl, ?_, ?_⟩
      · intro m z hm hz
        match m, hm, hz with
        | 0, _, h => cases h; rfl
        | 1, _, h => cases h; rfl
      · refine ⟨S2, _, _, .str "count", rfl, rfl, SqL.of e4, rfl, ?_⟩
        exact q _ (Same.trans s1 (Same.trans s2 (Same.trans s3 s4)))
end
end Lk
end
section
set_option maxRecDepth 100000
set_option maxHeartbeats 2000000
/-! A def called in an except suite on the error that is handled: isinstance of it, a list made over a range there. -/
namespace Lk
open PySem PySem.Spec PyProof.Rows L2 L2H HotX
section
variable {X : Cx} {pins : List (Addr × Obj)} {σ : L2.St} {H : Hp} {s : Shared}
/-- isinstance(e, c), e a pinned error -/
def rIsP (K : PySem.W.Frag) (p : Addr × Obj) : List V → Hp → VK → Prop := fun xs H Q => ∃ (D : Addr) (c : V) (u : Value) (b : Bool), xs = [.ref p.1, c] ∧ ExcC K D ∧ Zc (.ref D) none p.2 ∧ (∃ vs, p.2.data = .fields vs) ∧ ClsV c u ∧ PySem.W.kitOne K (.ref D) u = some b ∧ Q (.bl b) H
theorem call_isP {p : Addr × Obj} (hp : p ∈ X.pn) : CallR X (.builtin "isinstance") (rIsP X.K p) := by
  intro pins s σ H xs us Q I r h
  obtain ⟨D, c, u, b, rfl, C, hz, ⟨vs, hv⟩, k, e, q⟩ := h
  obtain ⟨u1, u2, rfl, r1, r2⟩ := vals2 r
  have e2 := k.eq r2
  subst e2
  cases (show u1 = Value.ref p.1 from r1)
  have hget := (I.pin p (List.mem_append_left _ hp)).1
  have J : PySem.W.InstAt s.heap p.1 p.2 D none := by
    obtain ⟨a, oc, od, oda, osl⟩ := p
    obtain ⟨h1, h2⟩ := hz
    dsimp only at h1 h2 hv hget
    subst h1 h2 hv
    exact ⟨hget, rfl, rfl, trivial⟩
  exact PySem.W.kia_one (PySem.W.handS_kitx_exc C.hg C.hk C.hs C.hd C.ha C.hn C.ht C.hm) I.kIn J e (fun z => nomatch z) fun tk => ⟨.bl b, H, I.tok tk, rfl, q⟩
end
/-! ### such a def -/
structure FnE (P : Program) (w : World) (K : PySem.W.Frag) (mg : Str → Option Value) (base : Heap) (k : Nat) (f : Addr) (fd : FuncData) (x : Str) (D : Addr) (told : VK → Hp → Prop) : Prop where
  run : ∀ (A : Around) (outer : List Env) (s : Shared) (H : Hp) (args : Args) (Q : VK) (p : Addr × Obj), RoomH k A → Hot1 A p → Zc (.ref D) none p.2 → PinOk outer H s p → Env0 P w K mg base A outer s H → BindsTo s fd args ([x].zip [.ref p.1]) → told Q H →
    codeAny (model P w) A (.call (.ref f) args) (CR C8.CX0 outer P w H s Q C8.E0) s
section
variable {P : Program} {w : World} {K : PySem.W.Frag} {mg : Str → Option Value} {base : Heap}
theorem fnE_of {x n qual : Str} {st : Stmt} {f D : Addr} {fd : FuncData} {N : List Str} {k : Nat} {told : VK → Hp → Prop} (F : Fun K n qual st f fd) (S : FnScope N [x] (defScope st))
    (body : ∀ (cdv : Value) (A : Around) (outer : List Env) (s : Shared) (H : Hp) (Q : VK) (p : Addr × Obj), Hot1 A p → Zc (.ref D) none p.2 → RoomH k (A.deeper (envOfC qual (defScope st) s.heap.objs.size f cdv)) → told Q H →
      ∃ t, PSs (cxH C8.CX0 P w K mg base N qual (defScope st) f cdv A outer s H C8.E0 p) (defBody st) t ∧ t { nx := fun _ H2 => Q .non H2, rt := Q } (L2.start N [.ref p.1]) H) : FnE P w K mg base (k + 1) f fd x D told := by
  obtain ⟨oc, od, kV, doc, pm, an, cdv, ct, osl, rfl, lk, code⟩ := F.ex
  refine ⟨fun A outer s H args Q p hr hot hz pin e0 hb ht => ?_⟩
  have inK : K.In s.heap := e0.mod.kin.keeps fun b o q => (e0.bs b o q).1
  have free : s.heap.NoLimit := e0.mod.nolimit.keeps fun b o q => (e0.bs b o q).1
  refine codeAny_call_function hr.depth (inK _ _ lk) rfl S.co S.gen rfl (PySem.W.codeRec_of inK code) (hb _ _ _ _ (wpAny_newFunctionEnv_cells S.kind (fun ⟨n, v⟩ hy => ?_) fun env he s1 x1 => ?_))
  · exact (S.par n (List.of_mem_zip hy).1).imp id fun q => ⟨q, PySem.W.cellsFrom_some _ _ _ (.inl q)⟩
  · subst he
    obtain ⟨t, hs, q⟩ := body cdv A outer s H Q p hot hz (hr.deeper _) ht
    have I0 : Inv (cxH C8.CX0 P w K mg base N qual (defScope st) f cdv A outer s H C8.E0 p) [] (L2.start N [.ref p.1]) H s1 := inv_startH (us := [.ref p.1]) S pin e0 rfl (.cons rfl .nil) x1
    refine ⟨free.keeps x1.toInCall.keep, codeAny_func (wpAny_mono (hs.run [] s1 _ H _ I0 q) (fun fl s2 z => ?_) fun _ _ z => z)⟩
    match fl, z with
    | .ret u, ⟨v, _, H2, J, rv, q2⟩ => exact ⟨v, H2, J.os, J.bare, J.base, J.hok, rv, q2⟩
    | .next, ⟨_, H2, J, q2⟩ => exact ⟨V.non, H2, J.os, J.bare, J.base, J.hok, (rfl : RelV .non Value.none), q2⟩
    | .brk, ⟨_, _, _, no⟩ => exact no.elim
    | .cont, ⟨_, _, _, no⟩ => exact no.elim
end
section
variable {X : Cx} {k i : Nat} {f D : Addr} {fd : FuncData} {x y n : Str} {told : VK → Hp → Prop} {p q pos : Pos} {pe : Addr × Obj}
/-- x(e) in the suite, e the error -/
theorem pe_callE (F : FnE X.prog X.w X.K X.mg X.base k f fd y D told) (hr : RoomH k X.A) (hot : Hot1 X.A pe) (hp : pe ∈ X.pn) (hz : Zc (.ref D) none pe.2) (hg : Gl X x) (hm : X.mg x = some (.ref f)) (hk : PySem.W.keepIn X.K (.ref f) = true) (hb : Binds X.K fd [y] [])
    (hN : X.N[i]? = some n) (hv : Vis X.env.scope n) (hdb : (x == ("__debug__" : Str)) = false := by decide) (hd2 : (n == ("__debug__" : Str)) = false := by decide) (hcd : (n == ("__classdict__" : Str)) = false := by decide)
    (he : starEach [Expr.Name n q] X.env = (false, eval (.Name n q) X.env) :: starEach [] X.env := by rfl) (hpl : (backTo pos (starEach [] X.env)).any (·.1) = false := by rfl) :
    PE X (.Call (.Name x p) [.Name n q] [] pos) (fun σ H Q => σ[i]? = some (some (.ref pe.1)) ∧ told Q H) := by
  refine ⟨fun pins s σ H Q I ⟨hs, ht⟩ => ?_⟩
  refine wpAny_Call_Name_kw (ld_glob I hg hm ?_ hdb)
  have ha : PA X [Expr.Name n q] (tCons (tVar i) tNil) := pa_cons (pe_var hN hv hd2 hcd) pa_nil
  refine PySem.W.callWith_K (h₀ := X.base) I.ok.mod.kin hk (thn (ha.run pos pins s σ H (fun vs H1 => vs = [.ref pe.1] ∧ H1 = H) I ⟨_, hs, rfl, rfl⟩) fun us s1 ⟨vs, H1, I1, r, ev, eH⟩ => ⟨I1.kIn, ?_⟩) he hpl
  subst ev eH
  obtain ⟨u, rfl, ru⟩ := vals1 r
  cases (show u = Value.ref pe.1 from ru)
  have b := hb s1 [.ref pe.1] I1.kIn rfl
  rw [List.append_nil] at b
  have P1 := I1.pin pe (List.mem_append_left _ hp)
  have pin : PinOk X.stack H1 s1 pe := ⟨P1.1, P1.2.1, fun hm => (List.mem_cons.mp (I1.stkSub pe.1 hm)).elim P1.2.2.1 P1.2.2.2.1, P1.2.2.2.2⟩
  refine wpAny_call (codeAny_mono (F.run X.A X.stack s1 H1 _ Q pe hr hot hz pin I1.env0 b ht) fun r2 s2 z => ?_)
  match r2, z with
  | .ok (.ret u), z => exact I1.after z
  | .ok .next, z => exact z.elim
  | .ok .brk, z => exact z.elim
  | .ok .cont, z => exact z.elim
  | .error _, z => exact z.elim
end
end Lk
end
section
set_option maxRecDepth 100000
set_option maxHeartbeats 2000000
/-! [elt for target in iter if ..] while an error is handled. -/
namespace Lk
open PySem PySem.Spec PyProof.Rows L2 L2H HotX
section
variable {X : Cx}
/-- a block's context that bears the pinned thing p -/
abbrev blkP (X : Cx) (s : Shared) (H : Hp) (scope : Scope) (ce : Env) (fp : List Addr) (p : Addr × Obj) : Cx := { X.blk s H scope ce fp with pn := [p] }
structure PinB (X : Cx) (H0 : Hp) (h0 : Heap) (fp : List Addr) (ce : Env) (p : Addr × Obj) : Prop where
  get : h0.get? p.1 = some p.2
  none : H0 p.1 = none
  nfs : p.1 ∉ frs X.stack
  nfp : p.1 ∉ fp
  nl : p.1 ≠ ce.locals
  nc : ∀ v, p.2.data ≠ .cell v
theorem to_pin {s0 s : Shared} {H0 H : Hp} {scope : Scope} {ce : Env} {fp : List Addr} {p : Addr × Obj} {pins : List (Addr × Obj)} {σ : L2.St} (b : PinB X H0 s0.heap fp ce p) (I : Inv (X.blk s0 H0 scope ce fp) pins σ H s) : Inv (blkP X s0 H0 scope ce fp p) pins σ H s :=
  ⟨⟨I.ok.1, I.ok.2, I.ok.3, I.ok.4, I.ok.5, I.ok.6, I.ok.7, I.ok.8, I.ok.9, I.ok.10, I.ok.11, I.ok.12, I.ok.13, I.ok.14, I.ok.15, I.ok.16, I.ok.17, I.ok.18⟩, I.os, I.bare, I.base, I.loc, I.cell, I.free, I.freeC, fun q hq => by
    rcases List.mem_append.mp hq with h | h
    · rw [List.mem_singleton.mp h]
      exact ⟨I.base.keep p.1 p.2 b.get b.none b.nfs b.nfp, I.base.free p.1 p.2 b.get b.none b.nfp, b.nl, b.nfs, b.nc⟩
    · exact I.pin q (List.mem_append_right _ h), I.hok, I.len⟩
theorem from_pin {s0 s : Shared} {H0 H : Hp} {scope : Scope} {ce : Env} {fp : List Addr} {p : Addr × Obj} {pins : List (Addr × Obj)} {σ : L2.St} (I : Inv (blkP X s0 H0 scope ce fp p) pins σ H s) : Inv (X.blk s0 H0 scope ce fp) pins σ H s :=
  ⟨⟨I.ok.1, I.ok.2, I.ok.3, I.ok.4, I.ok.5, I.ok.6, I.ok.7, I.ok.8, I.ok.9, I.ok.10, I.ok.11, I.ok.12, I.ok.13, I.ok.14, I.ok.15, I.ok.16, I.ok.17, I.ok.18⟩, I.os, I.bare, I.base, I.loc, I.cell, I.free, I.freeC, fun q hq => I.pin q (List.mem_append_right _ hq), I.hok, I.len⟩
/-- over a range, the list as a value -/
theorem pe_lcH {elt tg iter : Expr} {ifs : List Expr} {scope : Scope} {own : List (Str × Nat)} {pos : Pos} {wi : TI} {g : TG} {tt : TT} {te : TE} {p : Addr × Obj} (hot : Hot1 X.A p) (hp : p ∈ X.pn) (nd : X.N.Nodup) (src : PIH X tg iter wi) (blk : BlkOk X.N X.env.scope scope own)
    (pg : ∀ (s : Shared) (H : Hp) (C : Addr) (cl : List (Str × Addr)) (fp : List Addr), PG (X.blk s H scope (compEnvC scope cl C X.env) fp) tg g)
    (pt : ∀ (s : Shared) (H : Hp) (C : Addr) (cl : List (Str × Addr)) (fp : List Addr), PTs (X.blk s H scope (compEnvC scope cl C X.env) fp) ifs tt)
    (pe : ∀ (s : Shared) (H : Hp) (C : Addr) (cl : List (Str × Addr)) (fp : List Addr), PE (X.blk s H scope (compEnvC scope cl C X.env) fp) elt te) (plain : ∀ x, foldedSetIterable iter X.env x = pure x := by intro _; rfl) :
    PE X (.ListComp elt [⟨tg, iter, ifs, 0⟩] scope pos) (tLc wi g tt te (own.map (·.2))) := by
  refine ⟨fun pins s σ H Q I wish => ?_⟩
  rw [eval_ListComp]
  have seen : ∀ y ∈ scope.names, y.2 = .free → ∃ c, X.env.cells.lookup y.1 = some c := fun y hy e => (blk.free y hy e).elim (fun z => I.ok.has _ (.inl z)) fun z => I.ok.has _ (.inr z)
  refine wpAny_comprehension_free (use := none) rfl plain (closure_ok seen) blk.kind (fun y hy e => by rw [blk.uniq y hy, e]) (thn (src.run pins s σ H _ I wish) fun v1 s1 z1 => thn z1 fun v2 s2 z2 => ?_)
  obtain ⟨it, fp, tn, J, H2, rfl, I2, T, at0, off, more⟩ := z2
  refine wpAny_newObj_type (newEnv_comp ?_) (by show 0 ≤ sizeLine; decide)
  obtain ⟨D, eD⟩ : ∃ D, s2.heap.objs.size = D := ⟨_, rfl⟩
  have freshD : H2 D = none := I2.hok.fresh (Nat.le_of_eq eD)
  obtain ⟨W, ⟨m0, w0⟩, turn⟩ := more D freshD
  obtain ⟨s3, e3⟩ : ∃ s3 : Shared, ({ s2 with heap := s2.heap.push { cls := .type "list", data := .seq ([] : List Value).toArray } } : Shared) = s3 := ⟨_, rfl⟩
  have h3 : s3.heap = s2.heap.push { cls := .type "list", data := .seq ([] : List Value).toArray } := by rw [← e3]
  have up3 : ∀ b o, s2.heap.get? b = some o → s3.heap.get? b = some o := fun b o e => by rw [h3]; exact Heap.get?_push_of_some _ e
  have I3 : Inv X pins σ (upd H2 D (.lst [])) s3 := by
    have z := I2.laid (a := D) (o := .lst []) (h' := s3.heap) (t' := s2.toks) up3 (Nat.le_of_eq eD) ⟨Nat.zero_le _, [], 0, .nil, by rw [h3, ← eD]; exact Heap.get?_push_size _ rfl⟩
    rw [← e3] at z ⊢
    exact z
  have small : ∀ b ∈ fp, b < s2.heap.objs.size := fun b hb => by
    obtain ⟨o, e, _⟩ := T.obj _ _ at0 b hb
    exact Heap.lt_size e
  have off3 : ∀ b ∈ fp, FpOk X pins (upd H2 D (.lst [])) b ∧ b < s3.heap.objs.size := fun b hb => by
    have lt := small b hb
    refine ⟨⟨?_, (off b hb).2⟩, ?_⟩
    · rw [upd_ne (by rw [← eD]; exact Nat.ne_of_lt lt)]
      exact (off b hb).1
    · rw [h3, Heap.size_push]
      exact Nat.lt_succ_of_lt lt
  have I4 := block_start I3 blk nd off3
  have g4 := pg s3 (upd H2 D (.lst [])) s3.heap.objs.size (cellsFrom (s3.heap.objs.size + 1) scope.names (cloFrom X.env.cells scope.names [])) fp
  have t4 := pt s3 (upd H2 D (.lst [])) s3.heap.objs.size (cellsFrom (s3.heap.objs.size + 1) scope.names (cloFrom X.env.cells scope.names [])) fp
  have e4 := pe s3 (upd H2 D (.lst [])) s3.heap.objs.size (cellsFrom (s3.heap.objs.size + 1) scope.names (cloFrom X.env.cells scope.names [])) fp
  rw [e3]
  show codeAny _ _ (.compStart (.ListComp elt [⟨tg, iter, ifs, 0⟩] scope pos) 0 (.ref it) (.ref s2.heap.objs.size) (compEnvC scope (cellsFrom (s3.heap.objs.size + 1) scope.names (cloFrom X.env.cells scope.names [])) s3.heap.objs.size X.env)) (compPost (model X.prog X.w) X.A X.xe none (EP X pins σ Q) (.ref s2.heap.objs.size) s3.heap.objs.size) { s3 with heap := pushCells (s3.heap.push { cls := .type "dict", data := .dict #[] }) scope.names }
  rw [eD]
  have noW : ∀ b ∈ fp, (upd H2 D (.lst [])) b = none := fun b hb => (off3 b hb).1.1
  have pinB : PinB X (upd H2 D (.lst [])) s3.heap fp (compEnvC scope (cellsFrom (s3.heap.objs.size + 1) scope.names (cloFrom X.env.cells scope.names [])) s3.heap.objs.size X.env) p := by
    have q := I3.pin p (List.mem_append_left _ hp)
    exact ⟨q.1, q.2.1, fun hm => (List.mem_cons.mp (I3.stkSub p.1 hm)).elim q.2.2.1 q.2.2.2.1, fun hm => (off3 p.1 hm).1.2.2.2.2.2 p (List.mem_append_left _ hp) rfl, Nat.ne_of_lt (Heap.lt_size q.1), q.2.2.2.2⟩
  obtain ⟨ce, ece⟩ : ∃ ce, compEnvC scope (cellsFrom (s3.heap.objs.size + 1) scope.names (cloFrom X.env.cells scope.names [])) s3.heap.objs.size X.env = ce := ⟨_, rfl⟩
  have cL : ce.locals = s3.heap.objs.size := by rw [← ece]; rfl
  rw [ece] at I4 g4 t4 e4 pinB ⊢
  generalize upd H2 D (.lst []) = HA at I3 I4 g4 t4 e4 w0 noW off3 pinB
  obtain ⟨s4, e5⟩ : ∃ s4 : Shared, ({ s3 with heap := pushCells (s3.heap.push { cls := .type "dict", data := .dict #[] }) scope.names } : Shared) = s4 := ⟨_, rfl⟩
  rw [e5] at I4 ⊢
  have at4 : tn 0 s4.heap := T.keep _ _ _ at0 fun b _ o e => by rw [← e5]; exact pushCells_keeps _ _ _ _ (Heap.get?_push_of_some _ (up3 b o e))
  have hotB : ∀ {s' : Shared} {H' : Hp} {ps : List (Addr × Obj)} {τ : L2.St}, Inv (blkP X s3 HA scope ce fp p) ps τ H' s' → HotC (blkP X s3 HA scope ce fp p) := fun _ => ⟨p, hot, List.mem_singleton.mpr rfl⟩
  have offB : ∀ {τ : L2.St} {H' : Hp} {s' : Shared}, Inv (blkP X s3 HA scope ce fp p) [] τ H' s' → (∀ b ∈ fp, H' b = none) → ∀ b ∈ fp, FpOk (blkP X s3 HA scope ce fp p) [] H' b := fun {τ H' s'} J' hn b hb =>
    ⟨hn b hb, (J'.ok.exf b hb).1, J'.ok.exfs b hb, .inl hb, fun x c e => (J'.ok.exf b hb).2 x c e, fun q hq z => pinB.nfp (by
      have hq2 : q ∈ [p] := by simpa using hq
      rw [List.mem_singleton.mp hq2] at z
      rw [z]
      exact hb)⟩
  have loop : codeAny (model X.prog X.w) X.A (.compLoop (.ListComp elt [⟨tg, iter, ifs, 0⟩] scope pos) 0 (.ref it) (.ref D) ce) (compPost (model X.prog X.w) X.A X.xe none (EP X pins σ Q) (.ref D) s3.heap.objs.size) s4 := by
    refine compLoop_any (fun n s' => ∃ i H', Inv (X.blk s3 HA scope ce fp) [] (wipe σ (own.map (·.2))) H' s' ∧ tn i s'.heap ∧ (∀ b ∈ fp, H' b = none) ∧ W i n H') ?_ m0 ⟨0, HA, I4, at4, noW, w0⟩
    rintro n s5 ⟨i, H5, I5, at5, no5, w5⟩
    have I5p := to_pin pinB I5
    rcases turn i n H5 w5 with ⟨stop, done⟩ | ⟨go, Nx, fall, step⟩
    · refine thnF (T.done (blkP X s3 HA scope ce fp p) rfl rfl rfl (hotB I5p) i [] s5 _ H5 (fun _ _ => False) I5p (offB I5p no5) at5 stop) fun r s6 ⟨hr, I6p⟩ => ?_
      subst hr
      have I6 := from_pin I6p
      have I7 : Inv X pins σ H5 s6 := I3.call' (ch := fp) I6.os I6.base I6.hok I6.bare fun b hb => by
        have q := (off3 b hb).1
        exact ⟨q.2.2.2.1, q.2.1, q.2.2.2.2.1, q.2.2.2.2.2⟩
      have nC : H5 s3.heap.objs.size = none := by
        have z : H5 ce.locals = none := I6.free
        rw [← cL]
        exact z
      obtain ⟨m, hn, _⟩ := I6.loc
      have hn2 : s6.heap.Ns s3.heap.objs.size m := by
        have z : s6.heap.Ns ce.locals m := hn
        rw [← cL]
        exact z
      obtain ⟨f0, f1, f2, f3, f4, f5⟩ := I3.fpOk (H' := H5) (b := s3.heap.objs.size) (Nat.le_refl _) nC
      exact ⟨m, hn2, fun h9 sb => ⟨.ref D, H5, I7.turned (t' := s6.toks) (fun b o hb e => (sb.2 b hb).trans e) f0 f1 f3 f4 f5, rfl, done⟩⟩
    · refine thnF (T.item (blkP X s3 HA scope ce fp p) rfl rfl rfl (hotB I5p) i [] s5 _ H5 (fun _ _ => False) I5p (offB I5p no5) at5 go) fun r s6 ⟨u, hr, z6⟩ => ?_
      subst hr
      refine thnF z6 fun _ s7 ⟨x, H7, I7p, r7, y7, at7, no7⟩ => ?_
      have I7 := from_pin I7p
      have offA : ∀ b ∈ fp, FpOk (X.blk s3 HA scope ce fp) [] H7 b := fun b hb => ⟨no7 b hb, (I7.ok.exf b hb).1, I7.ok.exfs b hb, .inl hb, fun x c e => (I7.ok.exf b hb).2 x c e, fun q hq => absurd (show q ∈ ([] : List (Addr × Obj)) ++ [] from hq) (by simp)⟩
      have I7q := I7.pinned offA (T.obj _ _ at7)
      refine thnF (g4.run _ s7 _ H7 x u _ I7q r7 (step x H7 y7)) fun _ s8 ⟨τ, H8, I8, same8, q8⟩ => ?_
      refine thnF (t4.run _ s8 τ H8 _ I8 q8) fun yes s9 ⟨H9, I9, q9⟩ => ?_
      have next : ∀ {s' : Shared} {H' : Hp}, Inv (X.blk s3 HA scope ce fp) ([] ++ pinsAt fp s7.heap) τ H' s' → Nx H' → ∃ m, m < n ∧ ∃ i H', Inv (X.blk s3 HA scope ce fp) [] (wipe σ (own.map (·.2))) H' s' ∧ tn i s'.heap ∧ (∀ b ∈ fp, H' b = none) ∧ W i m H' := fun {s' H'} J' nx => by
        obtain ⟨m2, lt, w2⟩ := fall H' nx
        have keep7 : ∀ b ∈ fp, ∀ o, s7.heap.get? b = some o → s'.heap.get? b = some o ∧ H' b = none := fun b hb o e => by
          have z := J'.pin (b, o) (List.mem_append_right _ (List.mem_append_right _ (mem_pinsAt hb e)))
          exact ⟨z.1, z.2.1⟩
        refine ⟨m2, lt, i + 1, H', (J'.unpinned (pins := [])).weak (by rw [← same8, wipe_length]) (fun j v e => ?_), T.keep _ _ _ at7 fun b hb o e => (keep7 b hb o e).1, fun b hb => ?_, w2⟩
        · rw [← same8] at e
          exact (wipe_some e).1
        · obtain ⟨o, e, _⟩ := T.obj _ _ at7 b hb
          exact (keep7 b hb o e).2
      cases yes with
      | false => exact next I9 q9
      | true => exact thnF (e4.run _ s9 τ H9 _ I9 q9) fun z s10 ⟨yv, H10, I10, r10, acc, a1, a2, nx⟩ => app_ok (X := X.blk s3 HA scope ce fp) I10 a1 a2 r10 fun s11 I11 => next I11 nx
  exact codeAny_compStart_list loop (T.self X.A 0 _ _ _ at4 loop)
end
end Lk
end
section
set_option maxRecDepth 100000
set_option maxHeartbeats 2000000
/-! A def of the law's own, called in the suite on the error. -/
namespace Lk
open PySem PySem.Spec PyProof.Rows L2 L2H HotX
/-- x tells of an error of the class q.1 what told q.2 says -/
structure CalE (P : Program) (w : World) (K : PySem.W.Frag) (mg : Str → Option Value) (base : Heap) (k : Nat) (x y : Str) (told : Str → VK → Hp → Prop) (ws : List (Addr × Str)) : Prop where
  ex : ∃ (f : Addr) (fd : FuncData), (∀ q ∈ ws, FnE P w K mg base k f fd y q.1 (told q.2)) ∧ mg x = some (.ref f) ∧ PySem.W.keepIn K (.ref f) = true ∧ Binds K fd [y] []
section
variable {X : Cx} {k j i : Nat} {x y n : Str} {told : Str → VK → Hp → Prop} {ws : List (Addr × Str)} {p q pos : Pos} {a : Addr} {oe : Obj} {cls : Value} {d : Option Addr}
theorem pe_cE (c : CalE X.prog X.w X.K X.mg X.base k x y told ws) (hr : RoomH j X.A) (hk : k ≤ j) (hz : L2N.Zn cls d oe) (hf : ∃ vs, oe.data = .fields vs) (hh : X.A.handled = some (.ref a)) (hp : (a, oe) ∈ X.pn) (hg : Gl X x)
    (hN : X.N[i]? = some n) (hv : Vis X.env.scope n) (hdb : (x == ("__debug__" : Str)) = false := by decide) (hd2 : (n == ("__debug__" : Str)) = false := by decide) (hcd : (n == ("__classdict__" : Str)) = false := by decide)
    (he : starEach [Expr.Name n q] X.env = (false, eval (.Name n q) X.env) :: starEach [] X.env := by rfl) (hpl : (backTo pos (starEach [] X.env)).any (·.1) = false := by rfl) :
    PE X (.Call (.Name x p) [.Name n q] [] pos) (fun σ H Q => ∃ D nm, cls = .ref D ∧ d = none ∧ (D, nm) ∈ ws ∧ σ[i]? = some (some (.ref a)) ∧ told nm Q H) := by
  obtain ⟨f, fd, F, hm, hkp, hb⟩ := c.ex
  refine ⟨fun pins s σ H Q I ⟨D, nm, e1, e2, hmem, hs, ht⟩ => ?_⟩
  subst e1 e2
  obtain ⟨vs, ev⟩ := hf
  have hot : Hot1 X.A (a, oe) := ⟨hh, vs, ev, hz.2.2 vs ev⟩
  exact (pe_callE (F (D, nm) hmem) (hr.mono hk) hot hp hz.zc hg hm hkp hb hN hv hdb hd2 hcd he hpl).run pins s σ H Q I ⟨hs, ht⟩
end
/-- == and != of lists within a comprehension -/
theorem op_neDK {X : Cx} {K : PySem.W.Frag} (h : X.K = K) (hu : X.A.units + 64 < cLine) : OpR X (compareOp .NotEq) (rNeD K) := by
  subst h
  exact op_neD hu
theorem op_eqDK {X : Cx} {K : PySem.W.Frag} (h : X.K = K) (hu : X.A.units + 64 < cLine) : OpR X (compareOp .Eq) (rEqD K) := by
  subst h
  exact op_eqD hu
/-- nothing is let through -/
theorem takes_no {X : Cx} : L2N.Takes X fun _ _ _ _ => False := fun _ _ ⟨_, _, _, _, _, _, _, _, _, _, _, _, _, _, _, _, w⟩ => w.elim
end Lk
end
section
set_option maxRecDepth 100000
set_option maxHeartbeats 2000000
/-! A def taken out of a list, called. -/
namespace Lk
open PySem PySem.Spec PyProof.Rows L2
def FnV (P : Program) (w : World) (K : PySem.W.Frag) (mg : Str → Option Value) (base : Heap) (CX : CXT) (f : Addr) (k : Nat) (sp : Sp) : Prop :=
  ∃ (fd : FuncData) (ps : List Str), FnOk P w K mg base CX k f fd ps sp ∧ PySem.W.keepIn K (.ref f) = true ∧ Binds K fd ps []
def tCallV (P : Program) (w : World) (K : PySem.W.Frag) (mg : Str → Option Value) (base : Heap) (j : Nat) (tf : TE) (E : L2.St → XK) (t : TA) : TE := fun σ H Q => tf σ H fun x H1 => ∃ (f : Addr) (k : Nat) (sp : Sp), x = .ref f ∧ k ≤ j ∧ FnV P w K mg base (L2.CX P w) f k sp ∧ t σ H1 fun vs H2 => sp vs H2 Q (E σ)
section
variable {X : Cx} {P : Program} {w : World} {K : PySem.W.Frag} {mg : Str → Option Value} {base : Heap} {j : Nat} {fe e : Expr} {es : List Expr} {tf : TE} {t : TA} {W : WX} {pos : Pos}
/-- fe(e, ..) -/
theorem pe_callV (e1 : X.prog = P) (e2 : X.w = w) (e3 : X.K = K) (e4 : X.mg = mg) (e5 : X.base = base) (hf : PE X fe tf) (tk : Takes X W) (hr : Room j X.A) (ha : PA X (e :: es) t)
    (hc : eval (.Call fe (e :: es) [] pos) X.env = (do callWith pos (← eval fe X.env) [] (backTo pos (starEach (e :: es) X.env)) (backToKw pos (keywordEach [] X.env))) := by rfl)
    (he : starEach (e :: es) X.env = (false, eval e X.env) :: starEach es X.env := by rfl) (hpl : (backTo pos (starEach es X.env)).any (·.1) = false := by rfl) :
    PE X (.Call fe (e :: es) [] pos) (tCallV P w K mg base j tf (WE W) t) := by
  subst e1 e2 e3 e4 e5
  refine ⟨fun pins s σ H Q I h => Call_ (thn (hf.run pins s σ H _ I h) fun u s1 ⟨x, H1, I1, r1, f, k, sp, ex, hk, ⟨fd, ps, F, kp, b⟩, q⟩ => ?_) hc⟩
  subst ex
  cases (show u = Value.ref f from r1)
  exact PySem.W.callWith_K (h₀ := X.base) I1.ok.mod.kin kp (thn (ha.run pos pins s1 σ H1 _ I1 q) fun us s2 ⟨vs, H2, I2, r, q2⟩ => ⟨I2.kIn, run_fnS F (hr.mono hk) b (passAt tk σ) I2 r q2⟩) he hpl
end
end Lk
end
section
set_option maxRecDepth 100000
set_option maxHeartbeats 2000000
/-! number_at of a whole number that is no less than 0. -/
namespace Lk
open PySem PySem.Spec PyProof.Rows L2 LamX NdefX
theorem num_of {C1 C2 : Addr} {T : List (Addr × Str)} {Q : VK} {E : XK} {H : Hp} {v : V} {c : Cd} {i : Int} (cat : Cat H v c) (ok : CdOk c) (t : Tabs T H) (hB : ∀ x ∈ c.2, x < 10 ^ 49) (h0 : 0 ≤ i) (h36 : i ≤ 10 ^ 36)
    (k : ∀ (m : Nat) H', Ext T H H' → Till (letB (lkI c.2 + i)) c m → Q (.int (m : Int)) H') : spNumAt C1 C2 T [v, .int i] H Q E := by
  obtain ⟨n, rfl⟩ := Int.eq_ofNat_of_zero_le h0
  refine ⟨v, .int (n : Int), cdD c, .int (n : Int), rfl, cat.th, .int _, t, fun c2 ec => ?_, fun z => ?_, fun _ z => ?_, fun c2 n2 ec _ en _ => ?_⟩
  · rw [← cdD_inj ec]
    exact hB
  · rw [isCd_cdD ok] at z
    cases z
  · exfalso
    have y : (decide ((0 : Int) ≤ (n : Int)) && decide ((n : Int) ≤ 10 ^ 36)) = false := z
    rw [decide_eq_true (by omega), decide_eq_true h36] at y
    cases y
  · have e := cdD_inj ec
    have e2 : n2 = n := by injection en with en; omega
    subst e e2
    exact k
theorem till_due {c : Cd} {d e : Int} {m n : Nat} (a : Till (letB d) c m) (b : Till (letB e) c n) (h : d ≤ e) : m ≤ n := by
  refine Nat.le_of_not_lt fun g => ?_
  have x := let_no.mp (a.2 n g)
  have y := let_iff.mp b.1
  omega
/-- what the pot's list may hold -/
theorem pick4 {a b c d : Int} {j : Int} (h0 : 0 ≤ j) (h4 : j < 4) {R : Int → Prop} (ra : R a) (rb : R b) (rc : R c) (rd : R d) : ∃ N : Int, R N ∧ ([V.int a, V.int b, V.int c, V.int d] : List V)[j.toNat]? = some (V.int N) := by
  obtain ⟨j', rfl⟩ := Int.eq_ofNat_of_zero_le h0
  match j', h4 with
  | 0, _ => exact ⟨a, ra, rfl⟩
  | 1, _ => exact ⟨b, rb, rfl⟩
  | 2, _ => exact ⟨c, rc, rfl⟩
  | 3, _ => exact ⟨d, rd, rfl⟩
  | j + 4, z => exact absurd z (by omega)
theorem pick2 {a b : Int} {j : Int} (h0 : 0 ≤ j) (h4 : j < 2) {R : Int → Prop} (ra : R a) (rb : R b) : ∃ N : Int, R N ∧ ([V.int a, V.int b] : List V)[j.toNat]? = some (V.int N) := by
  obtain ⟨j', rfl⟩ := Int.eq_ofNat_of_zero_le h0
  match j', h4 with
  | 0, _ => exact ⟨a, ra, rfl⟩
  | 1, _ => exact ⟨b, rb, rfl⟩
  | j + 2, z => exact absurd z (by omega)
theorem pick3 {a b c : Int} {j : Int} (h0 : 0 ≤ j) (h4 : j < 3) {R : Int → Prop} (ra : R a) (rb : R b) (rc : R c) : ∃ N : Int, R N ∧ ([V.int a, V.int b, V.int c] : List V)[j.toNat]? = some (V.int N) := by
  obtain ⟨j', rfl⟩ := Int.eq_ofNat_of_zero_le h0
  match j', h4 with
  | 0, _ => exact ⟨a, ra, rfl⟩
  | 1, _ => exact ⟨b, rb, rfl⟩
  | 2, _ => exact ⟨c, rc, rfl⟩
  | j + 3, z => exact absurd z (by omega)
theorem nil_D : (PyData.list []).canLay0 = true := rfl
theorem nil_S : SeqAt.shaped (.list []) = true := by decide
end Lk
end
section
set_option maxRecDepth 100000
set_option maxHeartbeats 2000000
/-! Lengths raised by what the number of places divides. -/
namespace Lk
open PySem PySem.Spec PyProof.Rows L2
def rise (ks : List Nat) (c : Cd) : Cd := (c.1, List.zipWith (· + ·) c.2 ks)
theorem getD_zip : ∀ (l ks : List Nat) (i : Nat), l.length = ks.length → (List.zipWith (· + ·) l ks).getD i 0 = l.getD i 0 + ks.getD i 0
  | [], [], i, _ => by cases i <;> rfl
  | a :: l, b :: ks, 0, _ => rfl
  | a :: l, b :: ks, i + 1, h => by
    have z := getD_zip l ks i (by simpa using h)
    simpa [List.getD_cons_succ] using z
theorem zip_set : ∀ (l ks : List Nat) (i v : Nat), l.length = ks.length → List.zipWith (· + ·) (l.set i v) ks = (List.zipWith (· + ·) l ks).set i (v + ks.getD i 0)
  | [], [], i, v, _ => by cases i <;> rfl
  | a :: l, b :: ks, 0, v, _ => rfl
  | a :: l, b :: ks, i + 1, v, h => by
    have z := zip_set l ks i v (by simpa using h)
    show (a + b) :: List.zipWith (· + ·) (l.set i v) ks = (a + b) :: ((List.zipWith (· + ·) l ks).set i (v + (b :: ks).getD (i + 1) 0))
    rw [z]
    rfl
theorem rise_len {ks : List Nat} {c : Cd} (h : c.2.length = ks.length) : (rise ks c).2.length = c.2.length := by
  show (List.zipWith (· + ·) c.2 ks).length = _
  rw [List.length_zipWith, ← h, Nat.min_self]
theorem nx_rise {ks : List Nat} {c : Cd} (h : c.2.length = ks.length) (hk : ∀ i, c.2.length ∣ ks.getD i 0) : nx (rise ks c) = rise ks (nx c) := by
  have e : len (rise ks c) c.1 = len c c.1 + ks.getD c.1 0 := getD_zip c.2 ks c.1 h
  show ((c.1 + (len (rise ks c) c.1 + 1)) % (rise ks c).2.length, (List.zipWith (· + ·) c.2 ks).set c.1 (len (rise ks c) c.1 + 1)) = ((c.1 + (len c c.1 + 1)) % c.2.length, List.zipWith (· + ·) (c.2.set c.1 (len c c.1 + 1)) ks)
  rw [zip_set c.2 ks c.1 _ h, rise_len h, e]
  obtain ⟨m, hm⟩ := hk c.1
  rw [hm]
  refine Prod.ext ?_ ?_
  · show (c.1 + (len c c.1 + c.2.length * m + 1)) % c.2.length = (c.1 + (len c c.1 + 1)) % c.2.length
    rw [show c.1 + (len c c.1 + c.2.length * m + 1) = c.1 + (len c c.1 + 1) + c.2.length * m by omega, Nat.add_mul_mod_self_left]
  · show (List.zipWith (· + ·) c.2 ks).set c.1 (len c c.1 + c.2.length * m + 1) = (List.zipWith (· + ·) c.2 ks).set c.1 (len c c.1 + 1 + c.2.length * m)
    rw [show len c c.1 + c.2.length * m + 1 = len c c.1 + 1 + c.2.length * m by omega]
theorem it_rise {ks : List Nat} : ∀ (n : Nat) {c : Cd}, c.2.length = ks.length → (∀ i, c.2.length ∣ ks.getD i 0) → it n (rise ks c) = rise ks (it n c)
  | 0, _, _, _ => rfl
  | n + 1, c, h, hk => by
    show it n (nx (rise ks c)) = rise ks (it n (nx c))
    rw [nx_rise h hk]
    exact it_rise n (by rw [nx_len]; exact h) (by rw [nx_len]; exact hk)
theorem rise_all (p : Nat) : ∀ l : List Nat, List.zipWith (· + ·) l (List.replicate l.length p) = l.map (· + p)
  | [] => rfl
  | a :: l => by
    show (a + p) :: List.zipWith (· + ·) l (List.replicate l.length p) = (a + p) :: l.map (· + p)
    rw [rise_all p l]
theorem rise_ok {ks : List Nat} {c : Cd} (h : c.2.length = ks.length) (hc : CdOk c) : CdOk (rise ks c) := ⟨by show c.1 < (rise ks c).2.length; rw [rise_len h]; exact hc.1, by rw [rise_len h]; exact hc.2⟩
theorem it_bd {B : Nat} : ∀ (n : Nat) {c : Cd}, COk c → (∀ x ∈ c.2, x < B) → ∀ x ∈ (it n c).2, x < B + n
  | 0, _, _, h => h
  | n + 1, c, hc, h => fun x hx => by
    have z : ∀ y ∈ (nx c).2, y < B + 1 := fun y hy => by
      rcases List.mem_or_eq_of_mem_set hy with m | e
      · have := h y m
        omega
      · have := h (len c c.1) (by
          show c.2.getD c.1 0 ∈ c.2
          rw [List.getD_eq_getElem?_getD, List.getElem?_eq_getElem hc]
          exact List.getElem_mem hc)
        omega
    have := it_bd n (nx_ok hc) z x hx
    omega
theorem rise_bd {B k : Nat} : ∀ {l ks : List Nat}, (∀ x ∈ l, x < B) → (∀ x ∈ ks, x ≤ k) → ∀ x ∈ List.zipWith (· + ·) l ks, x < B + k
  | [], _, _, _, x, h => by simp at h
  | a :: l, [], _, _, x, h => by simp at h
  | a :: l, b :: ks, h1, h2, x, h => by
    rcases List.mem_cons.mp h with e | m
    · have := h1 a List.mem_cons_self
      have := h2 b List.mem_cons_self
      rw [e]
      show a + b < B + k
      omega
    · exact rise_bd (fun y hy => h1 y (List.mem_cons_of_mem _ hy)) (fun y hy => h2 y (List.mem_cons_of_mem _ hy)) x m
def spMany : Sp := fun vs H Q _ => ∃ (a : Addr) (p : Nat), vs = [.ref a, .int (p : Int)] ∧ Bag H a ∧ 1 ≤ p ∧ p ≤ 12 ∧ ∀ (n : Nat) H', n ≤ 10 ^ 17 → Bag H' a → SameBut a H H' → Q (.int (n : Int)) H'
def spRaised : Sp := fun vs H Q _ => ∃ v b c ks, vs = [v, .ref b] ∧ Cat H v c ∧ CdOk c ∧ H b = some (.lst (ks.map vN)) ∧ c.2.length = ks.length ∧ ∀ v' H', Same H H' → Cat H' v' (rise ks c) → Q v' H'
end Lk
end
section
set_option maxRecDepth 100000
set_option maxHeartbeats 2000000
/-! Words walked on, raised lengths, letters of many words. -/
namespace Lk
open PySem PySem.Spec PyProof.Rows L2 LamX NdefX
theorem till_shift {B : Cd → Bool} {c : Cd} {S n : Nat} (h : ∀ m, m < S → B (it m c) = false) (t : Till B (it S c) n) : Till B c (S + n) := by
  refine ⟨by rw [it_add]; exact t.1, fun m hm => ?_⟩
  by_cases g : m < S
  · exact h m g
  · have z := t.2 (m - S) (by omega)
    rw [← it_add, show S + (m - S) = m by omega] at z
    exact z
theorem let_early {c : Cd} (h : COk c) {S : Nat} {d : Int} (hd : lkI (it S c).2 ≤ d) : ∀ m, m < S → letB d (it m c) = false := fun m hm => let_no.mpr (by
  have z := lkI_le (show m ≤ S by omega) h
  omega)
theorem rl_rise (c : Cd) (m : Nat) : rl c m = rise (List.replicate c.2.length (m * c.2.length)) c := Prod.ext rfl (rise_all _ _).symm
theorem it_rl {c : Cd} (n m : Nat) : it n (rl c m) = rl (it n c) m := by
  rw [rl_rise, it_rise n (by rw [List.length_replicate]) (fun i => ?_), rl_rise, it_len]
  rw [List.getD_eq_getElem?_getD, List.getElem?_replicate]
  split
  · exact Nat.dvd_mul_left _ _
  · exact Nat.dvd_zero _
theorem wd_rl {c : Cd} (h : COk c) (n m : Nat) : wd (it n (rl c m)) = ((wd (it n c)).1, (wd (it n c)).2 + m * c.2.length) := by
  rw [it_rl]
  show ((it n c).1, len (rl (it n c) m) (it n c).1 + 1) = ((it n c).1, len (it n c) (it n c).1 + 1 + m * c.2.length)
  rw [rl_at (it_ok n h), it_len]
  exact Prod.ext rfl (by show _ + _ + 1 = _ + 1 + _; omega)
theorem rl_cok {c : Cd} (h : COk c) (m : Nat) : COk (rl c m) := by
  show c.1 < (rl c m).2.length
  rw [rl_len]
  exact h
theorem lkI_rl {c : Cd} (h : COk c) (m : Nat) : ∀ n, lkI (it n (rl c m)).2 - lkI (rl c m).2 = lkI (it n c).2 - lkI c.2 + ((m * c.2.length * n : Nat) : Int)
  | 0 => by
    show lkI (rl c m).2 - lkI (rl c m).2 = lkI c.2 - lkI c.2 + _
    rw [Nat.mul_zero]
    omega
  | n + 1 => by
    have ih := lkI_rl h m n
    have a := lkI_step n (rl_cok h m)
    have b := lkI_step n h
    rw [wd_rl h n m] at a
    rw [Nat.mul_succ]
    generalize m * c.2.length * n = y at *
    generalize m * c.2.length = z at *
    push_cast at *
    omega
theorem tri_succ (n : Nat) : tri (n + 1) = tri n + (n + 1) := by
  have a := two_tri n
  have b := two_tri (n + 1)
  have e : (n + 1) * (n + 1 + 1) = n * (n + 1) + 2 * (n + 1) := by
    rw [Nat.mul_succ (n + 1) (n + 1), Nat.mul_succ (n + 1) n, Nat.mul_comm (n + 1) n]
    omega
  omega
theorem len_le {c : Cd} {B : Nat} (hB : ∀ x ∈ c.2, x ≤ B) (i : Nat) : len c i ≤ B := by
  show c.2.getD i 0 ≤ B
  rw [List.getD_eq_getElem?_getD]
  cases e : c.2[i]? with
  | none => exact Nat.zero_le _
  | some x => exact hB x (List.mem_of_getElem? e)
theorem lkI_up {c : Cd} (h : COk c) {B : Nat} (hB : ∀ x ∈ c.2, x ≤ B) : ∀ n, lkI (it n c).2 - lkI c.2 ≤ ((n * B + tri n : Nat) : Int)
  | 0 => by
    show lkI c.2 - lkI c.2 ≤ _
    omega
  | n + 1 => by
    have ih := lkI_up h hB n
    have a := lkI_step n h
    have b : (wd (it n c)).2 ≤ B + n + 1 := by
      have g := len_grow n h (it n c).1
      have l := len_le hB (it n c).1
      show len (it n c) (it n c).1 + 1 ≤ _
      omega
    rw [Nat.succ_mul, tri_succ]
    push_cast at *
    omega
theorem lkI_it_nonneg {c : Cd} (h : COk c) (n : Nat) : (n : Int) ≤ lkI (it n c).2 - lkI c.2 := by
  have z := lkI_le (Nat.zero_le n) h
  have e : it 0 c = c := rfl
  rw [e] at z
  omega
theorem it_single (k : Nat) : ∀ n, it n (0, [k]) = (0, [k + n])
  | 0 => rfl
  | n + 1 => by
    rw [it_succ, it_single k n]
    show ((0 + (k + n + 1)) % 1, [k + n + 1]) = _
    rw [Nat.mod_one]
    rfl
theorem lkI_single (k : Nat) : lkI [k] = (tri k : Int) := by
  rw [lkI_cons]
  exact Int.add_zero _
theorem tri_split (k n : Nat) : ((tri (k + n) : Nat) : Int) - (tri k : Int) = ((n * k + tri n : Nat) : Int) := by
  induction n with
  | zero =>
    rw [Nat.zero_mul]
    show ((tri k : Nat) : Int) - _ = ((0 + 0 : Nat) : Int)
    omega
  | succ n ih =>
    have e : k + (n + 1) = (k + n) + 1 := rfl
    rw [e, tri_succ, tri_succ, Nat.succ_mul]
    omega
/-- behind so many words of one place -/
theorem lkI_place (k n : Nat) : lkI (it n (0, [k])).2 - lkI [k] = ((n * k + tri n : Nat) : Int) := by
  rw [it_single]
  show lkI [k + n] - lkI [k] = _
  rw [lkI_single, lkI_single, tri_split]
theorem lastOf_len {c d : Cd} (e : d.2.length = c.2.length) (x : Nat × Nat) : (x.1 + x.2 - 1) % d.2.length = (x.1 + x.2 - 1) % c.2.length := by rw [e]
end Lk
end
section
set_option maxRecDepth 100000
set_option maxHeartbeats 2000000
/-! Steps between: what is told. -/
namespace Lk
open PySem PySem.Spec PyProof.Rows L2
/-- a place and a list of lengths modulo the places -/
def mdD (c : Cd) : PyData := .tuple [dN c.1, .list ((c.2.map (· % c.2.length)).map dN)]
theorem lay_md (c : Cd) : (mdD c).canLay0 = true := by
  simp only [mdD, PyData.canLay0, PyData.canLayAll0, layAll_ints]
  rfl
theorem shaped_md (c : Cd) : SeqAt.shaped (mdD c) = true := by
  unfold SeqAt.shaped
  rw [Bool.and_eq_true]
  refine ⟨lay_md c, decide_eq_true ?_⟩
  simp only [mdD, PyData.depth, PyData.depthAll, depthAll_ints]
  decide
theorem mods_eq {c d : Cd} (l : c.2.length = d.2.length) : c.2.map (· % c.2.length) = d.2.map (· % d.2.length) ↔ ∀ k, k < d.2.length → len c k % d.2.length = len d k % d.2.length := by
  have at1 : ∀ (x : Cd) (k : Nat), k < x.2.length → (x.2.map (· % x.2.length))[k]? = some (len x k % x.2.length) := fun x k hk => by
    rw [List.getElem?_map, List.getElem?_eq_getElem hk]
    unfold len
    rw [List.getD_eq_getElem?_getD, List.getElem?_eq_getElem hk]
    rfl
  constructor
  · intro e k hk
    have z := congrArg (fun y : List Nat => y[k]?) e
    try dsimp only at z
    rw [at1 c k (l ▸ hk), at1 d k hk, l] at z
    exact Option.some.inj z
  · intro h
    refine List.ext_getElem? fun k => ?_
    by_cases hk : k < d.2.length
    · rw [at1 c k (l ▸ hk), at1 d k hk, l, h k hk]
    · rw [List.getElem?_eq_none (by rw [List.length_map]; omega), List.getElem?_eq_none (by rw [List.length_map]; omega)]
theorem eqv_md {c d : Cd} (l : c.2.length = d.2.length) : (PyData.eqv (mdD c) (mdD d) = true) ↔ Cong c d := by
  simp only [mdD, PyData.eqv, PyData.eqvAll, eqvAll_ints]
  rw [Bool.and_eq_true, Bool.and_true, decide_eq_true_eq, mods_eq l, beq_iff_eq]
  exact ⟨fun h => ⟨by have := h.1; omega, h.2⟩, fun h => ⟨by have := h.1; omega, h.2⟩⟩
def optV : Option Nat → V
  | none => .non
  | some n => .int ((n : Nat) : Int)
def optD : Option Nat → PyData
  | none => .none
  | some n => dN n
theorem th_opt {H : Hp} : ∀ r : Option Nat, Th H (optV r) (optD r)
  | none => .non
  | some n => .int _
theorem good_opt {r : Option Nat} (h : ∀ n, r = some n → n < 1000) : GoodS (optD r) := by
  cases r with
  | none => exact ⟨rfl, by simp [optD, PyData.depth], by decide⟩
  | some n => exact goodS_int (by have := h n rfl; show ((n : Nat) : Int).natAbs < 10 ^ 45; have : n < 10 ^ 45 := Nat.lt_trans this (by decide); omega)
theorem rep_one {K : PySem.W.Frag} {H : Hp} {Q : VK} {v : V} {d : PyData} (t : Th H v d) (g : Good d) (q : Q (.str d.shown) H) : (∀ kvs, d ≠ .dict kvs) → rRep K [v] H Q := fun nd => by
  refine ⟨v, d, rfl, Th.dq _ t, nd, g.1, ?_, ?_, q⟩
  · have z := g.2.1
    omega
  · have a := shown_wt d
    have b := g.2.2
    rw [sizeLine_eq]
    omega
def spModulo : Sp := fun vs H Q _ => ∃ v c, vs = [v] ∧ Cat H v c ∧ CdOk c ∧ ∀ q H', Same H H' → Th H' (.ref q) (mdD c) → Q (.ref q) H'
def toldBtw (c d : Cd) (Q : VK) (H : Hp) : Prop := ∀ r H', Btw c d r → Same H H' → Q (optV r) H'
def spBtw (C1 C2 C3 : Addr) : Sp := fun vs H Q E => spTwo C1 C2 (fun c d Q' H' => ((Free c ∧ Free d) → toldBtw c d Q' H') ∧ (¬ (Free c ∧ Free d) → ∀ H2, Same H' H2 → E (.ref C3) none H2)) vs H Q E
def spDueB : Sp := fun vs H Q _ => ∃ v u c d, vs = [v, u] ∧ Cat H v c ∧ Cat H u d ∧ CdOk c ∧ CdOk d ∧ d.2.length = c.2.length ∧ Free c ∧ toldBtw c d Q H
/-- what has been gone by: not there yet -/
theorem btw_none {c d : Cd} {i : Nat} (h : ∀ m, m < i → ¬ Cong (it m c) d) (e : i = c.2.length * c.2.length) : Btw c d none := fun n hn => h n (by omega)
end Lk
end
section
set_option maxRecDepth 100000
set_option maxHeartbeats 2000000
/-! What stays while a pot is drawn from and lambdas are made. -/
namespace Lk
open PySem PySem.Spec PyProof.Rows L2 LamX NdefX
theorem Urn.keepAll {T : List (Addr × Str)} {a : Addr} {n : Int} {H H1 : Hp} (u : Urn H a n) (e : ExB T a H H1) {ds : List PyData} {vs : List V} (hn : noL.noLs ds = true) (h : ThAll H vs ds) : ThAll H1 vs ds := by
  obtain ⟨u0, u1, u2, eq, _⟩ := u
  have h2 := ThAll.noTb _ h
  have eq2 : noTb H a = some (.lst [.int u0, .int u1, .int u2]) := noTb_at eq fun ps z => nomatch z
  refine ThAll.but eq2 (fun b o n q => e.1 b o n (noTb_same _ _ q) fun ps z => ?_) _ hn h2
  have q2 := noTb_same _ _ q
  unfold noTb at q
  rw [q2, z] at q
  cases q
theorem ThAll.ext {T : List (Addr × Str)} {H H2 : Hp} (e : Ext T H H2) {ds : List PyData} {vs : List V} (h : ThAll H vs ds) : ThAll H2 vs ds := ThAll.same (noTb_ext e.1) _ (ThAll.noTb _ h)
theorem ExB.lst {T : List (Addr × Str)} {a b : Addr} {H H1 : Hp} (e : ExB T a H H1) (nb : b ≠ a) {xs : List V} (h : H b = some (.lst xs)) : H1 b = some (.lst xs) := e.1 b _ nb h fun ps z => nomatch z
theorem goodInt {i : Int} (h : i.natAbs < 10 ^ 45) : Good (.int i) := by
  have g := goodS_int h
  exact ⟨g.1, by have z := g.2; omega, by have z := wt_int h; omega⟩
theorem goodW {x : Nat × Nat} (h1 : x.1 < 10 ^ 45) (h2 : x.2 < 10 ^ 45) : Good (dW x) := good_tup (t := [x.1, x.2]) (fun y hy => by
  simp only [List.mem_cons, List.not_mem_nil, or_false] at hy
  rcases hy with rfl | rfl
  · exact h1
  · exact h2) (by show 2 ≤ 30; decide)
/-- letters of the first so many words, one behind the other -/
def letL (c : Cd) (m : Nat) : List V := (List.range m).map fun k => V.int (lkI (it k c).2 - lkI c.2)
theorem letL_len (c : Cd) (m : Nat) : (letL c m).length = m := by
  unfold letL
  rw [List.length_map, List.length_range]
theorem letL_at (c : Cd) {k m : Nat} (h : k < m) : (letL c m)[k]? = some (.int (lkI (it k c).2 - lkI c.2)) := by
  unfold letL
  rw [List.getElem?_map, List.getElem?_range h]
  rfl
theorem letL_snoc (c : Cd) (m : Nat) : letL c (m + 1) = letL c m ++ [.int (lkI (it m c).2 - lkI c.2)] := by
  unfold letL
  rw [List.range_succ, List.map_append]
  rfl
theorem letL_one (c : Cd) : letL c 1 = [.int 0] := by
  show [V.int (lkI c.2 - lkI c.2)] = _
  rw [Int.sub_self]
theorem wd_at {c : Cd} {n k : Nat} (h : k < n) {H : Hp} {ws : List V} (t : ThAll H ws ((wds n c).map dW)) : ∃ q, ws[k]? = some (.ref q) ∧ H q = some (.tup [.int ((wd (it k c)).1 : Int), .int ((wd (it k c)).2 : Int)]) := by
  have lw : ws.length = n := by rw [t.length, List.length_map, wds_len]
  have gk : ws[k]? = some ws[k] := List.getElem?_eq_getElem (by omega)
  obtain ⟨dx, hdx, tx⟩ := t.get gk
  have edx : dx = dW (wd (it k c)) := by
    unfold wds at hdx
    rw [List.getElem?_map, List.getElem?_map, List.getElem?_range h] at hdx
    exact (Option.some.inj hdx).symm
  subst edx
  obtain ⟨q, eq, hq⟩ := dW_of tx
  exact ⟨q, by rw [gk, eq], hq⟩
end Lk
end
section
set_option maxRecDepth 100000
set_option maxHeartbeats 4000000
namespace Lk
open PySem PySem.Spec PyProof.Rows L2 LamX NdefX
def loN (n : Nat) : Int := [1, 0, 0, 0, 1, 1].getD n 0
def hiN (n : Nat) : Int := if n = 2 then 10 ^ 36 else 10 ^ 18
def toldT (T : List (Addr × Str)) (nm : Str) (Q : VK) (H : Hp) : Prop := ∀ H', Ext T H H' → Q (.str nm) H'
/-- which word it says -/
def spSaid (T : List (Addr × Str)) : Sp := fun vs H Q _ => ∃ (n : Nat) (v u x : V) (d e f : PyData), vs = [.int (n : Int), v, u, x] ∧ n ≤ 5 ∧ Th H v d ∧ Th H u e ∧ Th H x f ∧ Tabs T H ∧ (∀ c, d = cdD c → ∀ x ∈ c.2, x < 10 ^ 39) ∧
  (isCd d = false → toldT T "coder" Q H) ∧
  (∀ c, d = cdD c → CdOk c → n = 5 → inR e 0 ((c.2.length : Int) - 1) = false → toldT T "place" Q H) ∧
  (∀ c, d = cdD c → CdOk c → (n = 5 → inR e 0 ((c.2.length : Int) - 1) = true) → inR f (loN n) (hiN n) = false → toldT T "count" Q H) ∧
  (∀ c, d = cdD c → CdOk c → (n = 5 → inR e 0 ((c.2.length : Int) - 1) = true) → inR f (loN n) (hiN n) = true → toldT T "told" Q H)
section
variable {P : Program} {w : World} {K : PySem.W.Frag} {mg : Str → Option Value} {base : Heap}
abbrev nSa : List Str := ["door", "coder", "place", "number", "caught", "e"]
theorem sc_said : FnScope nSa ["door", "coder", "place", "number"] (defScope s_law_said) := ⟨rfl, rfl, rfl, by decide +kernel, rfl, by decide +kernel, by decide +kernel⟩
theorem ok_said {f C1 C2 C3 LE : Addr} {fd : FuncData} {T : List (Addr × Str)} (F : Fun K "_law_said" "_law_said" s_law_said f fd) (c0 : CalX P w K mg base 6 "word_at" (spOf1 C1 C2 1000000000000000000 toldWd)) (c1 : CalX P w K mg base 6 "letters_by" (spLet C1 C2)) (c2 : CalX P w K mg base 6 "number_at" (spNumAt C1 C2 T))
    (c3 : CalX P w K mg base 6 "longest_by" (spOf C1 C2 1000000000000000000 toldMax)) (c4 : CalX P w K mg base 7 "pair_at" (spPairAt C1 C2 T)) (c5 : CalX P w K mg base 7 "learnt_by" (spLearnt C1 C2 C3 T))
    (cc : C8.Cal P w K mg base 1 "_law_class" (spCls [(C1, "coder"), (C3, "place"), (C2, "count")]) []) (gE : mg "LearnError" = some (.ref LE)) (te1 : PySem.W.exmOne K (.ref C1) (.ref LE) = some true) (te2 : PySem.W.exmOne K (.ref C2) (.ref LE) = some true) (te3 : PySem.W.exmOne K (.ref C3) (.ref LE) = some true) : FnOk P w K mg base CX0 9 f fd ["door", "coder", "place", "number"] (spSaid T) := by
  refine F.ok sc_said (fun vs H Q E h => ?_) (fun cdv A outer s H vs Q E hr h => ?_)
  · obtain ⟨n, v, u, x, d, e, f, rfl, _⟩ := h
    rfl
  · obtain ⟨n, v, u, x, d, e, f, rfl, n5, hv, hu, hx, tabs, hB, qc, qp, qn, qt⟩ := h
    have nd := sc_said.nd
    obtain ⟨f0, fd0, ps0, F0, g0, kp0, b0⟩ := c0.ex
    obtain ⟨f1, fd1, ps1, F1, g1, kp1, b1⟩ := c1.ex
    obtain ⟨f2, fd2, ps2, F2, g2, kp2, b2⟩ := c2.ex
    obtain ⟨f3, fd3, ps3, F3, g3, kp3, b3⟩ := c3.ex
    obtain ⟨f4, fd4, ps4, F4, g4, kp4, b4⟩ := c4.ex
    refine ⟨_, pss_cons (ps_set (i := 4) nd rfl (Or.inl rfl) pe_non)
      (pss_cons (ps_try_keep (i := 5) (ts := fun _ _ _ => tAsg (tVar 5) (gName 4)) rfl rfl rfl nd rfl rfl ⟨rfl, by decide, Or.inl gE⟩
        (fun W pn xe tk _ => (by exact (pss_one (by exact (ps_if (pt_cmpR op_eq (pv 0) pe_int (nomark _)) (pss_one (by exact (ps_expr (pe_cX c5 tk hr (by decide) rfl (pa_cons (pv 1) (pa_cons (pv 2) (pa_cons (pv 3) pa_nil))))))) (by exact (pss_one (by exact (ps_expr (pe_callV (P := P) (w := w) (K := K) (mg := mg) (base := base) rfl rfl rfl rfl rfl (pe_ix (ix_listK (K := K) rfl) (pe_lstS (pa_cons (pe_glob (v := .ref f0) rfl g0 rfl) (pa_cons (pe_glob (v := .ref f1) rfl g1 rfl) (pa_cons (pe_glob (v := .ref f2) rfl g2 rfl) (pa_cons (pe_glob (v := .ref f3) rfl g3 rfl) (pa_cons (pe_glob (v := .ref f4) rfl g4 rfl) pa_nil)))))) (pv 0) (fun _ _ => rfl)) tk hr (pa_cons (pv 1) (pa_cons (pv 3) pa_nil))))))))))))
        (fun a oe cls d pn hz hf => by exact (pss_one (ps_set (i := 4) nd rfl (Or.inl rfl) (pv 5)))))
      (pss_one (by exact (ps_ret (pe_ifExp (pt_cmpR op_isN (pv 4) pe_non (nomark _)) pe_str (C8.pe_c cc hr (by decide) rfl (pa_cons (pv 4) pa_nil))))))), ?_⟩
    have m1 : (C1, ("coder" : Str)) ∈ [(C1, ("coder" : Str)), (C3, "place"), (C2, "count")] := List.mem_cons_self
    have m3 : (C3, ("place" : Str)) ∈ [(C1, ("coder" : Str)), (C3, "place"), (C2, "count")] := List.mem_cons_of_mem _ List.mem_cons_self
    have m2 : (C2, ("count" : Str)) ∈ [(C1, ("coder" : Str)), (C3, "place"), (C2, "count")] := List.mem_cons_of_mem _ (List.mem_cons_of_mem _ List.mem_cons_self)
    refine ⟨_, rfl, rfl, _, rfl, ite2 (fun g => ?_) (fun g => ?_)⟩
    · have en : n = 5 := by
        have z := V.int.inj (of_decide_eq_true g)
        omega
      subst en
      refine ⟨_, rfl, _, rfl, _, rfl, v, u, x, d, e, f, rfl, hv, hu, hx, tabs, (fun c ec y hy => Nat.lt_trans (hB c ec y hy) (by decide)), fun hd H1 s1 => ⟨te1, fun a na => ⟨_, rfl, fun na' => ?_⟩⟩, fun c ec hc hi H1 s1 => ⟨te3, fun a na => ⟨_, rfl, fun na' => ?_⟩⟩, fun c ec hc hi hf H1 s1 => ⟨te2, fun a na => ⟨_, rfl, fun na' => ?_⟩⟩, fun c i l ec hc ei el hi h1 hl m H1 ext till => ?_⟩
      · refine ⟨_, rfl, rfl, _, rfl, ?_⟩
        rw [decide_eq_false (show ¬ (V.ref a = V.non) from fun z => nomatch z)]
        exact ⟨_, rfl, a, C1, "coder", rfl, m1, upd_same, fun H2 s2 => qc hd H2 (Ext.of tabs (Same.trans (Same.trans s1 (same_new na)) s2))⟩
      · refine ⟨_, rfl, rfl, _, rfl, ?_⟩
        rw [decide_eq_false (show ¬ (V.ref a = V.non) from fun z => nomatch z)]
        exact ⟨_, rfl, a, C3, "place", rfl, m3, upd_same, fun H2 s2 => qp c ec hc rfl hi H2 (Ext.of tabs (Same.trans (Same.trans s1 (same_new na)) s2))⟩
      · refine ⟨_, rfl, rfl, _, rfl, ?_⟩
        rw [decide_eq_false (show ¬ (V.ref a = V.non) from fun z => nomatch z)]
        exact ⟨_, rfl, a, C2, "count", rfl, m2, upd_same, fun H2 s2 => qn c ec hc (fun _ => hi) hf H2 (Ext.of tabs (Same.trans (Same.trans s1 (same_new na)) s2))⟩
      · have g1 : inR e 0 ((c.2.length : Int) - 1) = true := by
          rw [ei]
          show (decide ((0 : Int) ≤ (i : Int)) && decide ((i : Int) ≤ (c.2.length : Int) - 1)) = true
          rw [decide_eq_true (by omega), decide_eq_true (by omega)]
          rfl
        have g2 : inR f 1 (10 ^ 18) = true := by
          rw [el]
          show (decide ((1 : Int) ≤ (l : Int)) && decide ((l : Int) ≤ 10 ^ 18)) = true
          rw [decide_eq_true (by omega), decide_eq_true (by omega)]
          rfl
        exact ⟨_, rfl, rfl, _, rfl, qt c ec hc (fun _ => g1) g2 H1 ext⟩
    · have n4 : n ≤ 4 := by
        have z : n ≠ 5 := fun e => g (decide_eq_true (by rw [e]; rfl))
        omega
      refine ⟨(by show 5 ≤ sizeLine; decide), fun L HL nL sL eL => ?_⟩
      have hvL := Th.same sL _ hv
      have hxL := Th.same sL _ hx
      have tabsL := tabs.ext sL
      match n, n4 with
      | 0, _ =>
        refine ⟨_, rfl, L, _, 0, .ref f0, rfl, rfl, SqL.of eL, rfl, f0, 6, _, rfl, by decide, ⟨fd0, ps0, F0, kp0, b0⟩, _, rfl, _, rfl, ?_⟩
        refine ⟨v, x, d, f, rfl, hvL, hxL, fun hd H1 s1 => ⟨te1, fun a na => ⟨_, rfl, fun na' => ?_⟩⟩, fun hd hf H1 s1 => ⟨te2, fun a na => ⟨_, rfl, fun na' => ?_⟩⟩, fun c m ec hc en h1 hn qq H1 s1 hq => ?_⟩
        · refine ⟨_, rfl, rfl, _, rfl, ?_⟩
          rw [decide_eq_false (show ¬ (V.ref a = V.non) from fun z => nomatch z)]
          exact ⟨_, rfl, a, C1, "coder", rfl, m1, upd_same, fun H2 s2 => qc hd H2 (Ext.of tabs (Same.trans sL (Same.trans (Same.trans s1 (same_new na)) s2)))⟩
        · refine ⟨_, rfl, rfl, _, rfl, ?_⟩
          rw [decide_eq_false (show ¬ (V.ref a = V.non) from fun z => nomatch z)]
          obtain ⟨c, ec, hc⟩ := isCd_of hd
          have hf2 : inR f (loN 0) (hiN 0) = false := hf
          exact ⟨_, rfl, a, C2, "count", rfl, m2, upd_same, fun H2 s2 => qn c ec hc (fun z => absurd z (by decide)) hf2 H2 (Ext.of tabs (Same.trans sL (Same.trans (Same.trans s1 (same_new na)) s2)))⟩
        · have g2 : inR f (loN 0) (hiN 0) = true := by
            rw [en]
            show (decide ((1 : Int) ≤ (m : Int)) && decide ((m : Int) ≤ 10 ^ 18)) = true
            rw [decide_eq_true (by omega), decide_eq_true (by omega)]
            rfl
          exact ⟨_, rfl, rfl, _, rfl, qt c ec hc (fun z => absurd z (by decide)) g2 H1 (Ext.of tabs (Same.trans sL s1))⟩
      | 1, _ =>
        refine ⟨_, rfl, L, _, 1, .ref f1, rfl, rfl, SqL.of eL, rfl, f1, 6, _, rfl, by decide, ⟨fd1, ps1, F1, kp1, b1⟩, _, rfl, _, rfl, ?_⟩
        refine ⟨v, x, d, f, rfl, hvL, hxL, (fun c ec y hy => Nat.lt_trans (hB c ec y hy) (by decide)), fun hd H1 s1 => ⟨te1, fun a na => ⟨_, rfl, fun na' => ?_⟩⟩, fun hd hf H1 s1 => ⟨te2, fun a na => ⟨_, rfl, fun na' => ?_⟩⟩, fun c m ec hc en hn H1 s1 => ?_⟩
        · refine ⟨_, rfl, rfl, _, rfl, ?_⟩
          rw [decide_eq_false (show ¬ (V.ref a = V.non) from fun z => nomatch z)]
          exact ⟨_, rfl, a, C1, "coder", rfl, m1, upd_same, fun H2 s2 => qc hd H2 (Ext.of tabs (Same.trans sL (Same.trans (Same.trans s1 (same_new na)) s2)))⟩
        · refine ⟨_, rfl, rfl, _, rfl, ?_⟩
          rw [decide_eq_false (show ¬ (V.ref a = V.non) from fun z => nomatch z)]
          obtain ⟨c, ec, hc⟩ := isCd_of hd
          have hf2 : inR f (loN 1) (hiN 1) = false := hf
          exact ⟨_, rfl, a, C2, "count", rfl, m2, upd_same, fun H2 s2 => qn c ec hc (fun z => absurd z (by decide)) hf2 H2 (Ext.of tabs (Same.trans sL (Same.trans (Same.trans s1 (same_new na)) s2)))⟩
        · have g2 : inR f (loN 1) (hiN 1) = true := by
            rw [en]
            show (decide ((0 : Int) ≤ (m : Int)) && decide ((m : Int) ≤ 10 ^ 18)) = true
            rw [decide_eq_true (by omega), decide_eq_true (by omega)]
            rfl
          exact ⟨_, rfl, rfl, _, rfl, qt c ec hc (fun z => absurd z (by decide)) g2 H1 (Ext.of tabs (Same.trans sL s1))⟩
      | 2, _ =>
        refine ⟨_, rfl, L, _, 2, .ref f2, rfl, rfl, SqL.of eL, rfl, f2, 6, _, rfl, by decide, ⟨fd2, ps2, F2, kp2, b2⟩, _, rfl, _, rfl, ?_⟩
        refine ⟨v, x, d, f, rfl, hvL, hxL, tabsL, (fun c ec y hy => Nat.lt_trans (hB c ec y hy) (by decide)), fun hd H1 s1 => ⟨te1, fun a na => ⟨_, rfl, fun na' => ?_⟩⟩, fun hd hf H1 s1 => ⟨te2, fun a na => ⟨_, rfl, fun na' => ?_⟩⟩, fun c m ec hc en hn r H1 ext till => ?_⟩
        · refine ⟨_, rfl, rfl, _, rfl, ?_⟩
          rw [decide_eq_false (show ¬ (V.ref a = V.non) from fun z => nomatch z)]
          exact ⟨_, rfl, a, C1, "coder", rfl, m1, upd_same, fun H2 s2 => qc hd H2 (Ext.of tabs (Same.trans sL (Same.trans (Same.trans s1 (same_new na)) s2)))⟩
        · refine ⟨_, rfl, rfl, _, rfl, ?_⟩
          rw [decide_eq_false (show ¬ (V.ref a = V.non) from fun z => nomatch z)]
          obtain ⟨c, ec, hc⟩ := isCd_of hd
          have hf2 : inR f (loN 2) (hiN 2) = false := hf
          exact ⟨_, rfl, a, C2, "count", rfl, m2, upd_same, fun H2 s2 => qn c ec hc (fun z => absurd z (by decide)) hf2 H2 (Ext.of tabs (Same.trans sL (Same.trans (Same.trans s1 (same_new na)) s2)))⟩
        · have g2 : inR f (loN 2) (hiN 2) = true := by
            rw [en]
            show (decide ((0 : Int) ≤ (m : Int)) && decide ((m : Int) ≤ 10 ^ 36)) = true
            rw [decide_eq_true (by omega), decide_eq_true (by omega)]
            rfl
          exact ⟨_, rfl, rfl, _, rfl, qt c ec hc (fun z => absurd z (by decide)) g2 H1 (Ext.trans (Ext.of tabs sL) ext)⟩
      | 3, _ =>
        refine ⟨_, rfl, L, _, 3, .ref f3, rfl, rfl, SqL.of eL, rfl, f3, 6, _, rfl, by decide, ⟨fd3, ps3, F3, kp3, b3⟩, _, rfl, _, rfl, ?_⟩
        refine ⟨v, x, d, f, rfl, hvL, hxL, fun hd H1 s1 => ⟨te1, fun a na => ⟨_, rfl, fun na' => ?_⟩⟩, fun hd hf H1 s1 => ⟨te2, fun a na => ⟨_, rfl, fun na' => ?_⟩⟩, fun c m ec hc en hn r H1 hr2 s1 => ?_⟩
        · refine ⟨_, rfl, rfl, _, rfl, ?_⟩
          rw [decide_eq_false (show ¬ (V.ref a = V.non) from fun z => nomatch z)]
          exact ⟨_, rfl, a, C1, "coder", rfl, m1, upd_same, fun H2 s2 => qc hd H2 (Ext.of tabs (Same.trans sL (Same.trans (Same.trans s1 (same_new na)) s2)))⟩
        · refine ⟨_, rfl, rfl, _, rfl, ?_⟩
          rw [decide_eq_false (show ¬ (V.ref a = V.non) from fun z => nomatch z)]
          obtain ⟨c, ec, hc⟩ := isCd_of hd
          have hf2 : inR f (loN 3) (hiN 3) = false := hf
          exact ⟨_, rfl, a, C2, "count", rfl, m2, upd_same, fun H2 s2 => qn c ec hc (fun z => absurd z (by decide)) hf2 H2 (Ext.of tabs (Same.trans sL (Same.trans (Same.trans s1 (same_new na)) s2)))⟩
        · have g2 : inR f (loN 3) (hiN 3) = true := by
            rw [en]
            show (decide ((0 : Int) ≤ (m : Int)) && decide ((m : Int) ≤ 10 ^ 18)) = true
            rw [decide_eq_true (by omega), decide_eq_true (by omega)]
            rfl
          exact ⟨_, rfl, rfl, _, rfl, qt c ec hc (fun z => absurd z (by decide)) g2 H1 (Ext.of tabs (Same.trans sL s1))⟩
      | 4, _ =>
        refine ⟨_, rfl, L, _, 4, .ref f4, rfl, rfl, SqL.of eL, rfl, f4, 7, _, rfl, by decide, ⟨fd4, ps4, F4, kp4, b4⟩, _, rfl, _, rfl, ?_⟩
        refine ⟨v, x, d, f, rfl, hvL, hxL, tabsL, hB, fun hd H1 s1 => ⟨te1, fun a na => ⟨_, rfl, fun na' => ?_⟩⟩, fun hd hf H1 s1 => ⟨te2, fun a na => ⟨_, rfl, fun na' => ?_⟩⟩, fun c m ec hc en h1 hn qq wv H1 ext hw hq => ?_⟩
        · refine ⟨_, rfl, rfl, _, rfl, ?_⟩
          rw [decide_eq_false (show ¬ (V.ref a = V.non) from fun z => nomatch z)]
          exact ⟨_, rfl, a, C1, "coder", rfl, m1, upd_same, fun H2 s2 => qc hd H2 (Ext.of tabs (Same.trans sL (Same.trans (Same.trans s1 (same_new na)) s2)))⟩
        · refine ⟨_, rfl, rfl, _, rfl, ?_⟩
          rw [decide_eq_false (show ¬ (V.ref a = V.non) from fun z => nomatch z)]
          obtain ⟨c, ec, hc⟩ := isCd_of hd
          have hf2 : inR f (loN 4) (hiN 4) = false := hf
          exact ⟨_, rfl, a, C2, "count", rfl, m2, upd_same, fun H2 s2 => qn c ec hc (fun z => absurd z (by decide)) hf2 H2 (Ext.of tabs (Same.trans sL (Same.trans (Same.trans s1 (same_new na)) s2)))⟩
        · have g2 : inR f (loN 4) (hiN 4) = true := by
            rw [en]
            show (decide ((1 : Int) ≤ (m : Int)) && decide ((m : Int) ≤ 10 ^ 18)) = true
            rw [decide_eq_true (by omega), decide_eq_true (by omega)]
            rfl
          exact ⟨_, rfl, rfl, _, rfl, qt c ec hc (fun z => absurd z (by decide)) g2 H1 (Ext.trans (Ext.of tabs sL) ext)⟩
      | k + 5, h => exact absurd h (by omega)
end
end Lk
end
section
set_option maxRecDepth 100000
set_option maxHeartbeats 2000000
/-! What is no coder; that it can be shown. -/
namespace Lk
open PySem PySem.Spec PyProof.Rows L2
theorem isCd_pr (p : PyData) (ls : List PyData) : isCd (.tuple [p, .tuple ls]) = ((decide (1 ≤ ls.length) && decide (ls.length ≤ 12)) && (inR p 0 ((ls.length : Int) - 1) && ls.all natD)) := rfl
/-- a thing that is not too long -/
def GoodM (d : PyData) : Prop := d.showable = true ∧ d.depth ≤ 7 ∧ wt d ≤ 900
theorem GoodM.good {d : PyData} (h : GoodM d) : Good d := ⟨h.1, by have := h.2.1; omega, by have := h.2.2; omega⟩
theorem GoodS.m {d : PyData} (h : GoodS d) : GoodM d := ⟨h.1, by have := h.2.1; omega, by have := h.2.2; omega⟩
theorem goodM_nats {ls : List Nat} (h : ∀ n ∈ ls, n < 10 ^ 45) (l : ls.length ≤ 18) : GoodM (.tuple (ls.map dN)) := by
  refine ⟨?_, ?_, ?_⟩
  · simp only [PyData.showable, showAll_nats h]
  · simp only [PyData.depth, depthAll_ints]
    decide
  · have b := wts_nats h
    show 3 + wts (ls.map dN) ≤ 900
    omega
theorem goodM_lst {ls : List Nat} (h : ∀ n ∈ ls, n < 10 ^ 45) (l : ls.length ≤ 18) : GoodM (.list (ls.map dN)) := by
  refine ⟨?_, ?_, ?_⟩
  · simp only [PyData.showable, showAll_nats h]
  · simp only [PyData.depth, depthAll_ints]
    decide
  · have b := wts_nats h
    show 2 + wts (ls.map dN) ≤ 900
    omega
theorem goodM_some {ds : List PyData} (h : ∀ d ∈ ds, GoodS d ∧ wt d ≤ 60) (l : ds.length ≤ 14) : GoodM (.tuple ds) := by
  refine ⟨?_, ?_, ?_⟩
  · simp only [PyData.showable]
    exact showAll_of fun d hd => (h d hd).1.1
  · have z := depAll_le (B := 6) fun d hd => (h d hd).1.2.1
    simp only [PyData.depth]
    omega
  · have z := wts_le (B := 60) (ds := ds) fun d hd => (h d hd).2
    have z2 : ds.length * 62 ≤ 14 * 62 := Nat.mul_le_mul_right _ l
    show 3 + wts ds ≤ 900
    omega
/-- a pair or so of such -/
theorem good_of {ds : List PyData} (h : ∀ d ∈ ds, GoodM d) (l : ds.length ≤ 2 ∨ wts ds ≤ 1900) : Good (.tuple ds) := by
  have z3 : wts ds ≤ 1900 := by
    rcases l with l | l
    · have z := wts_le (B := 900) (ds := ds) fun d hd => (h d hd).2.2
      have z2 : ds.length * 902 ≤ 2 * 902 := Nat.mul_le_mul_right _ l
      omega
    · exact l
  refine ⟨?_, ?_, ?_⟩
  · simp only [PyData.showable]
    exact showAll_of fun d hd => (h d hd).1
  · have z := depAll_le (B := 7) fun d hd => (h d hd).2.1
    simp only [PyData.depth]
    omega
  · show 3 + wts ds ≤ 2000
    omega
theorem good_ofL {ds : List PyData} (h : ∀ d ∈ ds, GoodM d) (l : ds.length ≤ 2) : Good (.list ds) := by
  have z := wts_le (B := 900) (ds := ds) fun d hd => (h d hd).2.2
  have z2 : ds.length * 902 ≤ 2 * 902 := Nat.mul_le_mul_right _ l
  refine ⟨?_, ?_, ?_⟩
  · simp only [PyData.showable]
    exact showAll_of fun d hd => (h d hd).1
  · have z := depAll_le (B := 7) fun d hd => (h d hd).2.1
    simp only [PyData.depth]
    omega
  · show 2 + wts ds ≤ 2000
    omega
/-- what no length is, nor a place -/
def OddD (d : PyData) : Prop := natD d = false ∧ (∀ b, inR d 0 b = false) ∧ GoodS d ∧ wt d ≤ 60
def spNoCoders : Sp := fun vs H Q _ => ∃ (a : Addr) (v : V) (c : Cd) (n : Int), vs = [.ref a, v] ∧ Urn H a n ∧ n ≤ 90000 ∧ Cat H v c ∧ CdOk c ∧ (∀ x ∈ c.2, x < 10 ^ 45) ∧
  ∀ D H' ws ds, H' D = some (.lst ws) → ThAll (rm a H') ws ds → (∀ d ∈ ds, isCd d = false) → (∀ d ∈ ds, Good d) → ds.length = 19 → Urn H' a (n + 2) → SameBut a H H' → Q (.ref D) H'
/-- a set of places without place 0 that is not left -/
theorem not_free {g : List Nat} (hg : ∀ x ∈ g, x < g.length) (S : Nat → Prop) (h0 : ¬ S 0) (cl : ∀ i, i < g.length → S i → S (g.getD i 0)) {i : Nat} (hi : i < g.length) (hS : S i) : ¬ Free (cdOf g) := fun h => by
  obtain ⟨k, hk⟩ := h i (by rw [cdOf_len]; exact hi)
  have hok : COk (cdOf g) := cdOf_ok (Nat.lt_of_le_of_lt (Nat.zero_le _) hi)
  have key : ∀ k, gon (cdOf g) k i < g.length ∧ S (gon (cdOf g) k i) := fun k => by
    induction k with
    | zero => exact ⟨hi, hS⟩
    | succ k ih =>
      refine ⟨by rw [← cdOf_len g]; exact gon_lt hok (by rw [cdOf_len]; exact hi) _, ?_⟩
      rw [gon_succ, cdOf_go hg ih.1]
      exact cl _ ih.1 ih.2
  have z := (key k).2
  rw [hk] at z
  exact h0 z
/-- a tree with one goal bent to the place itself -/
theorem bent_own {p k : Nat} {t : List Nat} (ht : TOk p t) (hk : k < t.length) : ¬ IsTr p (tD (t.take k ++ [k + 1] ++ t.drop (k + 1))) := fun ⟨u, eu, l, b, fr⟩ => by
  have e := tD_inj eu
  subst e
  have eS : t.take k ++ [k + 1] ++ t.drop (k + 1) = t.set k (k + 1) := by
    rw [List.set_eq_take_append_cons_drop, if_pos hk, List.append_assoc]
    rfl
  rw [eS] at fr b l
  rw [List.length_set] at l
  refine not_free (g := 0 :: t.set k (k + 1)) (fun x hx => ?_) (fun i => i = k + 1) (by omega) (fun i hi e => ?_) (i := k + 1) ?_ rfl fr
  · rw [List.length_cons, List.length_set, l]
    rcases List.mem_cons.mp hx with rfl | h
    · omega
    · exact b x h
  · rw [e, List.getD_eq_getElem?_getD, List.getElem?_cons_succ, List.getElem?_set_self hk]
    rfl
  · rw [List.length_cons, List.length_set]
    omega
/-- .. with a goal beyond -/
theorem bent_far {p k x : Nat} {t : List Nat} (hx : p ≤ x) : ¬ IsTr p (tD (t.take k ++ [x] ++ t.drop (k + 1))) := fun ⟨u, eu, l, b, fr⟩ => by
  have e := tD_inj eu
  subst e
  have z := b x (by simp)
  omega
/-- .. with what is no place -/
theorem bent_odd {p : Nat} {a b : List PyData} {d : PyData} (hd : natD d = false) : ¬ IsTr p (.tuple (a ++ [d] ++ b)) := fun ⟨u, eu, _⟩ => by
  have e : a ++ [d] ++ b = u.map dN := PyData.tuple.inj eu
  have m : d ∈ u.map dN := by rw [← e]; simp
  obtain ⟨j, _, rfl⟩ := List.mem_map.mp m
  have z : natD (dN j) = true := decide_eq_true (show (0 : Int) ≤ (j : Int) by omega)
  rw [z] at hd
  cases hd
/-- the ring of all places but place 0 -/
theorem bent_ring {p : Nat} (p2 : 2 ≤ p) : ¬ IsTr p (tD ((List.range (p - 2)).map (· + 2) ++ [1])) := fun ⟨u, eu, l, b, fr⟩ => by
  have e := tD_inj eu
  subst e
  have ln : ((List.range (p - 2)).map (· + 2) ++ [1]).length = p - 1 := by
    rw [List.length_append, List.length_map, List.length_range]
    show p - 2 + 1 = p - 1
    omega
  refine not_free (g := 0 :: ((List.range (p - 2)).map (· + 2) ++ [1])) (fun x hx => ?_) (fun i => i ≠ 0) (fun h => h rfl) (fun i hi e => ?_) (i := 1) ?_ (by omega) fr
  · rw [List.length_cons, ln]
    rcases List.mem_cons.mp hx with rfl | h
    · omega
    · have := b x h
      omega
  · obtain ⟨j, rfl⟩ : ∃ j, i = j + 1 := ⟨i - 1, by omega⟩
    rw [List.length_cons, ln] at hi
    rw [List.getD_eq_getElem?_getD, List.getElem?_cons_succ]
    by_cases h : j < p - 2
    · rw [List.getElem?_append_left (by rw [List.length_map, List.length_range]; exact h), List.getElem?_map, List.getElem?_range h]
      show j + 2 ≠ 0
      omega
    · have ej : j = p - 2 := by omega
      rw [List.getElem?_append_right (by rw [List.length_map, List.length_range]; omega), List.length_map, List.length_range, ej, Nat.sub_self]
      show (1 : Nat) ≠ 0
      omega
  · rw [List.length_cons, ln]
    omega
def spBent : Sp := fun vs H Q _ => ∃ (a pt : Addr) (p : Nat) (t : List Nat) (n : Int), vs = [.ref a, .int (p : Int), .ref pt] ∧ Urn H a n ∧ n ≤ 90000 ∧ H pt = some (.tup (t.map vN)) ∧ TOk p t ∧ p ≤ 12 ∧
  ∀ D H' ws ds, D ≠ a → H' D = some (.lst ws) → ThAll (rm a H') ws ds → (∀ d ∈ ds, ¬ IsTr p d) → (∀ d ∈ ds, Good d) → ds.length ≤ 12 → Urn H' a (n + 1) → SameBut a H H' → Q (.ref D) H'
end Lk
end
section
set_option maxRecDepth 100000
set_option maxHeartbeats 4000000
namespace Lk
open PySem PySem.Spec PyProof.Rows L2
def noL36 : List PyData := [.none, (.int 0), (.str "at 0 knows 0"), (.tuple []), (.list []), (.dict []), (.tuple [(.int 0)]), (.tuple [(.int 0), (.tuple [])]), (.tuple [(.int 0), (.list [(.int 0)])]), (.list [(.int 0), (.tuple [(.int 0)])]), (.tuple [(.int 1), (.tuple [(.int 0)])]), (.tuple [(.int (-1)), (.tuple [(.int 0), (.int 0)])]), (.tuple [(.bool true), (.tuple [(.int 0), (.int 0)])]), (.tuple [(.int 0), (.tuple [(.bool true)])]), (.tuple [(.int 0), (.tuple [(.int (-1))])]), (.tuple [(.int 0), (.tuple [(.str "0")])]), (.tuple [(.int 0), (.tuple [.none])]), (.tuple [(.int 0), (.tuple [(.int 0)]), (.int 0)]), (.tuple [(.int 0), (.tuple (List.replicate 13 (.int 0)))]), (.tuple [(.int 0), (.tuple [(.tuple [(.int 0)])])])]
def smallD : PyData → Bool
  | .tuple [_, .tuple ls] => ls.all fun e => match e with
    | .int i => decide (i < 10 ^ 39)
    | _ => true
  | _ => true
theorem small_lens {d : PyData} (h : smallD d = true) : ∀ c : Cd, d = cdD c → ∀ x ∈ c.2, x < 10 ^ 39 := fun c e x hx => by
  rw [e] at h
  have z := List.all_eq_true.mp (show ((c.2.map dN).all fun e => match e with
    | .int i => decide (i < 10 ^ 39)
    | _ => true) = true from h) (dN x) (List.mem_map_of_mem hx)
  have y : (x : Int) < 10 ^ 39 := of_decide_eq_true z
  omega
theorem no36 : ∀ d ∈ noL36, isCd d = false ∧ smallD d = true ∧ Good d := by
  intro d hd
  simp only [noL36, List.mem_cons, List.not_mem_nil, or_false] at hd
  rcases hd with rfl | rfl | rfl | rfl | rfl | rfl | rfl | rfl | rfl | rfl | rfl | rfl | rfl | rfl | rfl | rfl | rfl | rfl | rfl | rfl
  all_goals exact ⟨by decide +kernel, by decide +kernel, by decide +kernel, by decide +kernel, by decide +kernel⟩
def spNoCoder : Sp := fun vs H Q _ => ∃ (a : Addr) (n : Int), vs = [.ref a] ∧ Urn H a n ∧ n ≤ 90000 ∧
  ∀ v d H', Th (rm a H') v d → isCd d = false → (∀ c : Cd, d = cdD c → ∀ x ∈ c.2, x < 10 ^ 39) → Good d → Urn H' a (n + 1) → SameBut a H H' → Q v H'
section
variable {P : Program} {w : World} {K : PySem.W.Frag} {mg : Str → Option Value} {base : Heap}
abbrev nNo : List Str := ["pot", "some"]
theorem sc_noCoder : FnScope nNo ["pot"] (defScope s_law_no_coder) := ⟨rfl, rfl, rfl, by decide +kernel, rfl, by decide +kernel, by decide +kernel⟩
theorem ok_noCoder {f : Addr} {fd : FuncData} (F : Fun K "_law_no_coder" "_law_no_coder" s_law_no_coder f fd) (draw : C8.Cal P w K mg base 1 "_law_draw" spPull []) : FnOk P w K mg base CX0 2 f fd ["pot"] spNoCoder := by
  refine F.ok sc_noCoder (fun vs H Q E h => ?_) (fun cdv A outer s H vs Q E hr h => ?_)
  · obtain ⟨a, n, rfl, _⟩ := h
    rfl
  · obtain ⟨a, n, rfl, bA, hn, q⟩ := h
    have nd := sc_noCoder.nd
    refine ⟨_, (pss_cons (by exact (ps_set (i := 1) nd rfl (Or.inl rfl) (pe_lstS (pa_cons pe_non (pa_cons pe_int (pa_cons pe_str (pa_cons (pe_tupS pa_nil) (pa_cons (pe_lstS pa_nil) (pa_cons pe_dnewK (pa_cons (pe_tupS (pa_cons pe_int pa_nil)) (pa_cons (pe_tupS (pa_cons pe_int (pa_cons (pe_tupS pa_nil) pa_nil))) (pa_cons (pe_tupS (pa_cons pe_int (pa_cons (pe_lstS (pa_cons pe_int pa_nil)) pa_nil))) (pa_cons (pe_lstS (pa_cons pe_int (pa_cons (pe_tupS (pa_cons pe_int pa_nil)) pa_nil))) (pa_cons (pe_tupS (pa_cons pe_int (pa_cons (pe_tupS (pa_cons pe_int pa_nil)) pa_nil))) (pa_cons (pe_tupS (pa_cons (pe_un un_neg pe_int) (pa_cons (pe_tupS (pa_cons pe_int (pa_cons pe_int pa_nil))) pa_nil))) pa_nil)))))))))))))))
      (pss_cons (by exact (ps_set (i := 1) nd rfl (Or.inl rfl) (pe_op op_catS (pv 1) (pe_lstS (pa_cons (pe_tupS (pa_cons pe_bl (pa_cons (pe_tupS (pa_cons pe_int (pa_cons pe_int pa_nil))) pa_nil))) (pa_cons (pe_tupS (pa_cons pe_int (pa_cons (pe_tupS (pa_cons pe_bl pa_nil)) pa_nil))) (pa_cons (pe_tupS (pa_cons pe_int (pa_cons (pe_tupS (pa_cons (pe_un un_neg pe_int) pa_nil)) pa_nil))) (pa_cons (pe_tupS (pa_cons pe_int (pa_cons (pe_tupS (pa_cons pe_str pa_nil)) pa_nil))) (pa_cons (pe_tupS (pa_cons pe_int (pa_cons (pe_tupS (pa_cons pe_non pa_nil)) pa_nil))) (pa_cons (pe_tupS (pa_cons pe_int (pa_cons (pe_tupS (pa_cons pe_int pa_nil)) (pa_cons pe_int pa_nil)))) pa_nil))))))))))
      (pss_one (by exact (ps_ret (pe_ix ix_list (pe_op op_catS (pv 1) (pe_lstS (pa_cons (pe_tupS (pa_cons pe_int (pa_cons (pe_op op_repTT (pe_tupS (pa_cons pe_int pa_nil)) pe_int) pa_nil))) (pa_cons (pe_tupS (pa_cons pe_int (pa_cons (pe_tupS (pa_cons (pe_tupS (pa_cons pe_int pa_nil)) pa_nil)) pa_nil))) pa_nil)))) (C8.pe_c draw hr (by decide) rfl (pa_cons (pv 0) (pa_cons pe_int pa_nil))) (fun _ _ => rfl))))))), ?_⟩
    have z0 : (0 : Nat) ≤ sizeLine := Nat.zero_le _
    have z1 : (1 : Nat) ≤ sizeLine := by decide
    have z2 : (2 : Nat) ≤ sizeLine := by decide
    have z3 : (3 : Nat) ≤ sizeLine := by decide
    have z6 : (6 : Nat) ≤ sizeLine := by decide
    have z12 : (12 : Nat) ≤ sizeLine := by decide
    refine ⟨z0, fun a1 K1 i1 x1 f1 => ⟨z0, fun a2 K2 i2 x2 f2 => ?_⟩⟩
    intro a3 i3
    have x3 : Same K2 (upd K2 a3 (.dK [])) := same_new i3
    have f3 : upd K2 a3 (.dK []) a3 = some (.dK []) := upd_same
    generalize upd K2 a3 (.dK []) = K3 at x3 f3
    refine ⟨z1, fun a4 K4 i4 x4 f4 => ⟨z0, fun a5 K5 i5 x5 f5 => ⟨z2, fun a6 K6 i6 x6 f6 => ⟨z1, fun a7 K7 i7 x7 f7 => ⟨z2, fun a8 K8 i8 x8 f8 => ⟨z1, fun a9 K9 i9 x9 f9 => ⟨z2, fun a10 K10 i10 x10 f10 => ⟨z1, fun a11 K11 i11 x11 f11 => ⟨z2, fun a12 K12 i12 x12 f12 => ⟨_, rfl, z2, fun a13 K13 i13 x13 f13 => ⟨z2, fun a14 K14 i14 x14 f14 => ⟨z12, fun S1 K15 i15 x15 f15 => ?_⟩⟩⟩⟩⟩⟩⟩⟩⟩⟩⟩⟩
    refine ⟨_, rfl, z2, fun b1 K16 i16 x16 f16 => ⟨z2, fun b2 K17 i17 x17 f17 => ⟨z1, fun b3 K18 i18 x18 f18 => ⟨z2, fun b4 K19 i19 x19 f19 => ⟨_, rfl, z1, fun b5 K20 i20 x20 f20 => ⟨z2, fun b6 K21 i21 x21 f21 => ⟨z1, fun b7 K22 i22 x22 f22 => ⟨z2, fun b8 K23 i23 x23 f23 => ⟨z1, fun b9 K24 i24 x24 f24 => ⟨z2, fun b10 K25 i25 x25 f25 => ⟨z1, fun b11 K26 i26 x26 f26 => ⟨z3, fun b12 K27 i27 x27 f27 => ⟨z6, fun U2 K28 i28 x28 f28 => ?_⟩⟩⟩⟩⟩⟩⟩⟩⟩⟩⟩⟩⟩
    refine ⟨S1, U2, _, _, rfl, rfl, (Same.trans x16 (Same.trans x17 (Same.trans x18 (Same.trans x19 (Same.trans x20 (Same.trans x21 (Same.trans x22 (Same.trans x23 (Same.trans x24 (Same.trans x25 (Same.trans x26 (Same.trans x27 x28)))))))))))) _ _ f15, f28, (by show 12 + 6 ≤ sizeLine; decide), fun S2 K29 i29 x29 f29 => ?_⟩
    refine ⟨_, rfl, z1, fun c1 K30 i30 x30 f30 => ⟨c1, 13, _, rfl, rfl, f30, (fun z => nomatch z), by decide, by decide, (by show 1 ≤ 1000; decide), fun c2 K31 x31 f31 => ⟨z2, fun c3 K32 i32 x32 f32 => ⟨z1, fun c4 K33 i33 x33 f33 => ⟨z1, fun c5 K34 i34 x34 f34 => ⟨z2, fun c6 K35 i35 x35 f35 => ⟨z2, fun U3 K36 i36 x36 f36 => ?_⟩⟩⟩⟩⟩⟩⟩
    refine ⟨S2, U3, _, _, rfl, rfl, (Same.trans x30 (Same.trans x31 (Same.trans x32 (Same.trans x33 (Same.trans x34 (Same.trans x35 x36)))))) _ _ f29, f36, (by show 18 + 2 ≤ sizeLine; decide), fun S3 K37 i37 x37 f37 => ?_⟩
    rw [show (List.replicate (13 : Int).toNat [V.int 0]).flatten = List.replicate 13 (V.int 0) from flat_any _ _] at f31
    have ch36 : Same K36 K37 := x37
    have ch35 : Same K35 K37 := Same.trans x36 ch36
    have ch34 : Same K34 K37 := Same.trans x35 ch35
    have ch33 : Same K33 K37 := Same.trans x34 ch34
    have ch32 : Same K32 K37 := Same.trans x33 ch33
    have ch31 : Same K31 K37 := Same.trans x32 ch32
    have ch30 : Same K30 K37 := Same.trans x31 ch31
    have ch29 : Same K29 K37 := Same.trans x30 ch30
    have ch28 : Same K28 K37 := Same.trans x29 ch29
    have ch27 : Same K27 K37 := Same.trans x28 ch28
    have ch26 : Same K26 K37 := Same.trans x27 ch27
    have ch25 : Same K25 K37 := Same.trans x26 ch26
    have ch24 : Same K24 K37 := Same.trans x25 ch25
    have ch23 : Same K23 K37 := Same.trans x24 ch24
    have ch22 : Same K22 K37 := Same.trans x23 ch23
    have ch21 : Same K21 K37 := Same.trans x22 ch22
    have ch20 : Same K20 K37 := Same.trans x21 ch21
    have ch19 : Same K19 K37 := Same.trans x20 ch20
    have ch18 : Same K18 K37 := Same.trans x19 ch19
    have ch17 : Same K17 K37 := Same.trans x18 ch18
    have ch16 : Same K16 K37 := Same.trans x17 ch17
    have ch15 : Same K15 K37 := Same.trans x16 ch16
    have ch14 : Same K14 K37 := Same.trans x15 ch15
    have ch13 : Same K13 K37 := Same.trans x14 ch14
    have ch12 : Same K12 K37 := Same.trans x13 ch13
    have ch11 : Same K11 K37 := Same.trans x12 ch12
    have ch10 : Same K10 K37 := Same.trans x11 ch11
    have ch9 : Same K9 K37 := Same.trans x10 ch10
    have ch8 : Same K8 K37 := Same.trans x9 ch9
    have ch7 : Same K7 K37 := Same.trans x8 ch8
    have ch6 : Same K6 K37 := Same.trans x7 ch7
    have ch5 : Same K5 K37 := Same.trans x6 ch6
    have ch4 : Same K4 K37 := Same.trans x5 ch5
    have ch3 : Same K3 K37 := Same.trans x4 ch4
    have ch2 : Same K2 K37 := Same.trans x3 ch3
    have ch1 : Same K1 K37 := Same.trans x2 ch2
    have ch0 : Same H K37 := Same.trans x1 ch1
    have uK : Urn K37 a n := bA.same ch0
    have Ta1 : Th (rm a K37) (.ref a1) (.tuple []) := th_tup uK (ch1 _ _ f1) .nil
    have na2 : a2 ≠ a := ((bA.same x1).ne i2).symm
    have Ta2 : Th (rm a K37) (.ref a2) (.list []) := th_lst na2 (ch2 _ _ f2) .nil
    have na3 : a3 ≠ a := ((bA.same (Same.trans x1 x2)).ne i3).symm
    have Ta3 : Th (rm a K37) (.ref a3) (.dict []) := th_dct na3 (ch3 _ _ f3)
    have Ta4 : Th (rm a K37) (.ref a4) (.tuple [(.int 0)]) := th_tup uK (ch4 _ _ f4) (.cons (.int _) .nil)
    have Ta5 : Th (rm a K37) (.ref a5) (.tuple []) := th_tup uK (ch5 _ _ f5) .nil
    have Ta6 : Th (rm a K37) (.ref a6) (.tuple [(.int 0), (.tuple [])]) := th_tup uK (ch6 _ _ f6) (.cons (.int _) (.cons Ta5 .nil))
    have na7 : a7 ≠ a := ((bA.same (Same.trans x1 (Same.trans x2 (Same.trans x3 (Same.trans x4 (Same.trans x5 x6)))))).ne i7).symm
    have Ta7 : Th (rm a K37) (.ref a7) (.list [(.int 0)]) := th_lst na7 (ch7 _ _ f7) (.cons (.int _) .nil)
    have Ta8 : Th (rm a K37) (.ref a8) (.tuple [(.int 0), (.list [(.int 0)])]) := th_tup uK (ch8 _ _ f8) (.cons (.int _) (.cons Ta7 .nil))
    have Ta9 : Th (rm a K37) (.ref a9) (.tuple [(.int 0)]) := th_tup uK (ch9 _ _ f9) (.cons (.int _) .nil)
    have na10 : a10 ≠ a := ((bA.same (Same.trans x1 (Same.trans x2 (Same.trans x3 (Same.trans x4 (Same.trans x5 (Same.trans x6 (Same.trans x7 (Same.trans x8 x9))))))))).ne i10).symm
    have Ta10 : Th (rm a K37) (.ref a10) (.list [(.int 0), (.tuple [(.int 0)])]) := th_lst na10 (ch10 _ _ f10) (.cons (.int _) (.cons Ta9 .nil))
    have Ta11 : Th (rm a K37) (.ref a11) (.tuple [(.int 0)]) := th_tup uK (ch11 _ _ f11) (.cons (.int _) .nil)
    have Ta12 : Th (rm a K37) (.ref a12) (.tuple [(.int 1), (.tuple [(.int 0)])]) := th_tup uK (ch12 _ _ f12) (.cons (.int _) (.cons Ta11 .nil))
    have Ta13 : Th (rm a K37) (.ref a13) (.tuple [(.int 0), (.int 0)]) := th_tup uK (ch13 _ _ f13) (.cons (.int _) (.cons (.int _) .nil))
    have Ta14 : Th (rm a K37) (.ref a14) (.tuple [(.int (-1)), (.tuple [(.int 0), (.int 0)])]) := th_tup uK (ch14 _ _ f14) (.cons (.int _) (.cons Ta13 .nil))
    have Tb1 : Th (rm a K37) (.ref b1) (.tuple [(.int 0), (.int 0)]) := th_tup uK (ch16 _ _ f16) (.cons (.int _) (.cons (.int _) .nil))
    have Tb2 : Th (rm a K37) (.ref b2) (.tuple [(.bool true), (.tuple [(.int 0), (.int 0)])]) := th_tup uK (ch17 _ _ f17) (.cons (.bl _) (.cons Tb1 .nil))
    have Tb3 : Th (rm a K37) (.ref b3) (.tuple [(.bool true)]) := th_tup uK (ch18 _ _ f18) (.cons (.bl _) .nil)
    have Tb4 : Th (rm a K37) (.ref b4) (.tuple [(.int 0), (.tuple [(.bool true)])]) := th_tup uK (ch19 _ _ f19) (.cons (.int _) (.cons Tb3 .nil))
    have Tb5 : Th (rm a K37) (.ref b5) (.tuple [(.int (-1))]) := th_tup uK (ch20 _ _ f20) (.cons (.int _) .nil)
    have Tb6 : Th (rm a K37) (.ref b6) (.tuple [(.int 0), (.tuple [(.int (-1))])]) := th_tup uK (ch21 _ _ f21) (.cons (.int _) (.cons Tb5 .nil))
    have Tb7 : Th (rm a K37) (.ref b7) (.tuple [(.str "0")]) := th_tup uK (ch22 _ _ f22) (.cons (.str _) .nil)
    have Tb8 : Th (rm a K37) (.ref b8) (.tuple [(.int 0), (.tuple [(.str "0")])]) := th_tup uK (ch23 _ _ f23) (.cons (.int _) (.cons Tb7 .nil))
    have Tb9 : Th (rm a K37) (.ref b9) (.tuple [.none]) := th_tup uK (ch24 _ _ f24) (.cons .non .nil)
    have Tb10 : Th (rm a K37) (.ref b10) (.tuple [(.int 0), (.tuple [.none])]) := th_tup uK (ch25 _ _ f25) (.cons (.int _) (.cons Tb9 .nil))
    have Tb11 : Th (rm a K37) (.ref b11) (.tuple [(.int 0)]) := th_tup uK (ch26 _ _ f26) (.cons (.int _) .nil)
    have Tb12 : Th (rm a K37) (.ref b12) (.tuple [(.int 0), (.tuple [(.int 0)]), (.int 0)]) := th_tup uK (ch27 _ _ f27) (.cons (.int _) (.cons Tb11 (.cons (.int _) .nil)))
    have Tc1 : Th (rm a K37) (.ref c1) (.tuple [(.int 0)]) := th_tup uK (ch30 _ _ f30) (.cons (.int _) .nil)
    have Tc2 : Th (rm a K37) (.ref c2) (.tuple (List.replicate 13 (.int 0))) := th_tup uK (ch31 _ _ f31) (thAll_rep (.int 0) 13)
    have Tc3 : Th (rm a K37) (.ref c3) (.tuple [(.int 0), (.tuple (List.replicate 13 (.int 0)))]) := th_tup uK (ch32 _ _ f32) (.cons (.int _) (.cons Tc2 .nil))
    have Tc4 : Th (rm a K37) (.ref c4) (.tuple [(.int 0)]) := th_tup uK (ch33 _ _ f33) (.cons (.int _) .nil)
    have Tc5 : Th (rm a K37) (.ref c5) (.tuple [(.tuple [(.int 0)])]) := th_tup uK (ch34 _ _ f34) (.cons Tc4 .nil)
    have Tc6 : Th (rm a K37) (.ref c6) (.tuple [(.int 0), (.tuple [(.tuple [(.int 0)])])]) := th_tup uK (ch35 _ _ f35) (.cons (.int _) (.cons Tc5 .nil))
    have tA : ThAll (rm a K37) [.non, .int 0, .str "at 0 knows 0", .ref a1, .ref a2, .ref a3, .ref a4, .ref a6, .ref a8, .ref a10, .ref a12, .ref a14, .ref b2, .ref b4, .ref b6, .ref b8, .ref b10, .ref b12, .ref c3, .ref c6] noL36 := (.cons .non (.cons (.int _) (.cons (.str _) (.cons Ta1 (.cons Ta2 (.cons Ta3 (.cons Ta4 (.cons Ta6 (.cons Ta8 (.cons Ta10 (.cons Ta12 (.cons Ta14 (.cons Tb2 (.cons Tb4 (.cons Tb6 (.cons Tb8 (.cons Tb10 (.cons Tb12 (.cons Tc3 (.cons Tc6 .nil))))))))))))))))))))
    have eS3 : K37 S3 = some (.lst [.non, .int 0, .str "at 0 knows 0", .ref a1, .ref a2, .ref a3, .ref a4, .ref a6, .ref a8, .ref a10, .ref a12, .ref a14, .ref b2, .ref b4, .ref b6, .ref b8, .ref b10, .ref b12, .ref c3, .ref c6]) := f37
    have nS3 : S3 ≠ a := ((bA.same (Same.trans x1 (Same.trans x2 (Same.trans x3 (Same.trans x4 (Same.trans x5 (Same.trans x6 (Same.trans x7 (Same.trans x8 (Same.trans x9 (Same.trans x10 (Same.trans x11 (Same.trans x12 (Same.trans x13 (Same.trans x14 (Same.trans x15 (Same.trans x16 (Same.trans x17 (Same.trans x18 (Same.trans x19 (Same.trans x20 (Same.trans x21 (Same.trans x22 (Same.trans x23 (Same.trans x24 (Same.trans x25 (Same.trans x26 (Same.trans x27 (Same.trans x28 (Same.trans x29 (Same.trans x30 (Same.trans x31 (Same.trans x32 (Same.trans x33 (Same.trans x34 (Same.trans x35 x36)))))))))))))))))))))))))))))))))))).ne i37).symm
    generalize ([.non, .int 0, .str "at 0 knows 0", .ref a1, .ref a2, .ref a3, .ref a4, .ref a6, .ref a8, .ref a10, .ref a12, .ref a14, .ref b2, .ref b4, .ref b6, .ref b8, .ref b10, .ref b12, .ref c3, .ref c6] : List V) = ws at tA eS3
    clear x1 f1 x2 f2 x3 f3 x4 f4 x5 f5 x6 f6 x7 f7 x8 f8 x9 f9 x10 f10 x11 f11 x12 f12 x13 f13 x14 f14 x15 f15 x16 f16 x17 f17 x18 f18 x19 f19 x20 f20 x21 f21 x22 f22 x23 f23 x24 f24 x25 f25 x26 f26 x27 f27 x28 f28 x29 f29 x30 f30 x31 f31 x32 f32 x33 f33 x34 f34 x35 f35 x36 f36 x37 f37
    have z40 : (20 : Int) ≤ 10 ^ 40 := by decide
    refine ⟨_, rfl, a, 20, n, rfl, uK, by omega, by decide, z40, fun ov B v0 v20 uB sB => ?_⟩
    have lw : ws.length = 20 := tA.length
    obtain ⟨j, rfl⟩ := Int.eq_ofNat_of_zero_le v0
    have hj : j < ws.length := by omega
    obtain ⟨d, hd, td⟩ := tA.get (List.getElem?_eq_getElem hj)
    obtain ⟨p1, p2, p3⟩ := no36 d (List.mem_of_getElem? hd)
    refine ⟨S3, ws, (j : Int), ws[j], rfl, rfl, SqL.of (sB _ _ nS3 eS3), atI_nat (List.getElem?_eq_getElem hj), ?_⟩
    exact q _ d B (Th.up td sB) p1 (small_lens p2) p3 uB (fun b o nb e => sB _ _ nb (ch0 _ _ e))
end
end Lk
end
section
set_option maxRecDepth 100000
set_option maxHeartbeats 4000000
namespace Lk
open PySem PySem.Spec PyProof.Rows L2
def spNoneOf : Sp := fun vs H Q _ => ∃ (a : Addr) (lo hi n : Int), vs = [.ref a, .int lo, .int hi] ∧ Urn H a n ∧ n ≤ 90000 ∧ lo ≤ hi ∧ 0 ≤ lo ∧ hi ≤ 10 ^ 36 ∧
  ∀ v d H', Th (rm a H') v d → inR d lo hi = false → Good d → Urn H' a (n + 3) → SameBut a H H' → Q v H'
section
variable {P : Program} {w : World} {K : PySem.W.Frag} {mg : Str → Option Value} {base : Heap}
abbrev nNn : List Str := ["pot", "low", "high", "some"]
theorem sc_noneOf : FnScope nNn ["pot", "low", "high"] (defScope s_law_none_of) := ⟨rfl, rfl, rfl, by decide +kernel, rfl, by decide +kernel, by decide +kernel⟩
theorem ok_noneOf {f : Addr} {fd : FuncData} (F : Fun K "_law_none_of" "_law_none_of" s_law_none_of f fd) (draw : C8.Cal P w K mg base 1 "_law_draw" spPull []) : FnOk P w K mg base CX0 2 f fd ["pot", "low", "high"] spNoneOf := by
  refine F.ok sc_noneOf (fun vs H Q E h => ?_) (fun cdv A outer s H vs Q E hr h => ?_)
  · obtain ⟨a, lo, hi, n, rfl, _⟩ := h
    rfl
  · obtain ⟨a, lo, hi, n, rfl, bA, hn, hlh, hlo, hhi, q⟩ := h
    have nd := sc_noneOf.nd
    refine ⟨_, (pss_cons (by exact (ps_set (i := 3) nd rfl (Or.inl rfl) (pe_lstS (pa_cons pe_non (pa_cons pe_bl (pa_cons pe_str (pa_cons (pe_lstS (pa_cons pe_int pa_nil)) (pa_cons (pe_tupS (pa_cons pe_int pa_nil)) (pa_cons pe_dnewK (pa_cons (pe_op op_sub (pv 1) pe_int) (pa_cons (pe_op op_add (pv 2) pe_int) (pa_cons (pe_op op_sub (pe_op op_sub (pv 1) pe_int) (C8.pe_c draw hr (by decide) rfl (pa_cons (pv 0) (pa_cons (pe_op op_pow pe_int pe_int) pa_nil)))) pa_nil))))))))))))
      (pss_one (by exact (ps_ret (pe_ix ix_list (pe_op op_catS (pv 3) (pe_lstS (pa_cons (pe_op op_add (pe_op op_add (pv 2) pe_int) (C8.pe_c draw hr (by decide) rfl (pa_cons (pv 0) (pa_cons (pe_op op_pow pe_int pe_int) pa_nil)))) pa_nil))) (C8.pe_c draw hr (by decide) rfl (pa_cons (pv 0) (pa_cons pe_int pa_nil))) (fun _ _ => rfl)))))), ?_⟩
    have z1 : (1 : Nat) ≤ sizeLine := by decide
    refine ⟨z1, fun l1 K1 i1 x1 f1 => ⟨z1, fun t1 K2 i2 x2 f2 => ?_⟩⟩
    intro d1 i3
    have x3 : Same K2 (upd K2 d1 (.dK [])) := same_new i3
    have f3 : upd K2 d1 (.dK []) d1 = some (.dK []) := upd_same
    generalize upd K2 d1 (.dK []) = K3 at x3 f3
    have s3 : Same H K3 := Same.trans x1 (Same.trans x2 x3)
    have u3 := bA.same s3
    have nl1 : l1 ≠ a := (bA.ne i1).symm
    have nd1 : d1 ≠ a := ((bA.same (Same.trans x1 x2)).ne i3).symm
    have z9 : (10 : Int) ^ (9 : Int).toNat ≤ 10 ^ 40 := by decide
    have z30 : (10 : Int) ^ (30 : Int).toNat ≤ 10 ^ 40 := by decide
    have z40 : (10 : Int) ≤ 10 ^ 40 := by decide
    refine ⟨_, rfl, _, _, rfl, rfl, _, rfl, _, _, rfl, rfl, _, rfl, _, _, rfl, rfl, _, rfl, 10, 9, rfl, rfl, ⟨by decide, by decide, by decide⟩, a, _, n, rfl, u3, by omega, by decide, z9, fun v1 B1 a1 b1 uB1 sB1 => ⟨_, _, rfl, rfl, (by show 9 ≤ sizeLine; decide), fun S1 K4 i4 x4 f4 => ?_⟩⟩
    refine ⟨_, rfl, _, rfl, _, _, rfl, rfl, _, rfl, 10, 30, rfl, rfl, ⟨by decide, by decide, by decide⟩, a, _, n + 1, rfl, uB1.same x4, by omega, by decide, z30, fun v2 B2 a2 b2 uB2 sB2 => ⟨_, _, rfl, rfl, z1, fun S2 K5 i5 x5 f5 => ?_⟩⟩
    have nS1 : S1 ≠ a := (uB1.ne i4).symm
    have eS1 := x5 _ _ (sB2 _ _ nS1 f4)
    refine ⟨S1, S2, _, _, rfl, rfl, eS1, f5, (by show 9 + 1 ≤ sizeLine; decide), fun S3 K6 i6 x6 f6 => ?_⟩
    have u5 := uB2.same x5
    have u6 := u5.same x6
    have nS3 : S3 ≠ a := (u5.ne i6).symm
    have sK : SameBut a K3 K6 := fun b o nb e => x6 _ _ (x5 _ _ (sB2 _ _ nb (x4 _ _ (sB1 _ _ nb e))))
    have nt1 : t1 ≠ a := fun z => by
      obtain ⟨_, _, _, eb, _⟩ := id u3
      have y := x3 _ _ f2
      rw [z, eb] at y
      cases y
    have tA : ThAll (rm a K6) [.non, .bl true, .str "1", .ref l1, .ref t1, .ref d1, .int (lo - 1), .int (hi + 1), .int (lo - 1 - v1), .int (hi + 1 + v2)] [.none, .bool true, .str "1", .list [.int 1], .tuple [.int 1], .dict [], .int (lo - 1), .int (hi + 1), .int (lo - 1 - v1), .int (hi + 1 + v2)] :=
      .cons .non (.cons (.bl _) (.cons (.str _) (.cons (th_lst nl1 (sK _ _ nl1 (x3 _ _ (x2 _ _ f1))) (.cons (.int _) .nil)) (.cons (th_tup u6 (sK _ _ nt1 (x3 _ _ f2)) (.cons (.int _) .nil)) (.cons (th_dct nd1 (sK _ _ nd1 f3)) (.cons (.int _) (.cons (.int _) (.cons (.int _) (.cons (.int _) .nil)))))))))
    have e9 : (10 : Int) ^ (9 : Int).toNat = 10 ^ 9 := by decide +kernel
    have e30 : (10 : Int) ^ (30 : Int).toNat = 10 ^ 30 := by decide +kernel
    rw [e9] at b1
    rw [e30] at b2
    have no : ∀ d ∈ [PyData.none, .bool true, .str "1", .list [.int 1], .tuple [.int 1], .dict [], .int (lo - 1), .int (hi + 1), .int (lo - 1 - v1), .int (hi + 1 + v2)], inR d lo hi = false ∧ Good d := by
      have gI : ∀ i : Int, i.natAbs < 10 ^ 45 → Good (.int i) := fun i h => (goodS_int h).good
      have below : ∀ i : Int, i < lo → inR (.int i) lo hi = false := fun i h => by
        show (decide (lo ≤ i) && decide (i ≤ hi)) = false
        rw [decide_eq_false (show ¬ (lo ≤ i) by omega), Bool.false_and]
      have above : ∀ i : Int, hi < i → inR (.int i) lo hi = false := fun i h => by
        show (decide (lo ≤ i) && decide (i ≤ hi)) = false
        rw [decide_eq_false (show ¬ (i ≤ hi) by omega), Bool.and_false]
      intro d hd
      simp only [List.mem_cons, List.not_mem_nil, or_false] at hd
      rcases hd with rfl | rfl | rfl | rfl | rfl | rfl | rfl | rfl | rfl | rfl
      · exact ⟨rfl, by decide +kernel, by decide +kernel, by decide +kernel⟩
      · exact ⟨rfl, by decide +kernel, by decide +kernel, by decide +kernel⟩
      · exact ⟨rfl, by decide +kernel, by decide +kernel, by decide +kernel⟩
      · exact ⟨rfl, by decide +kernel, by decide +kernel, by decide +kernel⟩
      · exact ⟨rfl, by decide +kernel, by decide +kernel, by decide +kernel⟩
      · exact ⟨rfl, by decide +kernel, by decide +kernel, by decide +kernel⟩
      · exact ⟨below _ (by omega), gI _ (by omega)⟩
      · exact ⟨above _ (by omega), gI _ (by omega)⟩
      · exact ⟨below _ (by omega), gI _ (by omega)⟩
      · exact ⟨above _ (by omega), gI _ (by omega)⟩
    have e6 : K6 S3 = some (.lst [.non, .bl true, .str "1", .ref l1, .ref t1, .ref d1, .int (lo - 1), .int (hi + 1), .int (lo - 1 - v1), .int (hi + 1 + v2)]) := f6
    refine ⟨_, rfl, a, 10, n + 1 + 1, rfl, u6, by omega, by decide, z40, fun ov B v0 v10 uB sB => ?_⟩
    obtain ⟨j, rfl⟩ := Int.eq_ofNat_of_zero_le v0
    generalize ([.non, .bl true, .str "1", .ref l1, .ref t1, .ref d1, .int (lo - 1), .int (hi + 1), .int (lo - 1 - v1), .int (hi + 1 + v2)] : List V) = ws at tA e6
    have lw : ws.length = 10 := tA.length
    have hj : j < ws.length := by omega
    obtain ⟨d, hd, td⟩ := tA.get (List.getElem?_eq_getElem hj)
    obtain ⟨p1, p2⟩ := no d (List.mem_of_getElem? hd)
    refine ⟨S3, ws, (j : Int), ws[j], rfl, rfl, SqL.of (sB _ _ nS3 e6), atI_nat (List.getElem?_eq_getElem hj), ?_⟩
    have en : n + 1 + 1 + 1 = n + 3 := by omega
    rw [en] at uB
    exact q _ d B (Th.up td sB) p1 p2 uB (fun b o nb e => sB _ _ nb (sK _ _ nb (s3 _ _ e)))
end
end Lk
end
section
set_option maxRecDepth 100000
set_option maxHeartbeats 2000000
/-! Lists of one word: those of a list that are told otherwise; == of lists of such. -/
namespace Lk
open PySem PySem.Spec PyProof.Rows L2
/-- a list of the one word -/
def toldW (nm : Str) (Q : VK) (H : Hp) : Prop := ∀ p H', Same H H' → H' p = some (.lst [.str nm]) → Q (.ref p) H'
theorem shaped_w {w : Str} (hs : PyData.strOk w = true) : SeqAt.shaped (.list [.str w]) = true := by
  unfold SeqAt.shaped
  simp [PyData.canLay0, PyData.canLayAll0, PyData.depth, PyData.depthAll, hs]
theorem eqv_w (w : Str) : PyData.eqv (.list [.str w]) (.list [.str w]) = true := by simp [PyData.eqv, PyData.eqvAll]
theorem dp_w {K : PySem.W.Frag} {H : Hp} {p : Addr} {w : Str} (e : H p = some (.lst [.str w])) : Dp K H (.ref p) (.list [.str w]) := .lst (SqL.of e) (.cons (.str _) .nil)
/-- call != [w] -/
theorem ne_w {K : PySem.W.Frag} {σ : L2.St} {H : Hp} {w : Str} {call : TE} {Q : Bool → Hp → Prop} (hs : PyData.strOk w = true) (h : ∀ Q1, toldW w Q1 H → call σ H Q1) (q : ∀ H1, Same H H1 → Q false H1) :
    tTest (tOp (rNeD K) call (tLstS (tCons (tC (.str w)) tNil))) σ H Q := by
  refine h _ fun p H1 s1 e1 => ⟨(by show 1 ≤ sizeLine; decide), fun p2 H2 n2 s2 e2 => ⟨_, _, dp_w (s2 _ _ e1), dp_w e2, shaped_w hs, shaped_w hs, _, rfl, ?_⟩⟩
  rw [eqv_w]
  exact q H2 (Same.trans s1 s2)
/-- [x for x in l if call != [w]] != [] -/
theorem sift_none {K K1 : PySem.W.Frag} {σ : L2.St} {H : Hp} {Q : Bool → Hp → Prop} {S : Addr} {ws : List V} {i j : Nat} {call : TE} {w : Str} (e : σ[j]? = some (some (.ref S))) (eS : H S = some (.lst ws)) (hw : ∀ x, wipe ((wipe σ [i]).set i (some x)) [i] = wipe σ [i])
    (hs : PyData.strOk w = true) (h : ∀ (k : Nat) (x : V) (H1 : Hp) (Q1 : VK), ws[k]? = some x → Same H H1 → toldW w Q1 H1 → call ((wipe σ [i]).set i (some x)) H1 Q1) (q : ∀ H1, Same H H1 → Q false H1) :
    tTest (tOp (rNeD K1) (tLc (iList K1 (tVar j)) (gName i) (tTest (tOp (rNeD K) call (tLstS (tCons (tC (.str w)) tNil)))) (tVar i) [i]) (tLstS tNil)) σ H Q := by
  have ml0 : SeqAt.shaped (.list []) = true := shaped_ints []
  refine ⟨_, e, S, rfl, ⟨_, SqL.of eS⟩, fun D nD => ?_⟩
  refine lc_it (walk_list (xs := ws)) (fun i H' => Same H H' ∧ H' D = some (.lst [])) ⟨same_new nD, upd_same⟩ (fun _ _ _ r => SqL.of (r.1 _ _ eS)) ?_ ?_
  · rintro k x R1 R2 hk ⟨r1, r2⟩ ⟨rfl, hx⟩
    refine ⟨hw x, ne_w hs (fun Q1 t => h k x R2 Q1 hx r1 t) fun H1 s1 => ?_⟩
    exact ⟨Same.trans r1 s1, s1 _ _ r2⟩
  · rintro R1 ⟨r1, r2⟩
    refine ⟨(by show 0 ≤ sizeLine; exact Nat.zero_le _), fun Z R2 nZ rz eZ => ⟨.list [], .list [], .lst (SqL.of (rz _ _ r2)) .nil, .lst (SqL.of eZ) .nil, ml0, ml0, _, rfl, ?_⟩⟩
    rw [show (!PyData.eqv (.list []) (.list [])) = false from by simp [PyData.eqv, PyData.eqvAll]]
    exact q R2 (Same.trans r1 rz)
theorem dps_w {K : PySem.W.Frag} {H : Hp} {w : Str} : ∀ {rs : List Addr}, (∀ r ∈ rs, H r = some (.lst [.str w])) → DpAll K H (rs.map V.ref) (List.replicate rs.length (.list [.str w]))
  | [], _ => .nil
  | r :: rs, h => .cons (dp_w (h r List.mem_cons_self)) (dps_w fun x hx => h x (List.mem_cons_of_mem _ hx))
theorem eqv_self_w (w : Str) (n : Nat) : PyData.eqv (.list (List.replicate n (.list [.str w]))) (.list (List.replicate n (.list [.str w]))) = true := by
  simp only [PyData.eqv]
  induction n with
  | zero => simp [PyData.eqvAll]
  | succ n ih =>
    rw [List.replicate_succ]
    simp only [PyData.eqvAll, ih, Bool.and_true]
    exact eqv_w w
theorem lays_w {w : Str} (hs : PyData.strOk w = true) (n : Nat) : PyData.canLayAll0 (List.replicate n (.list [.str w])) = true ∧ PyData.depthAll (List.replicate n (.list [.str w])) ≤ 1 := by
  induction n with
  | zero => simp [PyData.canLayAll0, PyData.depthAll]
  | succ n ih =>
    rw [List.replicate_succ]
    simp [PyData.canLayAll0, PyData.depthAll, PyData.canLay0, PyData.depth, ih.1, ih.2, hs]
theorem shaped_ws {w : Str} (hs : PyData.strOk w = true) (n : Nat) : SeqAt.shaped (.list (List.replicate n (.list [.str w]))) = true := by
  have z := lays_w hs n
  unfold SeqAt.shaped
  rw [Bool.and_eq_true]
  refine ⟨by simp only [PyData.canLay0, z.1], decide_eq_true ?_⟩
  simp only [PyData.depth]
  have := z.2
  omega
/-- what the repr of a list of long lists asks -/
def GoodX (d : PyData) : Prop := d.showable = true ∧ d.depth ≤ 9 ∧ wt d ≤ 210000
theorem Good.x {d : PyData} (h : Good d) : GoodX d := ⟨h.1, by have := h.2.1; omega, by have := h.2.2; omega⟩
theorem goodX_list {ds : List PyData} (h : ∀ d ∈ ds, Good d) (l : ds.length ≤ 100) : GoodX (.list ds) := by
  have z := wts_le (B := 2000) (ds := ds) fun d hd => (h d hd).2.2
  have z2 : ds.length * 2002 ≤ 100 * 2002 := Nat.mul_le_mul_right _ l
  refine ⟨?_, ?_, ?_⟩
  · simp only [PyData.showable]
    exact showAll_of fun d hd => (h d hd).1
  · have z := depAll_le (B := 8) fun d hd => (h d hd).2.1
    simp only [PyData.depth]
    omega
  · show 2 + wts ds ≤ 210000
    omega
theorem rep_lists {K : PySem.W.Frag} {H : Hp} {Q : VK} {p : Addr} {xs : List V} {ds : List PyData} (e : H p = some (.lst xs)) (m : ThAll H xs ds) (g : ∀ d ∈ ds, GoodX d) (l : ds.length ≤ 10) (q : Q (.str (PyData.list ds).shown) H) : rRep K [.ref p] H Q := by
  refine ⟨.ref p, .list ds, rfl, Th.dq _ (.lst e m), (fun kvs z => nomatch z), ?_, ?_, ?_, q⟩
  · simp only [PyData.showable]
    exact showAll_of fun d hd => (g d hd).1
  · have z := depAll_le (B := 9) fun d hd => (g d hd).2.1
    simp only [PyData.depth]
    omega
  · have a := shown_wt (.list ds)
    have z := wts_le (B := 210000) (ds := ds) fun d hd => (g d hd).2.2
    have z2 : ds.length * 210002 ≤ 10 * 210002 := Nat.mul_le_mul_right _ l
    have c : wt (.list ds) = 2 + wts ds := rfl
    rw [sizeLine_eq]
    omega
end Lk
end
section
set_option maxRecDepth 100000
set_option maxHeartbeats 2000000
/-! dict(xs), xs pairs whose first things are tuples of ints and texts; d[t]. -/
namespace Lk
open PySem PySem.Spec PyProof.Rows L2
def mergeT (kvs more : List (List Key × V)) : List (List Key × V) := more.foldl (fun acc kv => putK acc kv.1 kv.2) kvs
theorem mergeT_len : ∀ (more kvs : List (List Key × V)), (mergeT kvs more).length ≤ kvs.length + more.length
  | [], kvs => Nat.le_refl _
  | p :: r, kvs => by
    have h1 := mergeT_len r (putK kvs p.1 p.2)
    have h2 := length_putK kvs p.1 p.2
    rw [List.length_cons]
    show (mergeT (putK kvs p.1 p.2) r).length ≤ _
    omega
theorem kt_merge {H : Hp} : ∀ {more : List (List Key × V)} {rs : List (List Key × Addr × Value)} {kvs : List (List Key × V)} {xs : List (List Key × Addr × Value)}, KT H more rs → KT H kvs xs → KT H (mergeT kvs more) (PySem.storedAllH xs rs)
  | [], [], kvs, xs, _, q => q
  | [], _ :: _, _, _, hh, _ => nomatch hh
  | _ :: _, [], _, _, hh, _ => nomatch hh
  | p :: ps, r :: rs, kvs, xs, .cons h t, q => by
    have e : KT H (putK kvs p.1 p.2) (PySem.storedH xs r.1 r.2.1 r.2.2) := by
      have z := q.put p.1 h.2.1 h.2.2
      rw [← h.1]
      exact z
    exact kt_merge (more := ps) (rs := rs) t e
/-- the pairs as the library tells them -/
theorem trip_of {X : Cx} {pins : List (Addr × Obj)} {σ : L2.St} {H : Hp} {s : Shared} (I : Inv X pins σ H s) : ∀ {ps : List Addr} {kvs : List (List Key × V)}, Paired (fun p (kv : List Key × V) => ∃ b, SqT X.K H p [.ref b, kv.2] ∧ H b = some (.tup (kv.1.map kV))) ps kvs →
    ∃ rs : List (List Key × Addr × Value), KT H kvs rs ∧ rs.length = ps.length ∧ ∀ (j : Nat) (x : List Key × Addr × Value), rs[j]? = some x → ∃ b, ps[j]? = some b ∧ IsTup s.heap b #[.ref x.2.1, x.2.2] ∧ H x.2.1 = some (.tup (x.1.map kV))
  | _, _, .nil => ⟨[], .nil, rfl, fun j x e => by simp at e⟩
  | _, _, .cons (a := p) (b := kv) h t => by
    obtain ⟨rs, r, hl, hp⟩ := trip_of I t
    obtain ⟨b, h1, h2⟩ := h
    obtain ⟨its, rv, ht, _⟩ := I.tuple h1
    obtain ⟨u, y, ei, ru, ry⟩ := vals2 rv
    subst ei
    cases (show u = Value.ref b from ru)
    refine ⟨(kv.1, b, y) :: rs, .cons ⟨rfl, h2, ry⟩ r, by rw [List.length_cons, List.length_cons, hl], fun j x e => ?_⟩
    cases j with
    | zero =>
      have e' : (kv.1, b, y) = x := Option.some.inj e
      subst e'
      exact ⟨p, rfl, ht, h2⟩
    | succ j =>
      obtain ⟨b', e1, e2, e3⟩ := hp j x (by simpa using e)
      exact ⟨b', by simpa using e1, e2, e3⟩
def rDictT (K : PySem.W.Frag) : List V → Hp → VK → Prop := fun xs H Q => ∃ (a : Addr) (ps : List Addr) (kvs : List (List Key × V)), xs = [.ref a] ∧ SqL K H a (ps.map V.ref) ∧ Paired (fun p (kv : List Key × V) => ∃ b, SqT K H p [.ref b, kv.2] ∧ H b = some (.tup (kv.1.map kV))) ps kvs ∧
    ∀ p, H p = none → Q (.ref p) (upd H p (.dT (mergeT [] kvs)))
theorem call_dictT {X : Cx} (hcalm : X.calm = true) (hu : X.A.units + 64 < cLine) : CallR X (.type "dict") (rDictT X.K) := by
  intro pins s σ H xs us Q I r q
  obtain ⟨a, ps, kvs, rfl, hq, hp, q⟩ := q
  obtain ⟨u, rfl, rx⟩ := vals1 r
  cases (show u = Value.ref a from rx)
  obtain ⟨its, rv, pl, hz⟩ := I.list hq
  have ei := refs_at rv
  subst ei
  rw [List.length_map] at hz
  obtain ⟨rs, rel, hl, hpr⟩ := trip_of I hp
  obtain ⟨o, n, ho, hc, hd, hdat⟩ := pl
  have lp : (rs.map fun x => ((Value.ref x.2.1, x.2.2) : Value × Value)).length = rs.length := List.length_map _
  have fresh : ∀ {b : Addr} {o : Obj}, s.heap.get? b = some o → b ≠ s.heap.objs.size := fun e => Nat.ne_of_lt (Heap.lt_size e)
  refine PySem.call_dict_pairsH (knd := tupleKind (mixKind X.prog X.w)) (ps := rs) (PySem.PairArg.list a _ (fun j => ps.getD j 0) (rs.map fun x => ((Value.ref x.2.1, x.2.2) : Value × Value))) (I.ok.hd hcalm) (tupleKind_room_in1 (A := X.A.in1) (by show X.A.units + 1 + 1 < cLine; omega)) ⟨⟨o, n, ho, hc, hd, hdat⟩, ?_, fun j k v e => ?_⟩ ⟨lp.symm, fun i key v e => ?_⟩ (fun h2 hk x hx => ?_) (by rw [lp, hl]; exact hz) fun h2 tk hd2 hk => ?_
  · simp [hl]
  · rw [List.getElem?_map] at e
    obtain ⟨x, ex, e2⟩ := Option.map_eq_some_iff.mp e
    obtain ⟨b, e1, e3, _⟩ := hpr j x ex
    injection e2 with e4 e5
    subst e4 e5
    refine ⟨?_, .inl ?_⟩
    · simp [e1, List.getD_eq_getElem?_getD]
    · show s.heap.IsTuple (ps.getD j 0) _
      rw [List.getD_eq_getElem?_getD, e1]
      exact e3
  · change (rs.map fun x => ((Value.ref x.2.1, x.2.2) : Value × Value))[i]? = some (key, v) at e
    rw [List.getElem?_map] at e
    obtain ⟨x, ex, e2⟩ := Option.map_eq_some_iff.mp e
    injection e2 with e4 e5
    subst e4 e5
    exact ⟨x.1, x.2.1, ex, rfl⟩
  · obtain ⟨j, hj⟩ := List.mem_iff_getElem?.mp hx
    obtain ⟨b, _, _, e3⟩ := hpr j x hj
    obtain ⟨o2, i2, n2, h1, r2⟩ := key_of (P := X.prog) (w := X.w) I.hok e3
    exact ⟨o2, i2, n2, hk _ _ (fresh h1) (fun z => nomatch z) h1, r2⟩
  · have hm : (s.heap.objs.size == sysModules) = false := beq_eq_false_iff_ne.mpr (Nat.ne_of_gt I.big)
    have hlen : (mergeT [] kvs).length ≤ sizeLine := by
      refine Nat.le_trans (mergeT_len kvs []) ?_
      rw [List.length_nil, Nat.zero_add, Paired.length rel, hl]
      exact hz
    have hn : H s.heap.objs.size = none := I.hok.fresh (Nat.le_refl _)
    obtain ⟨q1, es, ep, w1, w2, w3, w4, _, w5⟩ := hd2
    refine ⟨.ref s.heap.objs.size, upd H s.heap.objs.size (.dT (mergeT [] kvs)), I.laid (t' := tk) (fun b o e => hk b o (fun z => nomatch z) e) (Nat.le_refl _) (show ObjOk X.prog X.w _ _ _ (.dT (mergeT [] kvs)) from ⟨hlen, hm, _, (kt_merge rel .nil).keeps fun c ys ec => ?_, q1, es, ep, w1, w2, w3, w4, w5⟩), rfl, q _ hn⟩
    rw [upd_ne (ne_of_none ec hn)]
    exact ec
/-- d[t] -/
def rIxDT : R2 := fun x y H Q => ∃ (a b : Addr) (kvs : List (List Key × V)) (k : List Key) (v : V), x = .ref a ∧ y = .ref b ∧ H a = some (.dT kvs) ∧ H b = some (.tup (k.map kV)) ∧ valV kvs k = some v ∧ Q v H
theorem ix_dt {X : Cx} (hu : X.A.units + 64 < cLine) : IxR X rIxDT := by
  intro value slice pins s σ H x y v u Q I r1 r2 h hs
  obtain ⟨a, b, kvs, k, v1, e1, e2, ea, eb, ev, q⟩ := h
  subst e1 e2
  obtain rfl : v = Value.ref a := r1
  obtain ⟨_, _, xs, _, dd⟩ := dt_of I.hok ea
  exact tail_any dd.typeIs PySem.F.slot_dict_getitem.lookup (d_getItem (v := v1) (by omega) I (show DGet H a (.ref b) (some v1) from by rw [← ev]; exact DGet.t ea eb) r2 fun w2 s2 I2 rv => ⟨v1, H, I2, rv, q⟩) hs
end Lk
end
section
set_option maxRecDepth 100000
set_option maxHeartbeats 2000000
/-! The numbers of words, by the words. -/
namespace Lk
open PySem PySem.Spec PyProof.Rows L2 LamX NdefX
def keyW (x : Nat × Nat) : List Key := [.inl (x.1 : Int), .inl (x.2 : Int)]
theorem keyW_kV (x : Nat × Nat) : (keyW x).map kV = [V.int (x.1 : Int), V.int (x.2 : Int)] := rfl
theorem keyW_inj {x y : Nat × Nat} (e : keyW x = keyW y) : x = y := by
  unfold keyW at e
  injection e with e1 e2
  injection e2 with e2 _
  have a := Sum.inl.inj e1
  have b := Sum.inl.inj e2
  exact Prod.ext (by omega) (by omega)
def prsW (c : Cd) (n : Nat) : List (List Key × V) := (List.range n).map fun i => (keyW (wd (it i c)), V.int ((i : Int) + 1))
theorem prsW_succ (c : Cd) (n : Nat) : prsW c (n + 1) = prsW c n ++ [(keyW (wd (it n c)), V.int ((n : Int) + 1))] := by
  unfold prsW
  rw [List.range_succ, List.map_append]
  rfl
def numW (c : Cd) : Nat → List (List Key × V)
  | 0 => []
  | n + 1 => putK (numW c n) (keyW (wd (it n c))) (V.int ((n : Int) + 1))
theorem merge_num (c : Cd) : ∀ n, mergeT [] (prsW c n) = numW c n
  | 0 => rfl
  | n + 1 => by
    have ih := merge_num c n
    rw [prsW_succ]
    unfold mergeT at *
    rw [List.foldl_append, ih]
    rfl
theorem word_one {c : Cd} (h : COk c) {i j : Nat} (e : wd (it i c) = wd (it j c)) : i = j := by
  obtain ⟨⟨a, l⟩, hx⟩ : ∃ x, wd (it j c) = x := ⟨_, rfl⟩
  rw [hx] at e
  have t1 := word_till h (n := i + 1) (by omega) e
  have t2 := word_till h (n := j + 1) (by omega) hx
  have z := till_one t1 t2
  omega
theorem numW_at {c : Cd} (h : COk c) {i : Nat} : ∀ n, i < n → valV (numW c n) (keyW (wd (it i c))) = some (V.int ((i : Int) + 1))
  | 0, hi => absurd hi (Nat.not_lt_zero i)
  | n + 1, hi => by
    show valV (putK (numW c n) _ _) _ = _
    rw [valV_put]
    by_cases e : i = n
    · subst e
      rw [if_pos rfl]
    · rw [if_neg (fun z => e (word_one h (keyW_inj z)))]
      exact numW_at h n (by omega)
/-- a pair of a word and its number -/
def PrW (H : Hp) (p : Addr) (kv : List Key × V) : Prop := ∃ b, H p = some (.tup [.ref b, kv.2]) ∧ H b = some (.tup (kv.1.map kV))
theorem PrW.but {H H1 : Hp} {D : Addr} {xs : List V} (eD : H D = some (.lst xs)) (s : SameBut D H H1) {p : Addr} {kv : List Key × V} (h : PrW H p kv) : PrW H1 p kv := by
  obtain ⟨b, e1, e2⟩ := h
  exact ⟨b, s p _ (fun z => by rw [z, eD] at e1; cases e1) e1, s b _ (fun z => by rw [z, eD] at e2; cases e2) e2⟩
theorem PrW.same {H H1 : Hp} (s : Same H H1) {p : Addr} {kv : List Key × V} (h : PrW H p kv) : PrW H1 p kv := by
  obtain ⟨b, e1, e2⟩ := h
  exact ⟨b, s _ _ e1, s _ _ e2⟩
theorem prs_snoc {α β : Type} {F : α → β → Prop} : ∀ {l : List α} {m : List β} {a : α} {b : β}, Paired F l m → F a b → Paired F (l ++ [a]) (m ++ [b])
  | _, _, _, _, .nil, h => .cons h .nil
  | _, _, _, _, .cons x t, h => .cons x (prs_snoc t h)
theorem prs_len {α β : Type} {F : α → β → Prop} : ∀ {l : List α} {m : List β}, Paired F l m → l.length = m.length
  | _, _, .nil => rfl
  | _, _, .cons x t => by rw [List.length_cons, List.length_cons, prs_len t]
theorem prsW_len (c : Cd) (n : Nat) : (prsW c n).length = n := by
  unfold prsW
  rw [List.length_map, List.length_range]
/-- each place begins a word soon -/
theorem len_still {c : Cd} (h : COk c) {q : Nat} : ∀ t, (∀ s, s < t → (it s c).1 ≠ q) → len (it t c) q = len c q
  | 0, _ => rfl
  | t + 1, hs => by
    rw [len_step t h, if_neg (fun z => hs t (Nat.lt_succ_self t) z.symm)]
    exact len_still h t fun s hl => hs s (by omega)
theorem word_soon {c : Cd} (h : CdOk c) {q : Nat} (hq : q < c.2.length) : ∃ m, m < 400 ∧ wd (it m c) = (q, len c q + 1) := by
  obtain ⟨t, ht, e⟩ := been_all h.1 (Nat.le_refl ((c.2.length - 1) * (c.2.length - 1) + 1)) hq
  obtain ⟨m, em, hm⟩ := least_of (Q := fun s => (it s c).1 = q) e
  have hmt : m ≤ t := Nat.le_of_not_lt fun g => hm t g e
  have h12 := h.2
  have hpp : (c.2.length - 1) * (c.2.length - 1) ≤ 11 * 11 := Nat.mul_le_mul (by omega) (by omega)
  refine ⟨m, by omega, ?_⟩
  have z := len_still h.1 m hm
  show ((it m c).1, len (it m c) (it m c).1 + 1) = _
  rw [em, z]
/-- the greatest of what was known and of the words -/
def lensW (c : Cd) (n : Nat) : List Nat := (wds n c).map (·.2)
theorem lensW_succ (c : Cd) (n : Nat) : lensW c (n + 1) = lensW c n ++ [(wd (it n c)).2] := by
  unfold lensW
  rw [wds_succ, List.map_append]
  rfl
theorem len_from {c : Cd} (h : COk c) {i : Nat} : ∀ n, len (it n c) i = len c i ∨ len (it n c) i ∈ lensW c n
  | 0 => .inl rfl
  | n + 1 => by
    rw [lensW_succ, len_step n h]
    split
    · rename_i e
      refine .inr (List.mem_append.mpr (.inr (List.mem_singleton.mpr ?_)))
      rw [e]
      rfl
    · rcases len_from h n with z | z
      · exact .inl z
      · exact .inr (List.mem_append.mpr (.inl z))
theorem mem_lens {c : Cd} {x : Nat} : ∀ {n : Nat}, x ∈ lensW c n → ∃ j, j < n ∧ x = (wd (it j c)).2
  | 0, h => by cases h
  | n + 1, h => by
    rw [lensW_succ] at h
    rcases List.mem_append.mp h with z | z
    · obtain ⟨j, hj, e⟩ := mem_lens z
      exact ⟨j, by omega, e⟩
    · exact ⟨n, Nat.lt_succ_self n, List.mem_singleton.mp z⟩
theorem mem_len {c : Cd} {i : Nat} (h : i < c.2.length) : len c i ∈ c.2 := by
  show c.2.getD i 0 ∈ c.2
  rw [List.getD_eq_getElem?_getD, List.getElem?_eq_getElem h]
  exact List.getElem_mem h
theorem len_of_mem {c : Cd} {x : Nat} (h : x ∈ c.2) : ∃ i, i < c.2.length ∧ x = len c i := by
  obtain ⟨i, hi, e⟩ := List.getElem_of_mem h
  refine ⟨i, hi, ?_⟩
  show x = c.2.getD i 0
  rw [List.getD_eq_getElem?_getD, List.getElem?_eq_getElem hi]
  exact e.symm
theorem max_same {c : Cd} (h : COk c) {n m k : Nat} (a : IsMax (c.2 ++ lensW c n) m) (b : IsMax (it n c).2 k) : m = k := by
  refine Nat.le_antisymm ?_ ?_
  · rcases List.mem_append.mp a.1 with z | z
    · obtain ⟨i, hi, e⟩ := len_of_mem z
      have y := b.2 _ (mem_len (c := it n c) (i := i) (by rw [it_len]; exact hi))
      have x := len_mono n i h
      omega
    · obtain ⟨j, hj, e⟩ := mem_lens z
      have hx : (it j c).1 < c.2.length := by
        have q := it_ok j h
        have q2 : (it j c).1 < (it j c).2.length := q
        rw [it_len] at q2
        exact q2
      have y := b.2 _ (mem_len (c := it n c) (i := (it j c).1) (by rw [it_len]; exact hx))
      have x := len_mono (n - (j + 1)) (it j c).1 (it_ok (j + 1) h)
      rw [← it_add, show j + 1 + (n - (j + 1)) = n by omega, len_step j h, if_pos rfl] at x
      have w : (wd (it j c)).2 = len (it j c) (it j c).1 + 1 := rfl
      omega
  · obtain ⟨i, hi, e⟩ := len_of_mem b.1
    rw [it_len] at hi
    refine a.2 _ ?_
    rw [e]
    rcases len_from h (i := i) n with z | z
    · rw [z]
      exact List.mem_append.mpr (.inl (mem_len hi))
    · exact List.mem_append.mpr (.inr z)
end Lk
end
section
set_option maxRecDepth 100000
set_option maxHeartbeats 4000000
namespace Lk
open PySem PySem.Spec PyProof.Rows L2 LamX NdefX
def spRight (T : List (Addr × Str)) : Sp := fun vs H Q _ => ∃ (a : Addr) (n : Nat) (m : Int), vs = [.ref a, .int (n : Int)] ∧ n ≤ 5 ∧ Urn H a m ∧ m ≤ 80000 ∧ Tabs T H ∧ ∀ H', Urn H' a (m + 80) → ExB T a H H' → Q (.bl true) H'
theorem lo_at : ∀ {n : Nat}, n ≤ 5 → ([V.int 1, V.int 0, V.int 0, V.int 0, V.int 1, V.int 1] : List V)[n]? = some (.int (loN n))
  | 0, _ => rfl
  | 1, _ => rfl
  | 2, _ => rfl
  | 3, _ => rfl
  | 4, _ => rfl
  | 5, _ => rfl
  | n + 6, h => absurd h (by omega)
theorem lo_hi {n : Nat} (h : n ≤ 5) : 0 ≤ loN n ∧ loN n ≤ 1 ∧ 10 ^ 18 ≤ hiN n ∧ hiN n ≤ 10 ^ 36 := by
  have a : loN n = 0 ∨ loN n = 1 := by
    match n, h with
    | 0, _ => exact .inr rfl
    | 1, _ => exact .inl rfl
    | 2, _ => exact .inl rfl
    | 3, _ => exact .inl rfl
    | 4, _ => exact .inr rfl
    | 5, _ => exact .inr rfl
    | n + 6, h => exact absurd h (by omega)
  have b : hiN n = 10 ^ 36 ∨ hiN n = 10 ^ 18 := by
    unfold hiN
    split
    · exact .inl rfl
    · exact .inr rfl
  rcases a with a | a <;> rcases b with b | b <;> rw [a, b] <;> decide
theorem if_hi {n : Nat} {σ : L2.St} {H : Hp} {Q : VK} (e : σ[1]? = some (some (.int (n : Int)))) (q : Q (.int (hiN n)) H) :
    tIf (tTest (tOp rEq (tVar 1) (tC (.int 2)))) (tOp (rI CPow fun i j => V.int (i ^ j.toNat)) (tC (.int 10)) (tC (.int 36))) (tOp (rI CPow fun i j => V.int (i ^ j.toNat)) (tC (.int 10)) (tC (.int 18))) σ H Q := by
  refine ⟨_, e, rfl, _, rfl, ite2 (fun g => ⟨10, 36, rfl, rfl, ⟨by decide, by decide, by decide⟩, ?_⟩) (fun g => ⟨10, 18, rfl, rfl, ⟨by decide, by decide, by decide⟩, ?_⟩)⟩
  · have en : n = 2 := by
      have z := V.int.inj (of_decide_eq_true g)
      omega
    have eh : hiN n = (10 : Int) ^ (36 : Int).toNat := by
      unfold hiN
      rw [if_pos en]
      decide +kernel
    rw [eh] at q
    exact q
  · have en : n ≠ 2 := fun e => g (decide_eq_true (by rw [e]; rfl))
    have eh : hiN n = (10 : Int) ^ (18 : Int).toNat := by
      unfold hiN
      rw [if_neg en]
      decide +kernel
    rw [eh] at q
    exact q
def rb (b : Bool) (s : Str) : List V := (List.replicate (if b = true then (1 : Int) else 0).toNat [V.str s]).flatten
theorem rb_ok (b : Bool) : -(2 ^ 63) ≤ (if b = true then (1 : Int) else 0) ∧ (if b = true then (1 : Int) else 0) < 2 ^ 63 ∧ 1 * (if b = true then (1 : Int) else 0).toNat ≤ sizeLine := by
  cases b
  · exact ⟨by decide, by decide, by show 0 ≤ sizeLine; decide⟩
  · exact ⟨by decide, by decide, by show 1 ≤ sizeLine; decide⟩
theorem rb_len (b : Bool) (s : Str) : (rb b s).length ≤ 1 := by
  cases b
  · exact Nat.zero_le _
  · exact Nat.le_refl _
theorem andV_of {ta tb : TE} {σ : L2.St} {H : Hp} {Q : VK} {b c : Bool} (h1 : ∀ Q' : VK, Q' (.bl b) H → ta σ H Q') (h2 : ∀ Q' : VK, Q' (.bl c) H → tb σ H Q') (q : Q (.bl (b && c)) H) : tAndV ta tb σ H Q := by
  refine h1 _ ⟨b, rfl, ?_⟩
  cases b with
  | false => exact iteF q
  | true => exact iteT (h2 _ q)
section
variable {P : Program} {w : World} {K : PySem.W.Frag} {mg : Str → Option Value} {base : Heap}
abbrev nRt : List Str := ["pot", "door", "low", "high", "coder", "handed", "bad", "odd_ones", "words", "kept", "k"]
theorem sc_right : FnScope nRt ["pot", "door"] (defScope s_law_right) := ⟨rfl, rfl, rfl, by decide +kernel, rfl, by decide +kernel, by decide +kernel⟩
theorem ok_right {f : Addr} {fd : FuncData} {T : List (Addr × Str)} (F : Fun K "_law_right" "_law_right" s_law_right f fd) (draw : C8.Cal P w K mg base 1 "_law_draw" spPull []) (cc : C8.Cal P w K mg base 2 "_law_coder" spFCoder []) (cn : C8.Cal P w K mg base 2 "_law_no_coder" spNoCoder []) (co : C8.Cal P w K mg base 2 "_law_none_of" spNoneOf [])
    (cs : C8.Cal P w K mg base 9 "_law_said" (spSaid T) []) (mr : mg "range" = none) (mp : mg "repr" = none) (ml : mg "len" = none) (mi : mg "int" = none) : FnG P w K mg base CX0 10 f fd ["pot", "door"] (spRight T) := by
  refine fnG F sc_right (fun {vs H Q E} h => ?_) (fun cdv A outer s H vs Q E gA hr h => ?_)
  · obtain ⟨a, n, m, rfl, _⟩ := h
    rfl
  · obtain ⟨a, n, m, rfl, n5, bA, hm, hT, q⟩ := h
    have nd := sc_right.nd
    have hu0 := hr.un
    have hu : (A.deeper (envOfC "_law_right" (defScope s_law_right) s.heap.objs.size f cdv)).units + 64 < cLine := by omega
    have hv : (A.deeper (envOfC "_law_right" (defScope s_law_right) s.heap.objs.size f cdv)).units + 100 < cLine := by omega
    refine ⟨_, (pss_cons (by exact (ps_set (i := 2) nd rfl (Or.inl rfl) (pe_ix ix_list (pe_lstS (pa_cons pe_int (pa_cons pe_int (pa_cons pe_int (pa_cons pe_int (pa_cons pe_int (pa_cons pe_int pa_nil))))))) (pv 1) (fun _ _ => rfl))))
      (pss_cons (by exact (ps_set (i := 3) nd rfl (Or.inl rfl) (pe_ifExp (pt_cmpR op_eq (pv 1) pe_int (nomark _)) (pe_op op_pow pe_int pe_int) (pe_op op_pow pe_int pe_int))))
      (pss_cons (by exact (ps_set (i := 4) nd rfl (Or.inl rfl) (C8.pe_c cc hr (by decide) rfl (pa_cons (pv 0) pa_nil))))
      (pss_cons (by exact (ps_set (i := 5) nd rfl (Or.inr rfl) (pe_lstS (pa_cons (pv 4) (pa_cons (C8.pe_c draw hr (by decide) rfl (pa_cons (pv 0) (pa_cons (pe_callB call_len_seq (by rfl) ml PySem.boot_len (pa_cons (pe_ix ix_tup (pv 4) pe_int (fun _ _ => rfl)) pa_nil)) pa_nil))) (pa_cons (pe_ix ix_list (pe_lstS (pa_cons (pv 2) (pa_cons (pv 3) (pa_cons (pe_op op_add (pv 2) (C8.pe_c draw hr (by decide) rfl (pa_cons (pv 0) (pa_cons (pe_op op_pow pe_int pe_int) pa_nil)))) pa_nil)))) (C8.pe_c draw hr (by decide) rfl (pa_cons (pv 0) (pa_cons pe_int pa_nil))) (fun _ _ => rfl)) pa_nil))))))
      (pss_cons (by exact (ps_set (i := 6) nd rfl (Or.inr rfl) (pe_lstS (pa_cons (C8.pe_c cn hr (by decide) rfl (pa_cons (pv 0) pa_nil)) (pa_cons (C8.pe_c co hr (by decide) rfl (pa_cons (pv 0) (pa_cons pe_int (pa_cons (pe_op op_sub (pe_callB call_len_seq (by rfl) ml PySem.boot_len (pa_cons (pe_ix ix_tup (pv 4) pe_int (fun _ _ => rfl)) pa_nil)) pe_int) pa_nil)))) (pa_cons (C8.pe_c co hr (by decide) rfl (pa_cons (pv 0) (pa_cons (pv 2) (pa_cons (pv 3) pa_nil)))) pa_nil))))))
      (pss_cons (by exact (ps_set (i := 7) nd rfl (Or.inr rfl) (pe_lc (own := [("k", 10)]) (g := (gName 10)) (tt := tYes) rfl nd (pi_range1 (by rfl) mr (pa_cons pe_int pa_nil)) (blkOk_by (N := nRt) (sc := defScope s_law_right) (by decide +kernel)) (fun _ _ _ _ _ => (pg_name (i := 10) nd rfl (Or.inl rfl))) (fun _ _ _ _ _ => pts_nil) (fun _ _ _ _ _ => (pe_cmpR op_eq (C8.pe_c draw hr (by decide) rfl (pa_cons (pv 0) (pa_cons pe_int pa_nil))) pe_int (nomark _))))))
      (pss_cons (by exact (ps_set (i := 5) nd rfl (Or.inr rfl) (pe_lc (own := [("k", 10)]) (g := (gName 10)) (tt := tYes) rfl nd (pi_range1 (by rfl) mr (pa_cons pe_int pa_nil)) (blkOk_by (N := nRt) (sc := defScope s_law_right) (by decide +kernel)) (fun _ _ _ _ _ => (pg_name (i := 10) nd rfl (Or.inl rfl))) (fun _ _ _ _ _ => pts_nil) (fun _ _ _ _ _ => (pe_ifExp (pt_val (pe_ix (ix_listK (K := K) rfl) (pv 7) (pv 10) (fun _ _ => rfl))) (pe_ix (ix_listK (K := K) rfl) (pv 6) (pv 10) (fun _ _ => rfl)) (pe_ix (ix_listK (K := K) rfl) (pv 5) (pv 10) (fun _ _ => rfl)))))))
      (pss_cons (by exact (ps_set (i := 8) nd rfl (Or.inl rfl) (pe_op op_catS (pe_op op_rep (pe_lstS (pa_cons pe_str pa_nil)) (pe_callTy call_int1 (by rfl) mi (by decide +kernel) (pa_cons (pe_ix ix_list (pv 7) pe_int (fun _ _ => rfl)) pa_nil))) (pe_op op_rep (pe_lstS (pa_cons pe_str pa_nil)) (pe_callTy call_int1 (by rfl) mi (by decide +kernel) (pa_cons (pe_and (pe_ix ix_list (pv 7) pe_int (fun _ _ => rfl)) (pe_one (pe_cmpR op_eq (pv 1) pe_int (nomark _)))) pa_nil))))))
      (pss_cons (by exact (ps_set (i := 8) nd rfl (Or.inl rfl) (pe_op op_catS (pe_op op_catS (pv 8) (pe_op op_rep (pe_lstS (pa_cons pe_str pa_nil)) (pe_callTy call_int1 (by rfl) mi (by decide +kernel) (pa_cons (pe_ix ix_list (pv 7) pe_int (fun _ _ => rfl)) pa_nil)))) (pe_lstS (pa_cons pe_str pa_nil)))))
      (pss_cons (by exact (ps_set (i := 9) nd rfl (Or.inl rfl) (pe_callB (call_rep gA hv) (by rfl) mp (by decide +kernel) (pa_cons (pv 5) pa_nil))))
      (pss_one (by exact (ps_ret (pe_and (pe_cmpR op_eq (C8.pe_c cs hr (by decide) rfl (pa_cons (pv 1) (pa_cons (pe_ix ix_list (pv 5) pe_int (fun _ _ => rfl)) (pa_cons (pe_ix ix_list (pv 5) pe_int (fun _ _ => rfl)) (pa_cons (pe_ix ix_list (pv 5) pe_int (fun _ _ => rfl)) pa_nil))))) (pe_ix ix_list (pv 8) pe_int (fun _ _ => rfl)) (nomark _)) (pe_one (pe_cmpR op_eq (pe_callB (call_rep gA hv) (by rfl) mp (by decide +kernel) (pa_cons (pv 5) pa_nil)) (pv 9) (nomark _))))))))))))))))), ?_⟩
    have z3 : (3 : Nat) ≤ sizeLine := by decide
    have z1 : (1 : Nat) ≤ sizeLine := by decide
    obtain ⟨lo0, lo1, hi18, hi36⟩ := lo_hi n5
    refine ⟨(by show 6 ≤ sizeLine; decide), fun L0 G1 m1 w1 e1 => ⟨_, rfl, L0, _, (n : Int), .int (loN n), rfl, rfl, SqL.of e1, atI_nat (lo_at n5), ?_⟩⟩
    refine if_hi rfl ?_
    obtain ⟨lo, elo⟩ : ∃ x, loN n = x := ⟨_, rfl⟩
    obtain ⟨hi, ehi⟩ : ∃ x, hiN n = x := ⟨_, rfl⟩
    rw [elo, ehi]
    rw [elo] at lo0 lo1
    rw [ehi] at hi18 hi36
    refine ⟨_, rfl, a, m, rfl, bA.same w1, by omega, fun cv c H2 hc hB b2 sb2 cat => ?_⟩
    obtain ⟨ca, lb, rfl, hca, hlb⟩ := id cat
    have hp := hc.pos
    have h12 := hc.2
    have ll : (c.2.map vN).length = c.2.length := by rw [List.length_map]
    have z40 : (12 : Int) ≤ 10 ^ 40 := by decide
    have z18 : (10 : Int) ^ (18 : Int).toNat ≤ 10 ^ 40 := by decide
    have e18 : (10 : Int) ^ (18 : Int).toNat = 10 ^ 18 := by decide +kernel
    have nca : ca ≠ a := fun z => by
      obtain ⟨_, _, _, eb, _⟩ := id b2
      rw [z, eb] at hca
      cases hca
    have nlb : lb ≠ a := fun z => by
      obtain ⟨_, _, _, eb, _⟩ := id b2
      rw [z, eb] at hlb
      cases hlb
    -- handed
    refine ⟨_, rfl, _, rfl, _, rfl, ca, _, 1, .ref lb, rfl, rfl, SqT.of hca, rfl, lb, _, rfl, .inr (SqT.of hlb), a, ((c.2.map vN).length : Int), m + 60, rfl, b2, by omega, by omega, by omega, fun v1 H3 a1 c1 b3 sb3 => ?_⟩
    refine ⟨_, rfl, _, rfl, _, rfl, _, rfl, 10, 18, rfl, rfl, ⟨by decide, by decide, by decide⟩, a, _, _, rfl, b3, by omega, by decide, z18, fun v2 H4 a2 c2 b4 sb4 => ⟨_, _, rfl, rfl, z3, fun L1 H5 n5' s5 e5 => ?_⟩⟩
    have b5 := b4.same s5
    have nL1 : L1 ≠ a := (b4.ne n5').symm
    refine ⟨_, rfl, a, 3, _, rfl, b5, by omega, by decide, by decide, fun v3 H6 a3 c3 b6 sb6 => ?_⟩
    rw [e18] at c2
    obtain ⟨num, hnum, nlo, nhi⟩ : ∃ num : Int, ([V.int lo, V.int hi, V.int (lo + v2)] : List V)[v3.toNat]? = some (.int num) ∧ lo ≤ num ∧ num ≤ hi := by
      obtain ⟨j, rfl⟩ := Int.eq_ofNat_of_zero_le a3
      match j, c3 with
      | 0, _ => exact ⟨lo, rfl, by omega, by omega⟩
      | 1, _ => exact ⟨hi, rfl, by omega, by omega⟩
      | 2, _ => exact ⟨lo + v2, rfl, by omega, by omega⟩
      | j + 3, z => exact absurd z (by omega)
    refine ⟨L1, _, v3, .int num, rfl, rfl, SqL.of (sb6 _ _ nL1 e5), ?_, z3, fun HD H7 n7 s7 e7 => ?_⟩
    · rw [show v3 = ((v3.toNat : Nat) : Int) by omega]
      exact atI_nat hnum
    have b7 := b6.same s7
    have nHD : HD ≠ a := (b6.ne n7).symm
    have s27 : SameBut a H2 H7 := fun b o nb e => s7 _ _ (sb6 _ _ nb (s5 _ _ (sb4 _ _ nb (sb3 _ _ nb e))))
    have hca7 := s27 _ _ nca hca
    have hlb7 := s27 _ _ nlb hlb
    have s07 : SameBut a H H7 := fun b o nb e => s27 _ _ nb (sb2 _ _ nb (w1 _ _ e))
    clear e1 m1 sb3 sb4 sb6 s5 e5 s7 n5' n7 b3 b4 b5 b6 s27 w1 sb2
    -- bad
    refine ⟨_, rfl, a, _, rfl, b7, by omega, fun bv0 bd0 B1 tb0 nb0 lb0 gb0 u1 q1 => ?_⟩
    have hca8 := q1 _ _ nca hca7
    have hlb8 := q1 _ _ nlb hlb7
    refine ⟨_, rfl, _, rfl, ca, _, 1, .ref lb, rfl, rfl, SqT.of hca8, rfl, lb, _, rfl, .inr (SqT.of hlb8), _, _, rfl, rfl, a, 0, ((c.2.map vN).length : Int) - 1, _, rfl, u1, by omega, by omega, by decide, by omega, fun bv1 bd1 B2 tb1 nb1 gb1 u2 q2 => ?_⟩
    refine ⟨_, rfl, _, rfl, _, rfl, a, lo, hi, _, rfl, u2, by omega, by omega, by omega, by omega, fun bv2 bd2 B3 tb2 nb2 gb2 u3 q3 => ⟨z3, fun BL B4 n4 s4 e4 => ?_⟩⟩
    have nBL : BL ≠ a := (u3.ne n4).symm
    have uB : Urn B4 a (m + 70) := by
      have z := u3.same s4
      have e : m + 60 + 1 + 1 + 1 + 1 + 3 + 3 = m + 70 := by omega
      rw [e] at z
      exact z
    have sB1 : SameBut a B1 B4 := fun b o nb e => s4 _ _ (q3 _ _ nb (q2 _ _ nb e))
    have s7B : SameBut a H7 B4 := fun b o nb e => sB1 _ _ nb (q1 _ _ nb e)
    have hcaB := sB1 _ _ nca hca8
    have hlbB := sB1 _ _ nlb hlb8
    have eHD := s7B _ _ nHD e7
    have t0 : Th (rm a B4) bv0 bd0 := Th.up tb0 sB1
    have t1 : Th (rm a B4) bv1 bd1 := Th.up tb1 (fun b o nb e => s4 _ _ (q3 _ _ nb e))
    have t2 : Th (rm a B4) bv2 bd2 := Th.up tb2 (Same.but s4)
    have s0B : SameBut a H B4 := fun b o nb e => s7B _ _ nb (s07 _ _ nb e)
    have tcd : Th (rm a B4) (.ref ca) (cdD c) := th_tup uB hcaB (.cons (.int _) (.cons (th_tup uB hlbB (ints_nat c.2)) .nil))
    clear u1 u2 u3 q1 q2 q3 tb0 tb1 tb2 hca7 hlb7 hca8 hlb8 s07 s7B e7 b7 cat hca hlb n4 s4 sB1 b2
    -- odd_ones
    refine ⟨3, rfl, by decide, by decide, fun O nO => ?_⟩
    have neO : O ≠ a := (uB.ne nO).symm
    refine lc_it (n := (3 : Int).toNat) walk_range (fun i H' => ∃ bs : List Bool, bs.length = i ∧ SameBut a B4 H' ∧ H' O = some (.lst (bs.map V.bl)) ∧ Urn H' a (m + 70 + (i : Int))) ⟨[], rfl, fun b o nb e => same_new nO _ _ e, upd_same, by
      obtain ⟨x0, x1, x2, e, r⟩ := uB
      exact ⟨x0, x1, x2, by rw [upd_ne neO.symm]; exact e, by simpa using r⟩⟩ (fun _ _ _ _ => True.intro) ?_ ?_
    · rintro j x2 R1 R2 hj ⟨bs, lbs, r1, r2, ru⟩ ⟨rfl, rfl⟩
      have hj3 : j < 3 := hj
      refine ⟨rfl, _, rfl, a, 3, _, rfl, ru, by omega, by decide, by decide, fun v R v0 v3' uR sR => ⟨rfl, _, sR _ _ neO r2, ?_, bs ++ [decide (V.int v = V.int 0)], ?_, ?_, ?_, ?_⟩⟩
      · rw [List.length_map, lbs]
        exact Nat.lt_trans hj3 (by decide)
      · rw [List.length_append, lbs]
        rfl
      · intro b o nb e
        have y := sR _ _ nb (r1 _ _ nb e)
        rw [upd_ne (ne_of_none e nO)]
        exact y
      · rw [upd_same, List.map_append]
        rfl
      · obtain ⟨x0, x1, x2, e, r⟩ := uR
        have ee : m + 70 + (j : Int) + 1 = m + 70 + ((j + 1 : Nat) : Int) := by omega
        rw [ee] at r
        exact ⟨x0, x1, x2, by rw [upd_ne neO.symm]; exact e, r⟩
    rintro R ⟨bs, lbs, sR, eO, uR⟩
    obtain ⟨b0, b1, b2, rfl⟩ : ∃ b0 b1 b2, bs = [b0, b1, b2] := by
      match bs, lbs with
      | [b0, b1, b2], _ => exact ⟨b0, b1, b2, rfl⟩
    have eHDR := sR _ _ nHD eHD
    have eBL := sR _ _ nBL e4
    have t0R := Th.up t0 sR
    have t1R := Th.up t1 sR
    have t2R := Th.up t2 sR
    have tcR := Th.up tcd sR
    have s0R : SameBut a H R := fun b o nb e => sR _ _ nb (s0B _ _ nb e)
    clear s0B t0 t1 t2 tcd sR eHD e4 hcaB hlbB
    -- handed
    refine ⟨3, rfl, by decide, by decide, fun D nD => ?_⟩
    obtain ⟨x0, ex0⟩ : ∃ x, (if b0 = true then bv0 else V.ref ca) = x := ⟨_, rfl⟩
    obtain ⟨x1, ex1⟩ : ∃ x, (if b1 = true then bv1 else V.int v1) = x := ⟨_, rfl⟩
    obtain ⟨x2, ex2⟩ : ∃ x, (if b2 = true then bv2 else V.int num) = x := ⟨_, rfl⟩
    refine lc_it (n := (3 : Int).toNat) walk_range (fun i H' => Same R H' ∧ H' D = some (.lst ([x0, x1, x2].take i))) ⟨same_new nD, upd_same⟩ (fun _ _ _ _ => True.intro) ?_ ?_
    · rintro j xj R1 R2 hj ⟨r1, r2⟩ ⟨rfl, rfl⟩
      have hj3 : j < 3 := hj
      obtain ⟨bj, vj, hh, e1, e2, e3, e4⟩ : ∃ (bj : Bool) (vj hh : V), ([b0, b1, b2].map V.bl)[j]? = some (.bl bj) ∧ ([bv0, bv1, bv2] : List V)[j]? = some vj ∧ ([V.ref ca, V.int v1, V.int num] : List V)[j]? = some hh ∧ ([x0, x1, x2] : List V)[j]? = some (if bj = true then vj else hh) := by
        match j, hj3 with
        | 0, _ => exact ⟨b0, bv0, .ref ca, rfl, rfl, rfl, by rw [ex0]; rfl⟩
        | 1, _ => exact ⟨b1, bv1, .int v1, rfl, rfl, rfl, by rw [ex1]; rfl⟩
        | 2, _ => exact ⟨b2, bv2, .int num, rfl, rfl, rfl, by rw [ex2]; rfl⟩
        | j + 3, h => exact absurd h (by omega)
      have ej : (0 + (j : Int)) = ((j : Nat) : Int) := Int.zero_add _
      have room : ([x0, x1, x2].take j).length < sizeLine := Nat.lt_of_le_of_lt (List.length_take_le' _ _) (by show 3 < sizeLine; decide)
      have next : ∀ y, ([x0, x1, x2] : List V)[j]? = some y → [x0, x1, x2].take j ++ [y] = [x0, x1, x2].take (j + 1) := fun y hy => by rw [List.take_add_one, hy]; rfl
      refine ⟨rfl, _, rfl, _, rfl, O, _, _, .bl bj, rfl, rfl, SqL.of (r1 _ _ eO), (by rw [ej]; exact atI_nat e1), _, rfl, ?_⟩
      cases bj with
      | true => exact iteT ⟨_, rfl, _, rfl, BL, _, _, vj, rfl, rfl, SqL.of (r1 _ _ eBL), (by rw [ej]; exact atI_nat e2), _, r2, room, same_push r1 nD, by rw [upd_same, next vj e4]⟩
      | false => exact iteF ⟨_, rfl, _, rfl, HD, _, _, hh, rfl, rfl, SqL.of (r1 _ _ eHDR), (by rw [ej]; exact atI_nat e3), _, r2, room, same_push r1 nD, by rw [upd_same, next hh e4]⟩
    rintro Y ⟨sY, eD⟩
    have eD3 : Y D = some (.lst [x0, x1, x2]) := eD
    have eOY := sY _ _ eO
    -- words
    obtain ⟨k1, k2, k3⟩ := rb_ok b0
    refine ⟨z1, fun W0 Q1 n0 g0 f0 => ⟨_, rfl, O, _, 0, .bl b0, rfl, rfl, SqL.of (g0 _ _ eOY), rfl, .inr ⟨b0, rfl, W0, _, _, rfl, rfl, f0, k1, k2, k3, fun W1 nW1 => ?_⟩⟩⟩
    have g1 : Same Q1 (upd Q1 W1 (.lst (rb b0 "coder"))) := same_new nW1
    have f1 : upd Q1 W1 (.lst (rb b0 "coder")) W1 = some (.lst (rb b0 "coder")) := upd_same
    change tOp L2.rRep _ _ _ (upd Q1 W1 (.lst (rb b0 "coder"))) _
    generalize upd Q1 W1 (.lst (rb b0 "coder")) = Q2 at g1 f1
    obtain ⟨bp, ebp⟩ : ∃ bp, (b1 && decide (V.int (n : Int) = V.int 5)) = bp := ⟨_, rfl⟩
    obtain ⟨k4, k5, k6⟩ := rb_ok bp
    obtain ⟨k7, k8, k9⟩ := rb_ok b2
    refine ⟨z1, fun W2 Q3 n2 g2 f2 => ?_⟩
    have eO3 := g2 _ _ (g1 _ _ (g0 _ _ eOY))
    refine andV_of (b := b1) (c := decide (V.int (n : Int) = V.int 5)) (fun Q' z => ⟨_, rfl, O, _, 1, .bl b1, rfl, rfl, SqL.of eO3, rfl, z⟩) (fun Q' z => ⟨_, rfl, rfl, z⟩) ?_
    rw [ebp]
    refine .inr ⟨bp, rfl, W2, _, _, rfl, rfl, f2, k4, k5, k6, fun W3 nW3 => ?_⟩
    have g3 : Same Q3 (upd Q3 W3 (.lst (rb bp "place"))) := same_new nW3
    have f3 : upd Q3 W3 (.lst (rb bp "place")) W3 = some (.lst (rb bp "place")) := upd_same
    change rCatS _ _ (upd Q3 W3 (.lst (rb bp "place"))) _
    generalize upd Q3 W3 (.lst (rb bp "place")) = Q4 at g3 f3
    have l1 := rb_len b0 "coder"
    have l2 := rb_len bp "place"
    have l3 := rb_len b2 "count"
    refine ⟨W1, W3, _, _, rfl, rfl, g3 _ _ (g2 _ _ f1), f3, (by rw [sizeLine_eq]; omega), fun WW Q5 n5' g5 f5 => ?_⟩
    refine ⟨_, rfl, z1, fun W4 Q6 n6 g6 f6 => ⟨_, rfl, O, _, 2, .bl b2, rfl, rfl, SqL.of (g6 _ _ (g5 _ _ (g3 _ _ eO3))), rfl, .inr ⟨b2, rfl, W4, _, _, rfl, rfl, f6, k7, k8, k9, fun W5 nW5 => ?_⟩⟩⟩
    have g7 : Same Q6 (upd Q6 W5 (.lst (rb b2 "count"))) := same_new nW5
    have f7 : upd Q6 W5 (.lst (rb b2 "count")) W5 = some (.lst (rb b2 "count")) := upd_same
    change rCatS _ _ (upd Q6 W5 (.lst (rb b2 "count"))) _
    generalize upd Q6 W5 (.lst (rb b2 "count")) = Q7 at g7 f7
    refine ⟨WW, W5, _, _, rfl, rfl, g7 _ _ (g6 _ _ f5), f7, (by rw [List.length_append, sizeLine_eq]; omega), fun W6 Q8 n8 g8 f8 => ⟨z1, fun W7 Q9 n9 g9 f9 => ?_⟩⟩
    refine ⟨W6, W7, _, _, rfl, rfl, g9 _ _ f8, f9, (by rw [List.length_append, List.length_append, sizeLine_eq]; show _ + 1 ≤ _; omega), fun W8 Z n10 g10 fW8 => ?_⟩
    have sYZ : Same Y Z := Same.trans g0 (Same.trans g1 (Same.trans g2 (Same.trans g3 (Same.trans g5 (Same.trans g6 (Same.trans g7 (Same.trans g8 (Same.trans g9 g10))))))))
    have sRZ : Same R Z := Same.trans sY sYZ
    have hD8 := sYZ _ _ eD3
    have s0Z : SameBut a H Z := fun b o nb e => sRZ _ _ (s0R _ _ nb e)
    have tabsZ : Tabs T Z := by
      obtain ⟨_, _, _, eb, _⟩ := id bA
      exact Tabs.but hT eb s0Z
    have uZ : Urn Z a (m + 70 + ((3 : Int).toNat : Int)) := uR.same sRZ
    have up : ∀ {v d}, Th (rm a R) v d → Th Z v d := fun h => Th.same sRZ _ (Th.same rm_same _ h)
    have hB45 : ∀ y ∈ c.2, y < 10 ^ 45 := fun y hy => Nat.lt_of_le_of_lt (hB y hy) (by decide)
    have hB39 : ∀ y ∈ c.2, y < 10 ^ 39 := fun y hy => Nat.lt_of_le_of_lt (hB y hy) (by decide)
    obtain ⟨y0, th0, gd0, ey0⟩ : ∃ d, Th Z x0 d ∧ Good d ∧ (if b0 = true then bd0 else cdD c) = d := by
      refine ⟨_, ?_, ?_, rfl⟩
      · rw [← ex0]
        cases b0 with
        | true => exact up t0R
        | false => exact up tcR
      · cases b0 with
        | true => exact gb0
        | false => exact good_cd hc hB45
    obtain ⟨y1, th1, gd1, ey1⟩ : ∃ d, Th Z x1 d ∧ Good d ∧ (if b1 = true then bd1 else PyData.int v1) = d := by
      refine ⟨_, ?_, ?_, rfl⟩
      · rw [← ex1]
        cases b1 with
        | true => exact up t1R
        | false => exact .int _
      · cases b1 with
        | true => exact gb1
        | false => exact (goodS_int (by omega)).good
    obtain ⟨y2, th2, gd2, ey2⟩ : ∃ d, Th Z x2 d ∧ Good d ∧ (if b2 = true then bd2 else PyData.int num) = d := by
      refine ⟨_, ?_, ?_, rfl⟩
      · rw [← ex2]
        cases b2 with
        | true => exact up t2R
        | false => exact .int _
      · cases b2 with
        | true => exact gb2
        | false => exact (goodS_int (by omega)).good
    have reprH : ∀ {H' : Hp} {Q' : VK}, H' D = some (.lst [x0, x1, x2]) → (∀ {v d}, Th Z v d → Th H' v d) → Q' (.str (PyData.list [y0, y1, y2]).shown) H' → rRep K [.ref D] H' Q' := fun {H' Q'} e th q' => by
      refine rep_good e (.cons (th th0) (.cons (th th1) (.cons (th th2) .nil))) (fun d hd => ?_) (by show 3 ≤ 100; decide) q'
      simp only [List.mem_cons, List.not_mem_nil, or_false] at hd
      rcases hd with rfl | rfl | rfl
      · exact gd0
      · exact gd1
      · exact gd2
    -- kept
    refine ⟨_, rfl, ?_⟩
    try dsimp only [tNil]
    refine reprH hD8 (fun th => th) ?_
    have b0no : ∀ c', y0 = cdD c' → CdOk c' → b0 = false ∧ c' = c := fun c' e hc' => by
      cases b0 with
      | true =>
        have e2 : bd0 = cdD c' := ey0.trans e
        rw [e2, isCd_cdD hc'] at nb0
        cases nb0
      | false => exact ⟨rfl, (cdD_inj (show cdD c = cdD c' from ey0.trans e)).symm⟩
    have in1 : inR (.int v1) 0 ((c.2.length : Int) - 1) = true := by
      show (decide ((0 : Int) ≤ v1) && decide (v1 ≤ (c.2.length : Int) - 1)) = true
      rw [decide_eq_true (by omega), decide_eq_true (by omega)]
      rfl
    have in2 : inR (.int num) lo hi = true := by
      show (decide (lo ≤ num) && decide (num ≤ hi)) = true
      rw [decide_eq_true (by omega), decide_eq_true (by omega)]
      rfl
    have ll1 : ((c.2.map vN).length : Int) - 1 = (c.2.length : Int) - 1 := by rw [ll]
    rw [ll1] at nb1
    have notp : (n = 5 → inR y1 0 ((c.2.length : Int) - 1) = true) → bp = false := fun hn => by
      rw [← ebp]
      cases b1 with
      | false => rfl
      | true =>
        rw [Bool.true_and]
        refine decide_eq_false fun z => ?_
        have n5e : n = 5 := by
          have y := V.int.inj z
          omega
        have y := hn n5e
        rw [← ey1] at y
        rw [show (if true = true then bd1 else PyData.int v1) = bd1 from rfl, nb1] at y
        cases y
    refine ⟨_, rfl, _, rfl, D, _, 0, x0, rfl, rfl, SqL.of hD8, rfl, _, rfl, D, _, 1, x1, rfl, rfl, SqL.of hD8, rfl, _, rfl, D, _, 2, x2, rfl, rfl, SqL.of hD8, rfl, n, x0, x1, x2, y0, y1, y2, rfl, n5, th0, th1, th2, tabsZ, fun c' e => ?_, fun hd => ?_, fun c' e hc' hn hi' => ?_, fun c' e hc' hn hf => ?_, fun c' e hc' hn hf => ?_⟩
    · cases b0 with
      | true => exact lb0 c' (show bd0 = cdD c' from ey0.trans e)
      | false =>
        have ec := cdD_inj (show cdD c = cdD c' from ey0.trans e)
        rw [← ec]
        exact hB39
    · intro H' ext
      have hb : b0 = true := by
        cases b0 with
        | true => rfl
        | false =>
          rw [← ey0] at hd
          rw [show (if false = true then bd0 else cdD c) = cdD c from rfl, isCd_cdD hc] at hd
          cases hd
      have hw : (((rb b0 "coder" ++ rb bp "place") ++ rb b2 "count") ++ [.str "told"] : List V)[0]? = some (.str "coder") := by rw [hb]; rfl
      refine ⟨_, rfl, W8, _, 0, .str "coder", rfl, rfl, SqL.of (ext.lst fW8), atI_nat (j := 0) hw, rfl, _, rfl, ?_⟩
      rw [decide_eq_true rfl]
      refine iteT ⟨_, rfl, ?_⟩
      try dsimp only [tNil]
      refine reprH (ext.lst hD8) (fun th => Th.ext ext th) ?_
      refine ⟨_, rfl, rfl, ?_⟩
      rw [decide_eq_true rfl]
      exact q H' ((Urn.ext ext uZ).le (by show m + 70 + 3 ≤ m + 80; omega)) ⟨fun b o nb e ntb => ext.1 b o (s0Z b o nb e) ntb, ext.2⟩
    · intro H' ext
      obtain ⟨hb, rfl⟩ := b0no c' e hc'
      have h1 : b1 = true := by
        cases b1 with
        | true => rfl
        | false =>
          rw [← ey1] at hi'
          rw [show (if false = true then bd1 else PyData.int v1) = PyData.int v1 from rfl, in1] at hi'
          cases hi'
      have hbp : bp = true := by
        rw [← ebp, h1, hn]
        decide +kernel
      have hw : (((rb b0 "coder" ++ rb bp "place") ++ rb b2 "count") ++ [.str "told"] : List V)[0]? = some (.str "place") := by rw [hb, hbp]; rfl
      refine ⟨_, rfl, W8, _, 0, .str "place", rfl, rfl, SqL.of (ext.lst fW8), atI_nat (j := 0) hw, rfl, _, rfl, ?_⟩
      rw [decide_eq_true rfl]
      refine iteT ⟨_, rfl, ?_⟩
      try dsimp only [tNil]
      refine reprH (ext.lst hD8) (fun th => Th.ext ext th) ?_
      refine ⟨_, rfl, rfl, ?_⟩
      rw [decide_eq_true rfl]
      exact q H' ((Urn.ext ext uZ).le (by show m + 70 + 3 ≤ m + 80; omega)) ⟨fun b o nb e ntb => ext.1 b o (s0Z b o nb e) ntb, ext.2⟩
    · intro H' ext
      obtain ⟨hb, rfl⟩ := b0no c' e hc'
      have hbp : bp = false := notp hn
      have h2 : b2 = true := by
        cases b2 with
        | true => rfl
        | false =>
          rw [← ey2] at hf
          rw [show (if false = true then bd2 else PyData.int num) = PyData.int num from rfl, elo, ehi, in2] at hf
          cases hf
      have hw : (((rb b0 "coder" ++ rb bp "place") ++ rb b2 "count") ++ [.str "told"] : List V)[0]? = some (.str "count") := by rw [hb, hbp, h2]; rfl
      refine ⟨_, rfl, W8, _, 0, .str "count", rfl, rfl, SqL.of (ext.lst fW8), atI_nat (j := 0) hw, rfl, _, rfl, ?_⟩
      rw [decide_eq_true rfl]
      refine iteT ⟨_, rfl, ?_⟩
      try dsimp only [tNil]
      refine reprH (ext.lst hD8) (fun th => Th.ext ext th) ?_
      refine ⟨_, rfl, rfl, ?_⟩
      rw [decide_eq_true rfl]
      exact q H' ((Urn.ext ext uZ).le (by show m + 70 + 3 ≤ m + 80; omega)) ⟨fun b o nb e ntb => ext.1 b o (s0Z b o nb e) ntb, ext.2⟩
    · intro H' ext
      obtain ⟨hb, rfl⟩ := b0no c' e hc'
      have hbp : bp = false := notp hn
      have h2 : b2 = false := by
        cases b2 with
        | false => rfl
        | true =>
          rw [← ey2] at hf
          rw [show (if true = true then bd2 else PyData.int num) = bd2 from rfl, elo, ehi, nb2] at hf
          cases hf
      have hw : (((rb b0 "coder" ++ rb bp "place") ++ rb b2 "count") ++ [.str "told"] : List V)[0]? = some (.str "told") := by rw [hb, hbp, h2]; rfl
      refine ⟨_, rfl, W8, _, 0, .str "told", rfl, rfl, SqL.of (ext.lst fW8), atI_nat (j := 0) hw, rfl, _, rfl, ?_⟩
      rw [decide_eq_true rfl]
      refine iteT ⟨_, rfl, ?_⟩
      try dsimp only [tNil]
      refine reprH (ext.lst hD8) (fun th => Th.ext ext th) ?_
      refine ⟨_, rfl, rfl, ?_⟩
      rw [decide_eq_true rfl]
      exact q H' ((Urn.ext ext uZ).le (by show m + 70 + 3 ≤ m + 80; omega)) ⟨fun b o nb e ntb => ext.1 b o (s0Z b o nb e) ntb, ext.2⟩
end
end Lk
end
section
set_option maxRecDepth 100000
set_option maxHeartbeats 4000000
namespace Lk
open PySem PySem.Spec PyProof.Rows L2 LamX NdefX
def spLaw (K : PySem.W.Frag) (T : List (Addr × Str)) : Sp := fun vs H Q _ => ∃ (a : Addr) (ns : List Int), vs = [.ref a] ∧ SqL K H a (ns.map V.int) ∧ ns.length ≤ 63 ∧ Tabs T H ∧ ∀ H', Q (.bl true) H'
abbrev nL : List Str := ["script", "k", "pot", "door"]
section
variable {P : Program} {w : World} {K : PySem.W.Frag} {mg : Str → Option Value} {base : Heap}
theorem sc_law : FnScope nL ["script"] (defScope s_law) := ⟨rfl, rfl, rfl, by decide +kernel, rfl, by decide +kernel, by decide +kernel⟩
theorem ok_law {f : Addr} {fd : FuncData} {T : List (Addr × Str)} (F : Fun K "law" "law" s_law f fd) (cp : C8.Cal P w K mg base 1 "_law_pot" (spPot K) []) (cc : CalG P w K mg base 10 "_law_right" (spRight T)) (mr : mg "range" = none) (ml : mg "len" = none) (mx : mg "max" = none) (mn : mg "min" = none) : FnG P w K mg base CX0 12 f fd ["script"] (spLaw K T) := by
  refine fnG F sc_law (fun {vs H Q E} h => ?_) (fun cdv A outer s H vs Q E gA hr h => ?_)
  · obtain ⟨a, ns, rfl, _⟩ := h
    rfl
  · obtain ⟨a, ns, rfl, hS, h63, hT, q⟩ := h
    have nd := sc_law.nd
    refine ⟨_, (pss_cons (by exact (ps_for PassesOwn.never rfl (pi_range1 (by rfl) mr (pa_cons (pe_callB (call_max2 rfl) (by rfl) mx (by decide +kernel) (pa_cons pe_int (pa_cons (pe_callB (call_min2 rfl) (by rfl) mn (by decide +kernel) (pa_cons pe_int (pa_cons (pe_callB call_len_seq (by rfl) ml PySem.boot_len (pa_cons (pv 0) pa_nil)) pa_nil))) pa_nil))) pa_nil)) (pg_name (i := 1) nd rfl (Or.inl rfl)) (pss_cons (by exact (ps_set (i := 2) nd rfl (Or.inl rfl) (C8.pe_c cp hr (by decide) rfl (pa_cons (pv 0) (pa_cons (pv 1) pa_nil)))))
      (pss_one (by exact (ps_for PassesOwn.never rfl (pi_range1 (by rfl) mr (pa_cons pe_int pa_nil)) (pg_name (i := 3) nd rfl (Or.inl rfl)) (pss_one (by exact (ps_if (PW.pt (pw_or (pt_not (pt_val (pe_cG cc gA hr (by decide) rfl (pa_cons (pv 2) (pa_cons (pv 3) pa_nil))))) (pw_or1 (pt_not (pt_val (pe_cG cc gA hr (by decide) rfl (pa_cons (pv 2) (pa_cons (pv 3) pa_nil)))))))) (pss_one (by exact (ps_ret pe_bl))) pss_nil)))))))))
      (pss_one (by exact (ps_ret pe_bl)))), ?_⟩
    obtain ⟨N, hN, eN⟩ : ∃ N : Nat, N ≤ 6 ∧ (if (if (ns.length : Int) < 6 then (ns.length : Int) else 6) > 1 then (if (ns.length : Int) < 6 then (ns.length : Int) else 6) else 1) = (N : Int) := by
      by_cases g : (ns.length : Int) < 6
      · rw [if_pos g]
        by_cases g2 : (ns.length : Int) > 1
        · rw [if_pos g2]
          exact ⟨ns.length, by omega, rfl⟩
        · rw [if_neg g2]
          exact ⟨1, by decide, rfl⟩
      · rw [if_neg g, if_pos (by decide)]
        exact ⟨6, by decide, rfl⟩
    refine ⟨_, rfl, a, _, rfl, .inl hS, _, _, rfl, _, _, rfl, (N : Int), ?_, by omega, by omega, ?_⟩
    · refine congrArg (fun z => [V.int z]) ?_
      rw [List.length_map]
      exact eN
    rw [Int.toNat_natCast]
    have seq : ∀ {H1 : Hp}, Ext T H H1 → SqL K H1 a (ns.map V.int) := fun {H1} e => hS.imp (fun r => r.imp (fun z => e.lst z) (fun ⟨o, z⟩ => ⟨o, e.1 _ _ z (fun ps y => nomatch y)⟩)) id
    refine for_range (lo := 0) (n := N) (fun i σ H1 => ∃ y1 y2 y3, σ = [some (.ref a), y1, y2, y3] ∧ Ext T H H1) ⟨none, none, none, rfl, Ext.refl hT⟩ ?_ ?_
    · rintro i σ H1 hi ⟨y1, y2, y3, rfl, s1⟩
      refine ⟨_, rfl, _, rfl, a, ns, i, by rw [Int.zero_add]; rfl, seq s1, by omega, h63, fun A1 H2 nA sA bA => ?_⟩
      have nAH := s1.fresh nA
      have e2 : Ext T H H2 := s1.same sA
      refine ⟨6, rfl, by decide, by decide, ?_⟩
      refine for_range (lo := 0) (n := (6 : Int).toNat) (fun j σ H3 => ∃ y3, σ = [some (.ref a), some (.int (0 + (i : Int))), some (.ref A1), y3] ∧ Urn H3 A1 (160 * (j : Int)) ∧ Ext T H H3) ⟨_, rfl, bA.le (by omega), e2⟩ ?_ ?_
      · rintro j σ H3 hj ⟨y3', rfl, b3, e3⟩
        have hj6 : j < 6 := hj
        refine ⟨_, rfl, _, rfl, A1, j, 160 * (j : Int), ?_, by omega, b3, by omega, e3.2, fun H4 b4 x4 => ⟨true, rfl, iteF ?_⟩⟩
        · show [V.ref A1, V.int (0 + (j : Int))] = _
          rw [Int.zero_add]
        have e4 := e3.pot x4 nAH
        refine ⟨_, rfl, _, rfl, A1, j, _, ?_, by omega, b4, by omega, e4.2, fun H5 b5 x5 => ⟨true, rfl, iteF ?_⟩⟩
        · show [V.ref A1, V.int (0 + (j : Int))] = _
          rw [Int.zero_add]
        exact ⟨_, rfl, b5.le (by omega), e4.pot x5 nAH⟩
      · rintro σ H3 ⟨y3', rfl, _, e3⟩
        exact ⟨_, _, _, rfl, e3⟩
    · rintro σ H1 ⟨y1, y2, y3, rfl, s1⟩
      exact q H1
end
end Lk
end
section
set_option maxRecDepth 100000
set_option maxHeartbeats 4000000
namespace Lk
open PySem PySem.Spec PyProof.Rows L2
theorem mkCal {P : Program} {w : World} {K : PySem.W.Frag} {mg : Str → Option Value} {base : Heap} {k : Nat} {x q : Str} {st : Stmt} {f : Addr} {fd : FuncData} {ps : List Str} {sp : Sp} (F : Fun K x q st f fd) (g : mg x = some (.ref f)) (b : Binds K fd ps []) (ok : FnOk P w K mg base CX0 k f fd ps sp) : C8.Cal P w K mg base k x sp [] :=
  ⟨f, fd, ps, [], ok, g, F.kp, b, .nil⟩
theorem mkCalX {P : Program} {w : World} {K : PySem.W.Frag} {mg : Str → Option Value} {base : Heap} {k : Nat} {x q : Str} {st : Stmt} {f : Addr} {fd : FuncData} {ps : List Str} {sp : Sp} (F : Fun K x q st f fd) (g : mg x = some (.ref f)) (b : Binds K fd ps []) (ok : FnOk P w K mg base (L2.CX P w) k f fd ps sp) : CalX P w K mg base k x sp :=
  ⟨f, fd, ps, ok, g, F.kp, b⟩
theorem mkCalG {P : Program} {w : World} {K : PySem.W.Frag} {mg : Str → Option Value} {base : Heap} {k : Nat} {x q : Str} {st : Stmt} {f : Addr} {fd : FuncData} {ps : List Str} {sp : Sp} (F : Fun K x q st f fd) (g : mg x = some (.ref f)) (b : Binds K fd ps []) (ok : FnG P w K mg base CX0 k f fd ps sp) : CalG P w K mg base k x sp :=
  ⟨f, fd, ps, ok, g, F.kp, b⟩
theorem kit_no {K : PySem.W.Frag} {C D : Addr} (self : PySem.W.subIn K (.ref C) (.ref C) = some true) (hc : PySem.W.isClsIn K D = true) (ht : PySem.W.typeIn K (.ref D) = some (.type "type")) (hs : PySem.W.subIn K (.ref C) (.ref D) = some false) : PySem.W.kitOne K (.ref C) (.ref D) = some false := by
  have ne : ¬ ((Value.ref C == Value.ref D) = true) := fun z => by
    have e : C = D := Value.ref.inj (eq_of_beq z)
    rw [← e, self] at hs
    cases hs
  have hc' : (PySem.W.clsIn K D).isSome = true := hc
  unfold PySem.W.kitOne
  rw [if_neg ne]
  show (if ((PySem.W.clsIn K D).isSome && PySem.W.typeIn K (.ref D) == some (.type "type")) = true then PySem.W.subIn K (.ref C) (.ref D) else none) = some false
  rw [hc', ht, if_pos (by rfl)]
  exact hs
theorem kit_ve {K : PySem.W.Frag} {C : Addr} (hs : PySem.W.subIn K (.ref C) (.type "ValueError") = some true) : PySem.W.kitOne K (.ref C) (.type "ValueError") = some true := by
  unfold PySem.W.kitOne
  rw [if_neg (show ¬ ((Value.ref C == Value.type "ValueError") = true) from fun z => nomatch z)]
  show (if PySem.W.kitMeta "ValueError" = true then PySem.W.subIn K (.ref C) (.type "ValueError") else none) = some true
  rw [if_pos (by decide +kernel)]
  exact hs
theorem isb_to {K : PySem.W.Frag} {mg : Str → Option Value} {C : Addr} {x : Str} {b b' : Bool} (e : b' = b) (h : IsB K mg C x b) : IsB K mg C x b' := by
  rw [e]
  exact h
theorem all_mk {l : PySem.W.OpenLaw} {w : World} {K : PySem.W.Frag} {h : Heap} {mg : Str → Option Value} {fa : Addr} (X : K.In h) (G : h.Ns mainGlobals mg) (hfa : mg "law" = some (.ref fa))
    {f_is_whole f_is_within f_refuse_no_count f_is_coder f_refuse_no_coder f_one_longer f_next_coder f_words_till_round f_rounds_later f_behind f_refuse_no_place f_word_at f_most_rounds f_steps_till f_steps_till_known f_learnt_by f_pair_at f_letters_known f_letters_by f_longest_by f_number_at f__law_pot f__law_draw f__law_coder f__law_class f__law_no_coder f__law_none_of f__law_said f__law_right f_law : Addr} {od_is_whole an_is_whole od_is_within an_is_within od_refuse_no_count an_refuse_no_count od_is_coder an_is_coder od_refuse_no_coder an_refuse_no_coder od_one_longer an_one_longer od_next_coder an_next_coder od_words_till_round an_words_till_round od_rounds_later an_rounds_later od_behind an_behind od_refuse_no_place an_refuse_no_place od_word_at an_word_at od_most_rounds an_most_rounds od_steps_till an_steps_till od_steps_till_known an_steps_till_known od_learnt_by an_learnt_by od_pair_at an_pair_at od_letters_known an_letters_known od_letters_by an_letters_by od_longest_by an_longest_by od_number_at an_number_at od__law_pot an__law_pot od__law_draw an__law_draw od__law_coder an__law_coder od__law_class an__law_class od__law_no_coder an__law_no_coder od__law_none_of an__law_none_of od__law_said an__law_said od__law_right an__law_right od_law an_law : Option Addr} {sl_is_whole sl_is_within sl_refuse_no_count sl_is_coder sl_refuse_no_coder sl_one_longer sl_next_coder sl_words_till_round sl_rounds_later sl_behind sl_refuse_no_place sl_word_at sl_most_rounds sl_steps_till sl_steps_till_known sl_learnt_by sl_pair_at sl_letters_known sl_letters_by sl_longest_by sl_number_at sl__law_pot sl__law_draw sl__law_coder sl__law_class sl__law_no_coder sl__law_none_of sl__law_said sl__law_right sl_law : Array (Option Value)} {oc_is_whole kV_is_whole dc_is_whole pm_is_whole cd_is_whole ct_is_whole oc_is_within kV_is_within dc_is_within pm_is_within cd_is_within ct_is_within oc_refuse_no_count kV_refuse_no_count dc_refuse_no_count pm_refuse_no_count cd_refuse_no_count ct_refuse_no_count oc_is_coder kV_is_coder dc_is_coder pm_is_coder cd_is_coder ct_is_coder oc_refuse_no_coder kV_refuse_no_coder dc_refuse_no_coder pm_refuse_no_coder cd_refuse_no_coder ct_refuse_no_coder oc_one_longer kV_one_longer dc_one_longer pm_one_longer cd_one_longer ct_one_longer oc_next_coder kV_next_coder dc_next_coder pm_next_coder cd_next_coder ct_next_coder oc_words_till_round kV_words_till_round dc_words_till_round pm_words_till_round cd_words_till_round ct_words_till_round oc_rounds_later kV_rounds_later dc_rounds_later pm_rounds_later cd_rounds_later ct_rounds_later oc_behind kV_behind dc_behind pm_behind cd_behind ct_behind oc_refuse_no_place kV_refuse_no_place dc_refuse_no_place pm_refuse_no_place cd_refuse_no_place ct_refuse_no_place oc_word_at kV_word_at dc_word_at pm_word_at cd_word_at ct_word_at oc_most_rounds kV_most_rounds dc_most_rounds pm_most_rounds cd_most_rounds ct_most_rounds oc_steps_till kV_steps_till dc_steps_till pm_steps_till cd_steps_till ct_steps_till oc_steps_till_known kV_steps_till_known dc_steps_till_known pm_steps_till_known  ct_steps_till_known oc_learnt_by kV_learnt_by dc_learnt_by pm_learnt_by cd_learnt_by ct_learnt_by oc_pair_at kV_pair_at dc_pair_at pm_pair_at cd_pair_at ct_pair_at oc_letters_known kV_letters_known dc_letters_known pm_letters_known cd_letters_known ct_letters_known oc_letters_by kV_letters_by dc_letters_by pm_letters_by cd_letters_by ct_letters_by oc_longest_by kV_longest_by dc_longest_by pm_longest_by cd_longest_by ct_longest_by oc_number_at kV_number_at dc_number_at pm_number_at  ct_number_at oc__law_pot kV__law_pot dc__law_pot pm__law_pot cd__law_pot ct__law_pot oc__law_draw kV__law_draw dc__law_draw pm__law_draw cd__law_draw ct__law_draw oc__law_coder kV__law_coder dc__law_coder pm__law_coder cd__law_coder ct__law_coder oc__law_class kV__law_class dc__law_class pm__law_class cd__law_class ct__law_class oc__law_no_coder kV__law_no_coder dc__law_no_coder pm__law_no_coder cd__law_no_coder ct__law_no_coder oc__law_none_of kV__law_none_of dc__law_none_of pm__law_none_of cd__law_none_of ct__law_none_of oc__law_said kV__law_said dc__law_said pm__law_said cd__law_said ct__law_said oc__law_right kV__law_right dc__law_right pm__law_right cd__law_right ct__law_right oc_law kV_law dc_law pm_law cd_law ct_law : Value}
    {A_LearnError A_NoCoder A_NoCount A_NoCounts A_NoKnown A_NoLog A_NoLoop A_NoPairs A_NoPlace A_NoRow A_NoSign A_NoText A_NoTree A_NoWord A_NotLike A_NotRound A_Nothing : Addr}
    {t_MOST_PLACES t_MOST_STEPS t_MOST_LETTER : Tok}
    {ca_number_at pa_number_at ca_steps_till_known pa_steps_till_known : Addr} {ts : List Addr} (Em : ∀ P ∈ ts, h.get? P = some (PySem.W.tabObj #[]))
    (a_is_whole : PySem.W.nsIn K mainGlobals "is_whole" = some (some (.ref f_is_whole))) (l_is_whole : K.lookup f_is_whole = some ⟨oc_is_whole, od_is_whole, .func (PySem.W.fnOf "is_whole" "is_whole" (defArgs s_is_whole) (defBody s_is_whole) (defScope s_is_whole) .none kV_is_whole dc_is_whole pm_is_whole an_is_whole cd_is_whole ct_is_whole), sl_is_whole⟩) (c_is_whole : PySem.W.codeIn K cd_is_whole "is_whole" = true) (k_is_whole : PySem.W.keepIn K (.ref f_is_whole) = true)
    (a_is_within : PySem.W.nsIn K mainGlobals "is_within" = some (some (.ref f_is_within))) (l_is_within : K.lookup f_is_within = some ⟨oc_is_within, od_is_within, .func (PySem.W.fnOf "is_within" "is_within" (defArgs s_is_within) (defBody s_is_within) (defScope s_is_within) .none kV_is_within dc_is_within pm_is_within an_is_within cd_is_within ct_is_within), sl_is_within⟩) (c_is_within : PySem.W.codeIn K cd_is_within "is_within" = true) (k_is_within : PySem.W.keepIn K (.ref f_is_within) = true)
    (a_refuse_no_count : PySem.W.nsIn K mainGlobals "refuse_no_count" = some (some (.ref f_refuse_no_count))) (l_refuse_no_count : K.lookup f_refuse_no_count = some ⟨oc_refuse_no_count, od_refuse_no_count, .func (PySem.W.fnOf "refuse_no_count" "refuse_no_count" (defArgs s_refuse_no_count) (defBody s_refuse_no_count) (defScope s_refuse_no_count) .none kV_refuse_no_count dc_refuse_no_count pm_refuse_no_count an_refuse_no_count cd_refuse_no_count ct_refuse_no_count), sl_refuse_no_count⟩) (c_refuse_no_count : PySem.W.codeIn K cd_refuse_no_count "refuse_no_count" = true) (k_refuse_no_count : PySem.W.keepIn K (.ref f_refuse_no_count) = true)
    (a_is_coder : PySem.W.nsIn K mainGlobals "is_coder" = some (some (.ref f_is_coder))) (l_is_coder : K.lookup f_is_coder = some ⟨oc_is_coder, od_is_coder, .func (PySem.W.fnOf "is_coder" "is_coder" (defArgs s_is_coder) (defBody s_is_coder) (defScope s_is_coder) .none kV_is_coder dc_is_coder pm_is_coder an_is_coder cd_is_coder ct_is_coder), sl_is_coder⟩) (c_is_coder : PySem.W.codeIn K cd_is_coder "is_coder" = true) (k_is_coder : PySem.W.keepIn K (.ref f_is_coder) = true)
    (a_refuse_no_coder : PySem.W.nsIn K mainGlobals "refuse_no_coder" = some (some (.ref f_refuse_no_coder))) (l_refuse_no_coder : K.lookup f_refuse_no_coder = some ⟨oc_refuse_no_coder, od_refuse_no_coder, .func (PySem.W.fnOf "refuse_no_coder" "refuse_no_coder" (defArgs s_refuse_no_coder) (defBody s_refuse_no_coder) (defScope s_refuse_no_coder) .none kV_refuse_no_coder dc_refuse_no_coder pm_refuse_no_coder an_refuse_no_coder cd_refuse_no_coder ct_refuse_no_coder), sl_refuse_no_coder⟩) (c_refuse_no_coder : PySem.W.codeIn K cd_refuse_no_coder "refuse_no_coder" = true) (k_refuse_no_coder : PySem.W.keepIn K (.ref f_refuse_no_coder) = true)
    (a_one_longer : PySem.W.nsIn K mainGlobals "one_longer" = some (some (.ref f_one_longer))) (l_one_longer : K.lookup f_one_longer = some ⟨oc_one_longer, od_one_longer, .func (PySem.W.fnOf "one_longer" "one_longer" (defArgs s_one_longer) (defBody s_one_longer) (defScope s_one_longer) .none kV_one_longer dc_one_longer pm_one_longer an_one_longer cd_one_longer ct_one_longer), sl_one_longer⟩) (c_one_longer : PySem.W.codeIn K cd_one_longer "one_longer" = true) (k_one_longer : PySem.W.keepIn K (.ref f_one_longer) = true)
    (a_next_coder : PySem.W.nsIn K mainGlobals "next_coder" = some (some (.ref f_next_coder))) (l_next_coder : K.lookup f_next_coder = some ⟨oc_next_coder, od_next_coder, .func (PySem.W.fnOf "next_coder" "next_coder" (defArgs s_next_coder) (defBody s_next_coder) (defScope s_next_coder) .none kV_next_coder dc_next_coder pm_next_coder an_next_coder cd_next_coder ct_next_coder), sl_next_coder⟩) (c_next_coder : PySem.W.codeIn K cd_next_coder "next_coder" = true) (k_next_coder : PySem.W.keepIn K (.ref f_next_coder) = true)
    (a_words_till_round : PySem.W.nsIn K mainGlobals "words_till_round" = some (some (.ref f_words_till_round))) (l_words_till_round : K.lookup f_words_till_round = some ⟨oc_words_till_round, od_words_till_round, .func (PySem.W.fnOf "words_till_round" "words_till_round" (defArgs s_words_till_round) (defBody s_words_till_round) (defScope s_words_till_round) .none kV_words_till_round dc_words_till_round pm_words_till_round an_words_till_round cd_words_till_round ct_words_till_round), sl_words_till_round⟩) (c_words_till_round : PySem.W.codeIn K cd_words_till_round "words_till_round" = true) (k_words_till_round : PySem.W.keepIn K (.ref f_words_till_round) = true)
    (a_rounds_later : PySem.W.nsIn K mainGlobals "rounds_later" = some (some (.ref f_rounds_later))) (l_rounds_later : K.lookup f_rounds_later = some ⟨oc_rounds_later, od_rounds_later, .func (PySem.W.fnOf "rounds_later" "rounds_later" (defArgs s_rounds_later) (defBody s_rounds_later) (defScope s_rounds_later) .none kV_rounds_later dc_rounds_later pm_rounds_later an_rounds_later cd_rounds_later ct_rounds_later), sl_rounds_later⟩) (c_rounds_later : PySem.W.codeIn K cd_rounds_later "rounds_later" = true) (k_rounds_later : PySem.W.keepIn K (.ref f_rounds_later) = true)
    (a_behind : PySem.W.nsIn K mainGlobals "behind" = some (some (.ref f_behind))) (l_behind : K.lookup f_behind = some ⟨oc_behind, od_behind, .func (PySem.W.fnOf "behind" "behind" (defArgs s_behind) (defBody s_behind) (defScope s_behind) .none kV_behind dc_behind pm_behind an_behind cd_behind ct_behind), sl_behind⟩) (c_behind : PySem.W.codeIn K cd_behind "behind" = true) (k_behind : PySem.W.keepIn K (.ref f_behind) = true)
    (a_refuse_no_place : PySem.W.nsIn K mainGlobals "refuse_no_place" = some (some (.ref f_refuse_no_place))) (l_refuse_no_place : K.lookup f_refuse_no_place = some ⟨oc_refuse_no_place, od_refuse_no_place, .func (PySem.W.fnOf "refuse_no_place" "refuse_no_place" (defArgs s_refuse_no_place) (defBody s_refuse_no_place) (defScope s_refuse_no_place) .none kV_refuse_no_place dc_refuse_no_place pm_refuse_no_place an_refuse_no_place cd_refuse_no_place ct_refuse_no_place), sl_refuse_no_place⟩) (c_refuse_no_place : PySem.W.codeIn K cd_refuse_no_place "refuse_no_place" = true) (k_refuse_no_place : PySem.W.keepIn K (.ref f_refuse_no_place) = true)
    (a_word_at : PySem.W.nsIn K mainGlobals "word_at" = some (some (.ref f_word_at))) (l_word_at : K.lookup f_word_at = some ⟨oc_word_at, od_word_at, .func (PySem.W.fnOf "word_at" "word_at" (defArgs s_word_at) (defBody s_word_at) (defScope s_word_at) .none kV_word_at dc_word_at pm_word_at an_word_at cd_word_at ct_word_at), sl_word_at⟩) (c_word_at : PySem.W.codeIn K cd_word_at "word_at" = true) (k_word_at : PySem.W.keepIn K (.ref f_word_at) = true)
    (a_most_rounds : PySem.W.nsIn K mainGlobals "most_rounds" = some (some (.ref f_most_rounds))) (l_most_rounds : K.lookup f_most_rounds = some ⟨oc_most_rounds, od_most_rounds, .func (PySem.W.fnOf "most_rounds" "most_rounds" (defArgs s_most_rounds) (defBody s_most_rounds) (defScope s_most_rounds) .none kV_most_rounds dc_most_rounds pm_most_rounds an_most_rounds cd_most_rounds ct_most_rounds), sl_most_rounds⟩) (c_most_rounds : PySem.W.codeIn K cd_most_rounds "most_rounds" = true) (k_most_rounds : PySem.W.keepIn K (.ref f_most_rounds) = true)
    (a_steps_till : PySem.W.nsIn K mainGlobals "steps_till" = some (some (.ref f_steps_till))) (l_steps_till : K.lookup f_steps_till = some ⟨oc_steps_till, od_steps_till, .func (PySem.W.fnOf "steps_till" "steps_till" (defArgs s_steps_till) (defBody s_steps_till) (defScope s_steps_till) .none kV_steps_till dc_steps_till pm_steps_till an_steps_till cd_steps_till ct_steps_till), sl_steps_till⟩) (c_steps_till : PySem.W.codeIn K cd_steps_till "steps_till" = true) (k_steps_till : PySem.W.keepIn K (.ref f_steps_till) = true)
    (a_steps_till_known : PySem.W.nsIn K mainGlobals "steps_till_known" = some (some (.ref f_steps_till_known))) (l_steps_till_known : K.lookup f_steps_till_known = some ⟨oc_steps_till_known, od_steps_till_known, .func (PySem.W.fnOf "steps_till_known" "steps_till_known" (defArgs s_steps_till_known) (defBody s_steps_till_known) (defScope s_steps_till_known) .none kV_steps_till_known dc_steps_till_known pm_steps_till_known an_steps_till_known (.ref ca_steps_till_known) ct_steps_till_known), sl_steps_till_known⟩) (c_steps_till_known : PySem.W.codeIn K (.ref ca_steps_till_known) "steps_till_known" = true) (k_steps_till_known : PySem.W.keepIn K (.ref f_steps_till_known) = true)
    (a_learnt_by : PySem.W.nsIn K mainGlobals "learnt_by" = some (some (.ref f_learnt_by))) (l_learnt_by : K.lookup f_learnt_by = some ⟨oc_learnt_by, od_learnt_by, .func (PySem.W.fnOf "learnt_by" "learnt_by" (defArgs s_learnt_by) (defBody s_learnt_by) (defScope s_learnt_by) .none kV_learnt_by dc_learnt_by pm_learnt_by an_learnt_by cd_learnt_by ct_learnt_by), sl_learnt_by⟩) (c_learnt_by : PySem.W.codeIn K cd_learnt_by "learnt_by" = true) (k_learnt_by : PySem.W.keepIn K (.ref f_learnt_by) = true)
    (a_pair_at : PySem.W.nsIn K mainGlobals "pair_at" = some (some (.ref f_pair_at))) (l_pair_at : K.lookup f_pair_at = some ⟨oc_pair_at, od_pair_at, .func (PySem.W.fnOf "pair_at" "pair_at" (defArgs s_pair_at) (defBody s_pair_at) (defScope s_pair_at) .none kV_pair_at dc_pair_at pm_pair_at an_pair_at cd_pair_at ct_pair_at), sl_pair_at⟩) (c_pair_at : PySem.W.codeIn K cd_pair_at "pair_at" = true) (k_pair_at : PySem.W.keepIn K (.ref f_pair_at) = true)
    (a_letters_known : PySem.W.nsIn K mainGlobals "letters_known" = some (some (.ref f_letters_known))) (l_letters_known : K.lookup f_letters_known = some ⟨oc_letters_known, od_letters_known, .func (PySem.W.fnOf "letters_known" "letters_known" (defArgs s_letters_known) (defBody s_letters_known) (defScope s_letters_known) .none kV_letters_known dc_letters_known pm_letters_known an_letters_known cd_letters_known ct_letters_known), sl_letters_known⟩) (c_letters_known : PySem.W.codeIn K cd_letters_known "letters_known" = true) (k_letters_known : PySem.W.keepIn K (.ref f_letters_known) = true)
    (a_letters_by : PySem.W.nsIn K mainGlobals "letters_by" = some (some (.ref f_letters_by))) (l_letters_by : K.lookup f_letters_by = some ⟨oc_letters_by, od_letters_by, .func (PySem.W.fnOf "letters_by" "letters_by" (defArgs s_letters_by) (defBody s_letters_by) (defScope s_letters_by) .none kV_letters_by dc_letters_by pm_letters_by an_letters_by cd_letters_by ct_letters_by), sl_letters_by⟩) (c_letters_by : PySem.W.codeIn K cd_letters_by "letters_by" = true) (k_letters_by : PySem.W.keepIn K (.ref f_letters_by) = true)
    (a_longest_by : PySem.W.nsIn K mainGlobals "longest_by" = some (some (.ref f_longest_by))) (l_longest_by : K.lookup f_longest_by = some ⟨oc_longest_by, od_longest_by, .func (PySem.W.fnOf "longest_by" "longest_by" (defArgs s_longest_by) (defBody s_longest_by) (defScope s_longest_by) .none kV_longest_by dc_longest_by pm_longest_by an_longest_by cd_longest_by ct_longest_by), sl_longest_by⟩) (c_longest_by : PySem.W.codeIn K cd_longest_by "longest_by" = true) (k_longest_by : PySem.W.keepIn K (.ref f_longest_by) = true)
    (a_number_at : PySem.W.nsIn K mainGlobals "number_at" = some (some (.ref f_number_at))) (l_number_at : K.lookup f_number_at = some ⟨oc_number_at, od_number_at, .func (PySem.W.fnOf "number_at" "number_at" (defArgs s_number_at) (defBody s_number_at) (defScope s_number_at) .none kV_number_at dc_number_at pm_number_at an_number_at (.ref ca_number_at) ct_number_at), sl_number_at⟩) (c_number_at : PySem.W.codeIn K (.ref ca_number_at) "number_at" = true) (k_number_at : PySem.W.keepIn K (.ref f_number_at) = true)
    (a__law_pot : PySem.W.nsIn K mainGlobals "_law_pot" = some (some (.ref f__law_pot))) (l__law_pot : K.lookup f__law_pot = some ⟨oc__law_pot, od__law_pot, .func (PySem.W.fnOf "_law_pot" "_law_pot" (defArgs s_law_pot) (defBody s_law_pot) (defScope s_law_pot) .none kV__law_pot dc__law_pot pm__law_pot an__law_pot cd__law_pot ct__law_pot), sl__law_pot⟩) (c__law_pot : PySem.W.codeIn K cd__law_pot "_law_pot" = true) (k__law_pot : PySem.W.keepIn K (.ref f__law_pot) = true)
    (a__law_draw : PySem.W.nsIn K mainGlobals "_law_draw" = some (some (.ref f__law_draw))) (l__law_draw : K.lookup f__law_draw = some ⟨oc__law_draw, od__law_draw, .func (PySem.W.fnOf "_law_draw" "_law_draw" (defArgs s_law_draw) (defBody s_law_draw) (defScope s_law_draw) .none kV__law_draw dc__law_draw pm__law_draw an__law_draw cd__law_draw ct__law_draw), sl__law_draw⟩) (c__law_draw : PySem.W.codeIn K cd__law_draw "_law_draw" = true) (k__law_draw : PySem.W.keepIn K (.ref f__law_draw) = true)
    (a__law_coder : PySem.W.nsIn K mainGlobals "_law_coder" = some (some (.ref f__law_coder))) (l__law_coder : K.lookup f__law_coder = some ⟨oc__law_coder, od__law_coder, .func (PySem.W.fnOf "_law_coder" "_law_coder" (defArgs s_law_coder) (defBody s_law_coder) (defScope s_law_coder) .none kV__law_coder dc__law_coder pm__law_coder an__law_coder cd__law_coder ct__law_coder), sl__law_coder⟩) (c__law_coder : PySem.W.codeIn K cd__law_coder "_law_coder" = true) (k__law_coder : PySem.W.keepIn K (.ref f__law_coder) = true)
    (a__law_class : PySem.W.nsIn K mainGlobals "_law_class" = some (some (.ref f__law_class))) (l__law_class : K.lookup f__law_class = some ⟨oc__law_class, od__law_class, .func (PySem.W.fnOf "_law_class" "_law_class" (defArgs s_law_class) (defBody s_law_class) (defScope s_law_class) .none kV__law_class dc__law_class pm__law_class an__law_class cd__law_class ct__law_class), sl__law_class⟩) (c__law_class : PySem.W.codeIn K cd__law_class "_law_class" = true) (k__law_class : PySem.W.keepIn K (.ref f__law_class) = true)
    (a__law_no_coder : PySem.W.nsIn K mainGlobals "_law_no_coder" = some (some (.ref f__law_no_coder))) (l__law_no_coder : K.lookup f__law_no_coder = some ⟨oc__law_no_coder, od__law_no_coder, .func (PySem.W.fnOf "_law_no_coder" "_law_no_coder" (defArgs s_law_no_coder) (defBody s_law_no_coder) (defScope s_law_no_coder) .none kV__law_no_coder dc__law_no_coder pm__law_no_coder an__law_no_coder cd__law_no_coder ct__law_no_coder), sl__law_no_coder⟩) (c__law_no_coder : PySem.W.codeIn K cd__law_no_coder "_law_no_coder" = true) (k__law_no_coder : PySem.W.keepIn K (.ref f__law_no_coder) = true)
    (a__law_none_of : PySem.W.nsIn K mainGlobals "_law_none_of" = some (some (.ref f__law_none_of))) (l__law_none_of : K.lookup f__law_none_of = some ⟨oc__law_none_of, od__law_none_of, .func (PySem.W.fnOf "_law_none_of" "_law_none_of" (defArgs s_law_none_of) (defBody s_law_none_of) (defScope s_law_none_of) .none kV__law_none_of dc__law_none_of pm__law_none_of an__law_none_of cd__law_none_of ct__law_none_of), sl__law_none_of⟩) (c__law_none_of : PySem.W.codeIn K cd__law_none_of "_law_none_of" = true) (k__law_none_of : PySem.W.keepIn K (.ref f__law_none_of) = true)
    (a__law_said : PySem.W.nsIn K mainGlobals "_law_said" = some (some (.ref f__law_said))) (l__law_said : K.lookup f__law_said = some ⟨oc__law_said, od__law_said, .func (PySem.W.fnOf "_law_said" "_law_said" (defArgs s_law_said) (defBody s_law_said) (defScope s_law_said) .none kV__law_said dc__law_said pm__law_said an__law_said cd__law_said ct__law_said), sl__law_said⟩) (c__law_said : PySem.W.codeIn K cd__law_said "_law_said" = true) (k__law_said : PySem.W.keepIn K (.ref f__law_said) = true)
    (a__law_right : PySem.W.nsIn K mainGlobals "_law_right" = some (some (.ref f__law_right))) (l__law_right : K.lookup f__law_right = some ⟨oc__law_right, od__law_right, .func (PySem.W.fnOf "_law_right" "_law_right" (defArgs s_law_right) (defBody s_law_right) (defScope s_law_right) .none kV__law_right dc__law_right pm__law_right an__law_right cd__law_right ct__law_right), sl__law_right⟩) (c__law_right : PySem.W.codeIn K cd__law_right "_law_right" = true) (k__law_right : PySem.W.keepIn K (.ref f__law_right) = true)
    (a_law : PySem.W.nsIn K mainGlobals "law" = some (some (.ref f_law))) (l_law : K.lookup f_law = some ⟨oc_law, od_law, .func (PySem.W.fnOf "law" "law" (defArgs s_law) (defBody s_law) (defScope s_law) .none kV_law dc_law pm_law an_law cd_law ct_law), sl_law⟩) (c_law : PySem.W.codeIn K cd_law "law" = true) (k_law : PySem.W.keepIn K (.ref f_law) = true)
    (z_isinstance : PySem.W.nsIn K mainGlobals "isinstance" = some none)
    (z_int : PySem.W.nsIn K mainGlobals "int" = some none)
    (z_bool : PySem.W.nsIn K mainGlobals "bool" = some none)
    (z_tuple : PySem.W.nsIn K mainGlobals "tuple" = some none)
    (z_len : PySem.W.nsIn K mainGlobals "len" = some none)
    (z_all : PySem.W.nsIn K mainGlobals "all" = some none)
    (z_range : PySem.W.nsIn K mainGlobals "range" = some none)
    (z_max : PySem.W.nsIn K mainGlobals "max" = some none)
    (z_sum : PySem.W.nsIn K mainGlobals "sum" = some none)
    (z_repr : PySem.W.nsIn K mainGlobals "repr" = some none)
    (z_min : PySem.W.nsIn K mainGlobals "min" = some none)
    (z_ValueError : PySem.W.nsIn K mainGlobals "ValueError" = some none)
    (m_MOST_PLACES : PySem.W.nsIn K mainGlobals "MOST_PLACES" = some (some (.int 12 t_MOST_PLACES)))
    (m_MOST_STEPS : PySem.W.nsIn K mainGlobals "MOST_STEPS" = some (some (.int 1000000000000000000 t_MOST_STEPS)))
    (m_MOST_LETTER : PySem.W.nsIn K mainGlobals "MOST_LETTER" = some (some (.int 1000000000000000000000000000000000000 t_MOST_LETTER)))
    (gC_LearnError : PySem.W.nsIn K mainGlobals "LearnError" = some (some (.ref A_LearnError)))
    (gC_NoCoder : PySem.W.nsIn K mainGlobals "NoCoder" = some (some (.ref A_NoCoder)))
    (gC_NoCount : PySem.W.nsIn K mainGlobals "NoCount" = some (some (.ref A_NoCount)))
    (gC_NoCounts : PySem.W.nsIn K mainGlobals "NoCounts" = some (some (.ref A_NoCounts)))
    (gC_NoKnown : PySem.W.nsIn K mainGlobals "NoKnown" = some (some (.ref A_NoKnown)))
    (gC_NoLog : PySem.W.nsIn K mainGlobals "NoLog" = some (some (.ref A_NoLog)))
    (gC_NoLoop : PySem.W.nsIn K mainGlobals "NoLoop" = some (some (.ref A_NoLoop)))
    (gC_NoPairs : PySem.W.nsIn K mainGlobals "NoPairs" = some (some (.ref A_NoPairs)))
    (gC_NoPlace : PySem.W.nsIn K mainGlobals "NoPlace" = some (some (.ref A_NoPlace)))
    (gC_NoRow : PySem.W.nsIn K mainGlobals "NoRow" = some (some (.ref A_NoRow)))
    (gC_NoSign : PySem.W.nsIn K mainGlobals "NoSign" = some (some (.ref A_NoSign)))
    (gC_NoText : PySem.W.nsIn K mainGlobals "NoText" = some (some (.ref A_NoText)))
    (gC_NoTree : PySem.W.nsIn K mainGlobals "NoTree" = some (some (.ref A_NoTree)))
    (gC_NoWord : PySem.W.nsIn K mainGlobals "NoWord" = some (some (.ref A_NoWord)))
    (gC_NotLike : PySem.W.nsIn K mainGlobals "NotLike" = some (some (.ref A_NotLike)))
    (gC_NotRound : PySem.W.nsIn K mainGlobals "NotRound" = some (some (.ref A_NotRound)))
    (gC_Nothing : PySem.W.nsIn K mainGlobals "Nothing" = some (some (.ref A_Nothing)))
    (kC_NoCoder : PySem.W.keepIn K (.ref A_NoCoder) = true) (xC_NoCoder : PySem.W.excIn K A_NoCoder [.type "ValueError", .type "Exception", .type "BaseException", .type "object"] "ValueError.__new__" = true)
    (kC_NoCount : PySem.W.keepIn K (.ref A_NoCount) = true) (xC_NoCount : PySem.W.excIn K A_NoCount [.type "ValueError", .type "Exception", .type "BaseException", .type "object"] "ValueError.__new__" = true)
    (kC_NoPlace : PySem.W.keepIn K (.ref A_NoPlace) = true) (xC_NoPlace : PySem.W.excIn K A_NoPlace [.type "ValueError", .type "Exception", .type "BaseException", .type "object"] "ValueError.__new__" = true)
    (bC_NoCoder : PySem.W.subIn K (.ref A_NoCoder) (.type "BaseException") = some true) (tC_NoCoder : PySem.W.typeIn K (.ref A_NoCoder) = some (.type "type"))
    (bC_NoCount : PySem.W.subIn K (.ref A_NoCount) (.type "BaseException") = some true) (tC_NoCount : PySem.W.typeIn K (.ref A_NoCount) = some (.type "type"))
    (bC_NoPlace : PySem.W.subIn K (.ref A_NoPlace) (.type "BaseException") = some true) (tC_NoPlace : PySem.W.typeIn K (.ref A_NoPlace) = some (.type "type"))
    (bE : PySem.W.subIn K (.ref A_LearnError) (.type "BaseException") = some true) (dE : PySem.W.hasDictIn K A_LearnError = true) (tE : PySem.W.typeIn K (.ref A_LearnError) = some (.type "type"))
    (p_NoKnown : PySem.W.isClsIn K A_NoKnown = true) (q_NoKnown : PySem.W.typeIn K (.ref A_NoKnown) = some (.type "type"))
    (p_NoText : PySem.W.isClsIn K A_NoText = true) (q_NoText : PySem.W.typeIn K (.ref A_NoText) = some (.type "type"))
    (p_NoPairs : PySem.W.isClsIn K A_NoPairs = true) (q_NoPairs : PySem.W.typeIn K (.ref A_NoPairs) = some (.type "type"))
    (p_NoLoop : PySem.W.isClsIn K A_NoLoop = true) (q_NoLoop : PySem.W.typeIn K (.ref A_NoLoop) = some (.type "type"))
    (p_NoCoder : PySem.W.isClsIn K A_NoCoder = true) (q_NoCoder : PySem.W.typeIn K (.ref A_NoCoder) = some (.type "type"))
    (p_NoCount : PySem.W.isClsIn K A_NoCount = true) (q_NoCount : PySem.W.typeIn K (.ref A_NoCount) = some (.type "type"))
    (p_NotRound : PySem.W.isClsIn K A_NotRound = true) (q_NotRound : PySem.W.typeIn K (.ref A_NotRound) = some (.type "type"))
    (p_NoCounts : PySem.W.isClsIn K A_NoCounts = true) (q_NoCounts : PySem.W.typeIn K (.ref A_NoCounts) = some (.type "type"))
    (p_NoLog : PySem.W.isClsIn K A_NoLog = true) (q_NoLog : PySem.W.typeIn K (.ref A_NoLog) = some (.type "type"))
    (p_NoPlace : PySem.W.isClsIn K A_NoPlace = true) (q_NoPlace : PySem.W.typeIn K (.ref A_NoPlace) = some (.type "type"))
    (p_NoRow : PySem.W.isClsIn K A_NoRow = true) (q_NoRow : PySem.W.typeIn K (.ref A_NoRow) = some (.type "type"))
    (p_NoSign : PySem.W.isClsIn K A_NoSign = true) (q_NoSign : PySem.W.typeIn K (.ref A_NoSign) = some (.type "type"))
    (p_NoTree : PySem.W.isClsIn K A_NoTree = true) (q_NoTree : PySem.W.typeIn K (.ref A_NoTree) = some (.type "type"))
    (p_NoWord : PySem.W.isClsIn K A_NoWord = true) (q_NoWord : PySem.W.typeIn K (.ref A_NoWord) = some (.type "type"))
    (p_NotLike : PySem.W.isClsIn K A_NotLike = true) (q_NotLike : PySem.W.typeIn K (.ref A_NotLike) = some (.type "type"))
    (p_Nothing : PySem.W.isClsIn K A_Nothing = true) (q_Nothing : PySem.W.typeIn K (.ref A_Nothing) = some (.type "type"))
    (sE_NoCoder : PySem.W.subIn K (.ref A_NoCoder) (.ref A_LearnError) = some true)
    (xg_NoCoder : PySem.W.findIn K (.ref A_NoCoder) "__getattribute__" = some (some (.builtin "BaseException.__getattribute__"))) (xk_NoCoder : PySem.W.findIn K (.ref A_NoCoder) "__getattr__" = some none) (xd_NoCoder : PySem.W.hasDictIn K A_NoCoder = true) (xa_NoCoder : PySem.W.findIn K (.ref A_NoCoder) "__class__" = some (some (.builtin "object.__class__")))
    (xm_NoCoder : PySem.W.mroIn K A_NoCoder (.type "object") = some true) (ve_NoCoder : PySem.W.subIn K (.ref A_NoCoder) (.type "ValueError") = some true) (sS_NoCoder : PySem.W.subIn K (.ref A_NoCoder) (.ref A_NoCoder) = some true)
    (r_NoCoder_NoKnown : PySem.W.subIn K (.ref A_NoCoder) (.ref A_NoKnown) = some false)
    (r_NoCoder_NoText : PySem.W.subIn K (.ref A_NoCoder) (.ref A_NoText) = some false)
    (r_NoCoder_NoPairs : PySem.W.subIn K (.ref A_NoCoder) (.ref A_NoPairs) = some false)
    (r_NoCoder_NoLoop : PySem.W.subIn K (.ref A_NoCoder) (.ref A_NoLoop) = some false)
    (r_NoCoder_NoCount : PySem.W.subIn K (.ref A_NoCoder) (.ref A_NoCount) = some false)
    (r_NoCoder_NotRound : PySem.W.subIn K (.ref A_NoCoder) (.ref A_NotRound) = some false)
    (r_NoCoder_NoCounts : PySem.W.subIn K (.ref A_NoCoder) (.ref A_NoCounts) = some false)
    (r_NoCoder_NoLog : PySem.W.subIn K (.ref A_NoCoder) (.ref A_NoLog) = some false)
    (r_NoCoder_NoPlace : PySem.W.subIn K (.ref A_NoCoder) (.ref A_NoPlace) = some false)
    (r_NoCoder_NoRow : PySem.W.subIn K (.ref A_NoCoder) (.ref A_NoRow) = some false)
    (r_NoCoder_NoSign : PySem.W.subIn K (.ref A_NoCoder) (.ref A_NoSign) = some false)
    (r_NoCoder_NoTree : PySem.W.subIn K (.ref A_NoCoder) (.ref A_NoTree) = some false)
    (r_NoCoder_NoWord : PySem.W.subIn K (.ref A_NoCoder) (.ref A_NoWord) = some false)
    (r_NoCoder_NotLike : PySem.W.subIn K (.ref A_NoCoder) (.ref A_NotLike) = some false)
    (r_NoCoder_Nothing : PySem.W.subIn K (.ref A_NoCoder) (.ref A_Nothing) = some false)
    (sE_NoCount : PySem.W.subIn K (.ref A_NoCount) (.ref A_LearnError) = some true)
    (xg_NoCount : PySem.W.findIn K (.ref A_NoCount) "__getattribute__" = some (some (.builtin "BaseException.__getattribute__"))) (xk_NoCount : PySem.W.findIn K (.ref A_NoCount) "__getattr__" = some none) (xd_NoCount : PySem.W.hasDictIn K A_NoCount = true) (xa_NoCount : PySem.W.findIn K (.ref A_NoCount) "__class__" = some (some (.builtin "object.__class__")))
    (xm_NoCount : PySem.W.mroIn K A_NoCount (.type "object") = some true) (ve_NoCount : PySem.W.subIn K (.ref A_NoCount) (.type "ValueError") = some true) (sS_NoCount : PySem.W.subIn K (.ref A_NoCount) (.ref A_NoCount) = some true)
    (r_NoCount_NoKnown : PySem.W.subIn K (.ref A_NoCount) (.ref A_NoKnown) = some false)
    (r_NoCount_NoText : PySem.W.subIn K (.ref A_NoCount) (.ref A_NoText) = some false)
    (r_NoCount_NoPairs : PySem.W.subIn K (.ref A_NoCount) (.ref A_NoPairs) = some false)
    (r_NoCount_NoLoop : PySem.W.subIn K (.ref A_NoCount) (.ref A_NoLoop) = some false)
    (r_NoCount_NoCoder : PySem.W.subIn K (.ref A_NoCount) (.ref A_NoCoder) = some false)
    (r_NoCount_NotRound : PySem.W.subIn K (.ref A_NoCount) (.ref A_NotRound) = some false)
    (r_NoCount_NoCounts : PySem.W.subIn K (.ref A_NoCount) (.ref A_NoCounts) = some false)
    (r_NoCount_NoLog : PySem.W.subIn K (.ref A_NoCount) (.ref A_NoLog) = some false)
    (r_NoCount_NoPlace : PySem.W.subIn K (.ref A_NoCount) (.ref A_NoPlace) = some false)
    (r_NoCount_NoRow : PySem.W.subIn K (.ref A_NoCount) (.ref A_NoRow) = some false)
    (r_NoCount_NoSign : PySem.W.subIn K (.ref A_NoCount) (.ref A_NoSign) = some false)
    (r_NoCount_NoTree : PySem.W.subIn K (.ref A_NoCount) (.ref A_NoTree) = some false)
    (r_NoCount_NoWord : PySem.W.subIn K (.ref A_NoCount) (.ref A_NoWord) = some false)
    (r_NoCount_NotLike : PySem.W.subIn K (.ref A_NoCount) (.ref A_NotLike) = some false)
    (r_NoCount_Nothing : PySem.W.subIn K (.ref A_NoCount) (.ref A_Nothing) = some false)
    (sE_NoPlace : PySem.W.subIn K (.ref A_NoPlace) (.ref A_LearnError) = some true)
    (xg_NoPlace : PySem.W.findIn K (.ref A_NoPlace) "__getattribute__" = some (some (.builtin "BaseException.__getattribute__"))) (xk_NoPlace : PySem.W.findIn K (.ref A_NoPlace) "__getattr__" = some none) (xd_NoPlace : PySem.W.hasDictIn K A_NoPlace = true) (xa_NoPlace : PySem.W.findIn K (.ref A_NoPlace) "__class__" = some (some (.builtin "object.__class__")))
    (xm_NoPlace : PySem.W.mroIn K A_NoPlace (.type "object") = some true) (ve_NoPlace : PySem.W.subIn K (.ref A_NoPlace) (.type "ValueError") = some true) (sS_NoPlace : PySem.W.subIn K (.ref A_NoPlace) (.ref A_NoPlace) = some true)
    (r_NoPlace_NoKnown : PySem.W.subIn K (.ref A_NoPlace) (.ref A_NoKnown) = some false)
    (r_NoPlace_NoText : PySem.W.subIn K (.ref A_NoPlace) (.ref A_NoText) = some false)
    (r_NoPlace_NoPairs : PySem.W.subIn K (.ref A_NoPlace) (.ref A_NoPairs) = some false)
    (r_NoPlace_NoLoop : PySem.W.subIn K (.ref A_NoPlace) (.ref A_NoLoop) = some false)
    (r_NoPlace_NoCoder : PySem.W.subIn K (.ref A_NoPlace) (.ref A_NoCoder) = some false)
    (r_NoPlace_NoCount : PySem.W.subIn K (.ref A_NoPlace) (.ref A_NoCount) = some false)
    (r_NoPlace_NotRound : PySem.W.subIn K (.ref A_NoPlace) (.ref A_NotRound) = some false)
    (r_NoPlace_NoCounts : PySem.W.subIn K (.ref A_NoPlace) (.ref A_NoCounts) = some false)
    (r_NoPlace_NoLog : PySem.W.subIn K (.ref A_NoPlace) (.ref A_NoLog) = some false)
    (r_NoPlace_NoRow : PySem.W.subIn K (.ref A_NoPlace) (.ref A_NoRow) = some false)
    (r_NoPlace_NoSign : PySem.W.subIn K (.ref A_NoPlace) (.ref A_NoSign) = some false)
    (r_NoPlace_NoTree : PySem.W.subIn K (.ref A_NoPlace) (.ref A_NoTree) = some false)
    (r_NoPlace_NoWord : PySem.W.subIn K (.ref A_NoPlace) (.ref A_NoWord) = some false)
    (r_NoPlace_NotLike : PySem.W.subIn K (.ref A_NoPlace) (.ref A_NotLike) = some false)
    (r_NoPlace_Nothing : PySem.W.subIn K (.ref A_NoPlace) (.ref A_Nothing) = some false)
    (xn : PySem.W.specialIn K (.builtin "object.__class__") "__get__" = some (some (.builtin "getset_descriptor.__get__"))) (xt : PySem.W.takesIn K (.builtin "object.__class__") = some true)
    (rc_number_at : pa_number_at ∈ ts) (hd_number_at : PySem.W.codeHdIn K ca_number_at pa_number_at = true) (np_number_at : K.lookup pa_number_at = none)
    (rc_steps_till_known : pa_steps_till_known ∈ ts) (hd_steps_till_known : PySem.W.codeHdIn K ca_steps_till_known pa_steps_till_known = true) (np_steps_till_known : K.lookup pa_steps_till_known = none)
    (ne_number_at_steps_till_known : pa_number_at ≠ pa_steps_till_known)
    : LawAtG l w K 12 63 "script" mg fa h := by
  have e := hfa.symm.trans (PySem.W.mg_of X G a_law)
  cases e
  have F_is_whole := fun_mk (st := s_is_whole) l_is_whole c_is_whole k_is_whole
  have F_is_within := fun_mk (st := s_is_within) l_is_within c_is_within k_is_within
  have F_refuse_no_count := fun_mk (st := s_refuse_no_count) l_refuse_no_count c_refuse_no_count k_refuse_no_count
  have F_is_coder := fun_mk (st := s_is_coder) l_is_coder c_is_coder k_is_coder
  have F_refuse_no_coder := fun_mk (st := s_refuse_no_coder) l_refuse_no_coder c_refuse_no_coder k_refuse_no_coder
  have F_one_longer := fun_mk (st := s_one_longer) l_one_longer c_one_longer k_one_longer
  have F_next_coder := fun_mk (st := s_next_coder) l_next_coder c_next_coder k_next_coder
  have F_words_till_round := fun_mk (st := s_words_till_round) l_words_till_round c_words_till_round k_words_till_round
  have F_rounds_later := fun_mk (st := s_rounds_later) l_rounds_later c_rounds_later k_rounds_later
  have F_behind := fun_mk (st := s_behind) l_behind c_behind k_behind
  have F_refuse_no_place := fun_mk (st := s_refuse_no_place) l_refuse_no_place c_refuse_no_place k_refuse_no_place
  have F_word_at := fun_mk (st := s_word_at) l_word_at c_word_at k_word_at
  have F_most_rounds := fun_mk (st := s_most_rounds) l_most_rounds c_most_rounds k_most_rounds
  have F_steps_till := fun_mk (st := s_steps_till) l_steps_till c_steps_till k_steps_till
  have F_steps_till_known := fun_mk (st := s_steps_till_known) l_steps_till_known c_steps_till_known k_steps_till_known
  have F_learnt_by := fun_mk (st := s_learnt_by) l_learnt_by c_learnt_by k_learnt_by
  have F_pair_at := fun_mk (st := s_pair_at) l_pair_at c_pair_at k_pair_at
  have F_letters_known := fun_mk (st := s_letters_known) l_letters_known c_letters_known k_letters_known
  have F_letters_by := fun_mk (st := s_letters_by) l_letters_by c_letters_by k_letters_by
  have F_longest_by := fun_mk (st := s_longest_by) l_longest_by c_longest_by k_longest_by
  have F_number_at := fun_mk (st := s_number_at) l_number_at c_number_at k_number_at
  have F__law_pot := fun_mk (st := s_law_pot) l__law_pot c__law_pot k__law_pot
  have F__law_draw := fun_mk (st := s_law_draw) l__law_draw c__law_draw k__law_draw
  have F__law_coder := fun_mk (st := s_law_coder) l__law_coder c__law_coder k__law_coder
  have F__law_class := fun_mk (st := s_law_class) l__law_class c__law_class k__law_class
  have F__law_no_coder := fun_mk (st := s_law_no_coder) l__law_no_coder c__law_no_coder k__law_no_coder
  have F__law_none_of := fun_mk (st := s_law_none_of) l__law_none_of c__law_none_of k__law_none_of
  have F__law_said := fun_mk (st := s_law_said) l__law_said c__law_said k__law_said
  have F__law_right := fun_mk (st := s_law_right) l__law_right c__law_right k__law_right
  have F_law := fun_mk (st := s_law) l_law c_law k_law
  have b_is_whole := F_is_whole.binds (ps := ["thing"]) fun _ _ _ _ _ _ us hl => match us, hl with | [_], _ => rfl
  have b_is_within := F_is_within.binds (ps := ["thing", "least", "most"]) fun _ _ _ _ _ _ us hl => match us, hl with | [_, _, _], _ => rfl
  have b_refuse_no_count := F_refuse_no_count.binds (ps := ["thing", "least", "most"]) fun _ _ _ _ _ _ us hl => match us, hl with | [_, _, _], _ => rfl
  have b_is_coder := F_is_coder.binds (ps := ["thing"]) fun _ _ _ _ _ _ us hl => match us, hl with | [_], _ => rfl
  have b_refuse_no_coder := F_refuse_no_coder.binds (ps := ["coder"]) fun _ _ _ _ _ _ us hl => match us, hl with | [_], _ => rfl
  have b_one_longer := F_one_longer.binds (ps := ["lengths", "place"]) fun _ _ _ _ _ _ us hl => match us, hl with | [_, _], _ => rfl
  have b_next_coder := F_next_coder.binds (ps := ["coder"]) fun _ _ _ _ _ _ us hl => match us, hl with | [_], _ => rfl
  have b_words_till_round := F_words_till_round.binds (ps := ["places"]) fun _ _ _ _ _ _ us hl => match us, hl with | [_], _ => rfl
  have b_rounds_later := F_rounds_later.binds (ps := ["coder", "rounds"]) fun _ _ _ _ _ _ us hl => match us, hl with | [_, _], _ => rfl
  have b_behind := F_behind.binds (ps := ["coder", "many"]) fun _ _ _ _ _ _ us hl => match us, hl with | [_, _], _ => rfl
  have b_refuse_no_place := F_refuse_no_place.binds (ps := ["place", "places"]) fun _ _ _ _ _ _ us hl => match us, hl with | [_, _], _ => rfl
  have b_word_at := F_word_at.binds (ps := ["coder", "number"]) fun _ _ _ _ _ _ us hl => match us, hl with | [_, _], _ => rfl
  have b_most_rounds := F_most_rounds.binds (ps := ["coder", "reached"]) fun _ _ _ _ _ _ us hl => match us, hl with | [_, _], _ => rfl
  have b_steps_till := F_steps_till.binds (ps := ["coder", "reached"]) fun _ _ _ _ _ _ us hl => match us, hl with | [_, _], _ => rfl
  have b_steps_till_known := F_steps_till_known.binds (ps := ["coder", "place", "length"]) fun _ _ _ _ _ _ us hl => match us, hl with | [_, _, _], _ => rfl
  have b_learnt_by := F_learnt_by.binds (ps := ["coder", "place", "length"]) fun _ _ _ _ _ _ us hl => match us, hl with | [_, _, _], _ => rfl
  have b_pair_at := F_pair_at.binds (ps := ["coder", "number"]) fun _ _ _ _ _ _ us hl => match us, hl with | [_, _], _ => rfl
  have b_letters_known := F_letters_known.binds (ps := ["coder"]) fun _ _ _ _ _ _ us hl => match us, hl with | [_], _ => rfl
  have b_letters_by := F_letters_by.binds (ps := ["coder", "many"]) fun _ _ _ _ _ _ us hl => match us, hl with | [_, _], _ => rfl
  have b_longest_by := F_longest_by.binds (ps := ["coder", "many"]) fun _ _ _ _ _ _ us hl => match us, hl with | [_, _], _ => rfl
  have b_number_at := F_number_at.binds (ps := ["coder", "letter"]) fun _ _ _ _ _ _ us hl => match us, hl with | [_, _], _ => rfl
  have b__law_pot := F__law_pot.binds (ps := ["script", "k"]) fun _ _ _ _ _ _ us hl => match us, hl with | [_, _], _ => rfl
  have b__law_draw := F__law_draw.binds (ps := ["pot", "many"]) fun _ _ _ _ _ _ us hl => match us, hl with | [_, _], _ => rfl
  have b__law_coder := F__law_coder.binds (ps := ["pot"]) fun _ _ _ _ _ _ us hl => match us, hl with | [_], _ => rfl
  have b__law_class := F__law_class.binds (ps := ["caught"]) fun _ _ _ _ _ _ us hl => match us, hl with | [_], _ => rfl
  have b__law_no_coder := F__law_no_coder.binds (ps := ["pot"]) fun _ _ _ _ _ _ us hl => match us, hl with | [_], _ => rfl
  have b__law_none_of := F__law_none_of.binds (ps := ["pot", "low", "high"]) fun _ _ _ _ _ _ us hl => match us, hl with | [_, _, _], _ => rfl
  have b__law_said := F__law_said.binds (ps := ["door", "coder", "place", "number"]) fun _ _ _ _ _ _ us hl => match us, hl with | [_, _, _, _], _ => rfl
  have b__law_right := F__law_right.binds (ps := ["pot", "door"]) fun _ _ _ _ _ _ us hl => match us, hl with | [_, _], _ => rfl
  have g_is_whole := PySem.W.mg_of X G a_is_whole
  have g_is_within := PySem.W.mg_of X G a_is_within
  have g_refuse_no_count := PySem.W.mg_of X G a_refuse_no_count
  have g_is_coder := PySem.W.mg_of X G a_is_coder
  have g_refuse_no_coder := PySem.W.mg_of X G a_refuse_no_coder
  have g_one_longer := PySem.W.mg_of X G a_one_longer
  have g_next_coder := PySem.W.mg_of X G a_next_coder
  have g_words_till_round := PySem.W.mg_of X G a_words_till_round
  have g_rounds_later := PySem.W.mg_of X G a_rounds_later
  have g_behind := PySem.W.mg_of X G a_behind
  have g_refuse_no_place := PySem.W.mg_of X G a_refuse_no_place
  have g_word_at := PySem.W.mg_of X G a_word_at
  have g_most_rounds := PySem.W.mg_of X G a_most_rounds
  have g_steps_till := PySem.W.mg_of X G a_steps_till
  have g_steps_till_known := PySem.W.mg_of X G a_steps_till_known
  have g_learnt_by := PySem.W.mg_of X G a_learnt_by
  have g_pair_at := PySem.W.mg_of X G a_pair_at
  have g_letters_known := PySem.W.mg_of X G a_letters_known
  have g_letters_by := PySem.W.mg_of X G a_letters_by
  have g_longest_by := PySem.W.mg_of X G a_longest_by
  have g_number_at := PySem.W.mg_of X G a_number_at
  have g__law_pot := PySem.W.mg_of X G a__law_pot
  have g__law_draw := PySem.W.mg_of X G a__law_draw
  have g__law_coder := PySem.W.mg_of X G a__law_coder
  have g__law_class := PySem.W.mg_of X G a__law_class
  have g__law_no_coder := PySem.W.mg_of X G a__law_no_coder
  have g__law_none_of := PySem.W.mg_of X G a__law_none_of
  have g__law_said := PySem.W.mg_of X G a__law_said
  have g__law_right := PySem.W.mg_of X G a__law_right
  have g_law := PySem.W.mg_of X G a_law
  have w_isinstance := PySem.W.mg_none_of X G z_isinstance
  have w_int := PySem.W.mg_none_of X G z_int
  have w_bool := PySem.W.mg_none_of X G z_bool
  have w_tuple := PySem.W.mg_none_of X G z_tuple
  have w_len := PySem.W.mg_none_of X G z_len
  have w_all := PySem.W.mg_none_of X G z_all
  have w_range := PySem.W.mg_none_of X G z_range
  have w_max := PySem.W.mg_none_of X G z_max
  have w_sum := PySem.W.mg_none_of X G z_sum
  have w_repr := PySem.W.mg_none_of X G z_repr
  have w_min := PySem.W.mg_none_of X G z_min
  have w_ValueError := PySem.W.mg_none_of X G z_ValueError
  have h_MOST_PLACES := PySem.W.mg_of X G m_MOST_PLACES
  have h_MOST_STEPS := PySem.W.mg_of X G m_MOST_STEPS
  have h_MOST_LETTER := PySem.W.mg_of X G m_MOST_LETTER
  have hC_LearnError := PySem.W.mg_of X G gC_LearnError
  have hC_NoCoder := PySem.W.mg_of X G gC_NoCoder
  have hC_NoCount := PySem.W.mg_of X G gC_NoCount
  have hC_NoCounts := PySem.W.mg_of X G gC_NoCounts
  have hC_NoKnown := PySem.W.mg_of X G gC_NoKnown
  have hC_NoLog := PySem.W.mg_of X G gC_NoLog
  have hC_NoLoop := PySem.W.mg_of X G gC_NoLoop
  have hC_NoPairs := PySem.W.mg_of X G gC_NoPairs
  have hC_NoPlace := PySem.W.mg_of X G gC_NoPlace
  have hC_NoRow := PySem.W.mg_of X G gC_NoRow
  have hC_NoSign := PySem.W.mg_of X G gC_NoSign
  have hC_NoText := PySem.W.mg_of X G gC_NoText
  have hC_NoTree := PySem.W.mg_of X G gC_NoTree
  have hC_NoWord := PySem.W.mg_of X G gC_NoWord
  have hC_NotLike := PySem.W.mg_of X G gC_NotLike
  have hC_NotRound := PySem.W.mg_of X G gC_NotRound
  have hC_Nothing := PySem.W.mg_of X G gC_Nothing
  have TE_NoCoder : ErrC K mg "NoCoder" A_NoCoder := ⟨hC_NoCoder, kC_NoCoder, xC_NoCoder, bC_NoCoder, tC_NoCoder⟩
  have TE_NoCount : ErrC K mg "NoCount" A_NoCount := ⟨hC_NoCount, kC_NoCount, xC_NoCount, bC_NoCount, tC_NoCount⟩
  have TE_NoPlace : ErrC K mg "NoPlace" A_NoPlace := ⟨hC_NoPlace, kC_NoPlace, xC_NoPlace, bC_NoPlace, tC_NoPlace⟩
  have te_NoCoder : PySem.W.exmOne K (.ref A_NoCoder) (.ref A_LearnError) = some true := PySem.W.exm_ref bE dE tE sE_NoCoder
  have TX_NoCoder : Errs16 K mg A_NoCoder "NoCoder" := ⟨⟨xg_NoCoder, xk_NoCoder, bC_NoCoder, xd_NoCoder, xa_NoCoder, xn, xt, xm_NoCoder⟩, w_ValueError, kit_ve ve_NoCoder, w_isinstance, fun x hx => by
    simp only [ernL, List.mem_cons, List.not_mem_nil, or_false] at hx
    rcases hx with rfl | rfl | rfl | rfl | rfl | rfl | rfl | rfl | rfl | rfl | rfl | rfl | rfl | rfl | rfl | rfl
    · exact isb_to (b := false) (by decide +kernel) ⟨_, hC_NoKnown, kit_no sS_NoCoder p_NoKnown q_NoKnown r_NoCoder_NoKnown⟩
    · exact isb_to (b := false) (by decide +kernel) ⟨_, hC_NoText, kit_no sS_NoCoder p_NoText q_NoText r_NoCoder_NoText⟩
    · exact isb_to (b := false) (by decide +kernel) ⟨_, hC_NoPairs, kit_no sS_NoCoder p_NoPairs q_NoPairs r_NoCoder_NoPairs⟩
    · exact isb_to (b := false) (by decide +kernel) ⟨_, hC_NoLoop, kit_no sS_NoCoder p_NoLoop q_NoLoop r_NoCoder_NoLoop⟩
    · exact isb_to (b := true) (by decide +kernel) ⟨_, hC_NoCoder, kit_self _⟩
    · exact isb_to (b := false) (by decide +kernel) ⟨_, hC_NoCount, kit_no sS_NoCoder p_NoCount q_NoCount r_NoCoder_NoCount⟩
    · exact isb_to (b := false) (by decide +kernel) ⟨_, hC_NotRound, kit_no sS_NoCoder p_NotRound q_NotRound r_NoCoder_NotRound⟩
    · exact isb_to (b := false) (by decide +kernel) ⟨_, hC_NoTree, kit_no sS_NoCoder p_NoTree q_NoTree r_NoCoder_NoTree⟩
    · exact isb_to (b := false) (by decide +kernel) ⟨_, hC_NoSign, kit_no sS_NoCoder p_NoSign q_NoSign r_NoCoder_NoSign⟩
    · exact isb_to (b := false) (by decide +kernel) ⟨_, hC_NotLike, kit_no sS_NoCoder p_NotLike q_NotLike r_NoCoder_NotLike⟩
    · exact isb_to (b := false) (by decide +kernel) ⟨_, hC_NoPlace, kit_no sS_NoCoder p_NoPlace q_NoPlace r_NoCoder_NoPlace⟩
    · exact isb_to (b := false) (by decide +kernel) ⟨_, hC_NoCounts, kit_no sS_NoCoder p_NoCounts q_NoCounts r_NoCoder_NoCounts⟩
    · exact isb_to (b := false) (by decide +kernel) ⟨_, hC_NoWord, kit_no sS_NoCoder p_NoWord q_NoWord r_NoCoder_NoWord⟩
    · exact isb_to (b := false) (by decide +kernel) ⟨_, hC_Nothing, kit_no sS_NoCoder p_Nothing q_Nothing r_NoCoder_Nothing⟩
    · exact isb_to (b := false) (by decide +kernel) ⟨_, hC_NoLog, kit_no sS_NoCoder p_NoLog q_NoLog r_NoCoder_NoLog⟩
    · exact isb_to (b := false) (by decide +kernel) ⟨_, hC_NoRow, kit_no sS_NoCoder p_NoRow q_NoRow r_NoCoder_NoRow⟩⟩
  have te_NoCount : PySem.W.exmOne K (.ref A_NoCount) (.ref A_LearnError) = some true := PySem.W.exm_ref bE dE tE sE_NoCount
  have TX_NoCount : Errs16 K mg A_NoCount "NoCount" := ⟨⟨xg_NoCount, xk_NoCount, bC_NoCount, xd_NoCount, xa_NoCount, xn, xt, xm_NoCount⟩, w_ValueError, kit_ve ve_NoCount, w_isinstance, fun x hx => by
    simp only [ernL, List.mem_cons, List.not_mem_nil, or_false] at hx
    rcases hx with rfl | rfl | rfl | rfl | rfl | rfl | rfl | rfl | rfl | rfl | rfl | rfl | rfl | rfl | rfl | rfl
    · exact isb_to (b := false) (by decide +kernel) ⟨_, hC_NoKnown, kit_no sS_NoCount p_NoKnown q_NoKnown r_NoCount_NoKnown⟩
    · exact isb_to (b := false) (by decide +kernel) ⟨_, hC_NoText, kit_no sS_NoCount p_NoText q_NoText r_NoCount_NoText⟩
    · exact isb_to (b := false) (by decide +kernel) ⟨_, hC_NoPairs, kit_no sS_NoCount p_NoPairs q_NoPairs r_NoCount_NoPairs⟩
    · exact isb_to (b := false) (by decide +kernel) ⟨_, hC_NoLoop, kit_no sS_NoCount p_NoLoop q_NoLoop r_NoCount_NoLoop⟩
    · exact isb_to (b := false) (by decide +kernel) ⟨_, hC_NoCoder, kit_no sS_NoCount p_NoCoder q_NoCoder r_NoCount_NoCoder⟩
    · exact isb_to (b := true) (by decide +kernel) ⟨_, hC_NoCount, kit_self _⟩
    · exact isb_to (b := false) (by decide +kernel) ⟨_, hC_NotRound, kit_no sS_NoCount p_NotRound q_NotRound r_NoCount_NotRound⟩
    · exact isb_to (b := false) (by decide +kernel) ⟨_, hC_NoTree, kit_no sS_NoCount p_NoTree q_NoTree r_NoCount_NoTree⟩
    · exact isb_to (b := false) (by decide +kernel) ⟨_, hC_NoSign, kit_no sS_NoCount p_NoSign q_NoSign r_NoCount_NoSign⟩
    · exact isb_to (b := false) (by decide +kernel) ⟨_, hC_NotLike, kit_no sS_NoCount p_NotLike q_NotLike r_NoCount_NotLike⟩
    · exact isb_to (b := false) (by decide +kernel) ⟨_, hC_NoPlace, kit_no sS_NoCount p_NoPlace q_NoPlace r_NoCount_NoPlace⟩
    · exact isb_to (b := false) (by decide +kernel) ⟨_, hC_NoCounts, kit_no sS_NoCount p_NoCounts q_NoCounts r_NoCount_NoCounts⟩
    · exact isb_to (b := false) (by decide +kernel) ⟨_, hC_NoWord, kit_no sS_NoCount p_NoWord q_NoWord r_NoCount_NoWord⟩
    · exact isb_to (b := false) (by decide +kernel) ⟨_, hC_Nothing, kit_no sS_NoCount p_Nothing q_Nothing r_NoCount_Nothing⟩
    · exact isb_to (b := false) (by decide +kernel) ⟨_, hC_NoLog, kit_no sS_NoCount p_NoLog q_NoLog r_NoCount_NoLog⟩
    · exact isb_to (b := false) (by decide +kernel) ⟨_, hC_NoRow, kit_no sS_NoCount p_NoRow q_NoRow r_NoCount_NoRow⟩⟩
  have te_NoPlace : PySem.W.exmOne K (.ref A_NoPlace) (.ref A_LearnError) = some true := PySem.W.exm_ref bE dE tE sE_NoPlace
  have TX_NoPlace : Errs16 K mg A_NoPlace "NoPlace" := ⟨⟨xg_NoPlace, xk_NoPlace, bC_NoPlace, xd_NoPlace, xa_NoPlace, xn, xt, xm_NoPlace⟩, w_ValueError, kit_ve ve_NoPlace, w_isinstance, fun x hx => by
    simp only [ernL, List.mem_cons, List.not_mem_nil, or_false] at hx
    rcases hx with rfl | rfl | rfl | rfl | rfl | rfl | rfl | rfl | rfl | rfl | rfl | rfl | rfl | rfl | rfl | rfl
    · exact isb_to (b := false) (by decide +kernel) ⟨_, hC_NoKnown, kit_no sS_NoPlace p_NoKnown q_NoKnown r_NoPlace_NoKnown⟩
    · exact isb_to (b := false) (by decide +kernel) ⟨_, hC_NoText, kit_no sS_NoPlace p_NoText q_NoText r_NoPlace_NoText⟩
    · exact isb_to (b := false) (by decide +kernel) ⟨_, hC_NoPairs, kit_no sS_NoPlace p_NoPairs q_NoPairs r_NoPlace_NoPairs⟩
    · exact isb_to (b := false) (by decide +kernel) ⟨_, hC_NoLoop, kit_no sS_NoPlace p_NoLoop q_NoLoop r_NoPlace_NoLoop⟩
    · exact isb_to (b := false) (by decide +kernel) ⟨_, hC_NoCoder, kit_no sS_NoPlace p_NoCoder q_NoCoder r_NoPlace_NoCoder⟩
    · exact isb_to (b := false) (by decide +kernel) ⟨_, hC_NoCount, kit_no sS_NoPlace p_NoCount q_NoCount r_NoPlace_NoCount⟩
    · exact isb_to (b := false) (by decide +kernel) ⟨_, hC_NotRound, kit_no sS_NoPlace p_NotRound q_NotRound r_NoPlace_NotRound⟩
    · exact isb_to (b := false) (by decide +kernel) ⟨_, hC_NoTree, kit_no sS_NoPlace p_NoTree q_NoTree r_NoPlace_NoTree⟩
    · exact isb_to (b := false) (by decide +kernel) ⟨_, hC_NoSign, kit_no sS_NoPlace p_NoSign q_NoSign r_NoPlace_NoSign⟩
    · exact isb_to (b := false) (by decide +kernel) ⟨_, hC_NotLike, kit_no sS_NoPlace p_NotLike q_NotLike r_NoPlace_NotLike⟩
    · exact isb_to (b := true) (by decide +kernel) ⟨_, hC_NoPlace, kit_self _⟩
    · exact isb_to (b := false) (by decide +kernel) ⟨_, hC_NoCounts, kit_no sS_NoPlace p_NoCounts q_NoCounts r_NoPlace_NoCounts⟩
    · exact isb_to (b := false) (by decide +kernel) ⟨_, hC_NoWord, kit_no sS_NoPlace p_NoWord q_NoWord r_NoPlace_NoWord⟩
    · exact isb_to (b := false) (by decide +kernel) ⟨_, hC_Nothing, kit_no sS_NoPlace p_Nothing q_Nothing r_NoPlace_Nothing⟩
    · exact isb_to (b := false) (by decide +kernel) ⟨_, hC_NoLog, kit_no sS_NoPlace p_NoLog q_NoLog r_NoPlace_NoLog⟩
    · exact isb_to (b := false) (by decide +kernel) ⟨_, hC_NoRow, kit_no sS_NoPlace p_NoRow q_NoRow r_NoPlace_NoRow⟩⟩
  have FC_number_at := FunC.of (st := s_number_at) l_number_at c_number_at
  have FC_steps_till_known := FunC.of (st := s_steps_till_known) l_steps_till_known c_steps_till_known
  refine ⟨PySem.W.fnOf "law" "law" (defArgs s_law) (defBody s_law) (defScope s_law) .none kV_law dc_law pm_law an_law cd_law ct_law, [(ca_number_at, pa_number_at), (ca_steps_till_known, pa_steps_till_known)], spLaw K [(pa_number_at, (("number_at" ++ ".<locals>." : Str) ++ "<lambda>")), (pa_steps_till_known, (("steps_till_known" ++ ".<locals>." : Str) ++ "<lambda>"))], (fun p hp => by
    simp only [List.mem_cons, List.not_mem_nil, or_false] at hp
    rcases hp with rfl | rfl
    · exact Em _ rc_number_at
    · exact Em _ rc_steps_till_known), (fun p hp => by
    simp only [List.mem_cons, List.not_mem_nil, or_false] at hp
    rcases hp with rfl | rfl
    · exact np_number_at
    · exact np_steps_till_known), (fun p hp => by
    simp only [List.mem_cons, List.not_mem_nil, or_false] at hp
    rcases hp with rfl | rfl
    · exact PySem.W.codeHd_of_K X hd_number_at
    · exact PySem.W.codeHd_of_K X hd_steps_till_known), fun s v => .of_eq rfl, fun H a ns hl  hH hS => ⟨a, ns, rfl, hS, hl, (fun p hp => by
    simp only [List.mem_cons, List.not_mem_nil, or_false] at hp
    rcases hp with rfl | rfl
    · exact LamX.TabS.nil (hH (ca_number_at, pa_number_at) (by simp))
    · exact LamX.TabS.nil (hH (ca_steps_till_known, pa_steps_till_known) (by simp))), fun _ => rfl⟩, fun base KB _ hTB => ?_⟩
  have TB_number_at := hTB (ca_number_at, pa_number_at) (by simp)
  have hm_number_at : (pa_number_at, (("number_at" ++ ".<locals>." : Str) ++ "<lambda>")) ∈ ([(pa_number_at, (("number_at" ++ ".<locals>." : Str) ++ "<lambda>")), (pa_steps_till_known, (("steps_till_known" ++ ".<locals>." : Str) ++ "<lambda>"))] : List (Addr × Str)) := by simp
  have hu_number_at : ∀ p ∈ ([(pa_number_at, (("number_at" ++ ".<locals>." : Str) ++ "<lambda>")), (pa_steps_till_known, (("steps_till_known" ++ ".<locals>." : Str) ++ "<lambda>"))] : List (Addr × Str)), p.1 = pa_number_at → p.2 = (("number_at" ++ ".<locals>." : Str) ++ "<lambda>") := fun p hp hq => by
    simp only [List.mem_cons, List.not_mem_nil, or_false] at hp
    rcases hp with rfl | rfl
    · rfl
    · exact absurd hq.symm (ne_number_at_steps_till_known)
  have TB_steps_till_known := hTB (ca_steps_till_known, pa_steps_till_known) (by simp)
  have hm_steps_till_known : (pa_steps_till_known, (("steps_till_known" ++ ".<locals>." : Str) ++ "<lambda>")) ∈ ([(pa_number_at, (("number_at" ++ ".<locals>." : Str) ++ "<lambda>")), (pa_steps_till_known, (("steps_till_known" ++ ".<locals>." : Str) ++ "<lambda>"))] : List (Addr × Str)) := by simp
  have hu_steps_till_known : ∀ p ∈ ([(pa_number_at, (("number_at" ++ ".<locals>." : Str) ++ "<lambda>")), (pa_steps_till_known, (("steps_till_known" ++ ".<locals>." : Str) ++ "<lambda>"))] : List (Addr × Str)), p.1 = pa_steps_till_known → p.2 = (("steps_till_known" ++ ".<locals>." : Str) ++ "<lambda>") := fun p hp hq => by
    simp only [List.mem_cons, List.not_mem_nil, or_false] at hp
    rcases hp with rfl | rfl
    · exact absurd hq.symm (ne_number_at_steps_till_known.symm)
    · rfl
  have E_is_whole := mkCal (P := l.prog) (w := w) (base := base) F_is_whole g_is_whole b_is_whole (ok_whole F_is_whole w_isinstance w_int w_bool)
  have E_is_within := mkCal (P := l.prog) (w := w) (base := base) F_is_within g_is_within b_is_within (ok_within F_is_within E_is_whole)
  have E_refuse_no_count := mkCalX (P := l.prog) (w := w) (base := base) F_refuse_no_count g_refuse_no_count b_refuse_no_count (ok_count F_refuse_no_count E_is_within TE_NoCount)
  have E_is_coder := mkCal (P := l.prog) (w := w) (base := base) F_is_coder g_is_coder b_is_coder (ok_isCoder F_is_coder E_is_whole E_is_within w_isinstance w_tuple w_len w_all h_MOST_PLACES)
  have E_refuse_no_coder := mkCalX (P := l.prog) (w := w) (base := base) F_refuse_no_coder g_refuse_no_coder b_refuse_no_coder (ok_refCoder F_refuse_no_coder E_is_coder TE_NoCoder h_MOST_PLACES)
  have E_one_longer := mkCal (P := l.prog) (w := w) (base := base) F_one_longer g_one_longer b_one_longer (ok_oneLonger F_one_longer)
  have E_next_coder := mkCal (P := l.prog) (w := w) (base := base) F_next_coder g_next_coder b_next_coder (ok_next F_next_coder E_one_longer w_len)
  have E_words_till_round := mkCal (P := l.prog) (w := w) (base := base) F_words_till_round g_words_till_round b_words_till_round (ok_till F_words_till_round)
  have E_rounds_later := mkCal (P := l.prog) (w := w) (base := base) F_rounds_later g_rounds_later b_rounds_later (ok_later F_rounds_later w_len w_tuple)
  have E_behind := mkCalX (P := l.prog) (w := w) (base := base) F_behind g_behind b_behind (ok_behind F_behind E_refuse_no_coder E_refuse_no_count E_next_coder E_words_till_round E_rounds_later w_range w_len w_max h_MOST_STEPS)
  have E_refuse_no_place := mkCalX (P := l.prog) (w := w) (base := base) F_refuse_no_place g_refuse_no_place b_refuse_no_place (ok_refPlace F_refuse_no_place E_is_within TE_NoPlace)
  have E_word_at := mkCalX (P := l.prog) (w := w) (base := base) F_word_at g_word_at b_word_at (ok_wordAt F_word_at E_refuse_no_coder E_refuse_no_count E_behind h_MOST_STEPS)
  have E_most_rounds := ok_most KB F_most_rounds g_most_rounds b_most_rounds E_rounds_later
  have E_steps_till := ok_steps KB F_steps_till g_steps_till b_steps_till E_rounds_later E_next_coder E_words_till_round E_most_rounds w_len
  have E_steps_till_known := mkCal (P := l.prog) (w := w) (base := base) F_steps_till_known g_steps_till_known b_steps_till_known (ok_tillKnown FC_steps_till_known TB_steps_till_known hm_steps_till_known hu_steps_till_known E_steps_till)
  have E_learnt_by := mkCalX (P := l.prog) (w := w) (base := base) F_learnt_by g_learnt_by b_learnt_by (ok_learntBy F_learnt_by E_refuse_no_coder E_refuse_no_place E_refuse_no_count E_steps_till_known w_len h_MOST_STEPS)
  have E_pair_at := mkCalX (P := l.prog) (w := w) (base := base) F_pair_at g_pair_at b_pair_at (ok_pairAt F_pair_at E_word_at E_steps_till_known w_len)
  have E_letters_known := mkCal (P := l.prog) (w := w) (base := base) F_letters_known g_letters_known b_letters_known (ok_lettersKnown F_letters_known w_sum)
  have E_letters_by := mkCalX (P := l.prog) (w := w) (base := base) F_letters_by g_letters_by b_letters_by (ok_lettersBy F_letters_by E_behind E_letters_known)
  have E_longest_by := mkCalX (P := l.prog) (w := w) (base := base) F_longest_by g_longest_by b_longest_by (ok_longest F_longest_by E_behind w_max)
  have E_number_at := mkCalX (P := l.prog) (w := w) (base := base) F_number_at g_number_at b_number_at (ok_numberAt FC_number_at TB_number_at hm_number_at hu_number_at E_refuse_no_coder E_refuse_no_count E_letters_known E_steps_till h_MOST_LETTER)
  have E__law_pot := mkCal (P := l.prog) (w := w) (base := base) F__law_pot g__law_pot b__law_pot (ok_pot F__law_pot w_max w_len)
  have E__law_draw := mkCal (P := l.prog) (w := w) (base := base) F__law_draw g__law_draw b__law_draw (ok_draw F__law_draw)
  have E__law_coder := mkCal (P := l.prog) (w := w) (base := base) F__law_coder g__law_coder b__law_coder (ok_fcoder F__law_coder E__law_draw w_range w_tuple)
  have E__law_class : C8.Cal l.prog w K mg base 1 "_law_class" (spCls [(A_NoCoder, "coder"), (A_NoPlace, "place"), (A_NoCount, "count")]) [] := mkCal (P := l.prog) (w := w) (base := base) F__law_class g__law_class b__law_class (fnOk_cls (ok_class36 F__law_class TX_NoCoder (.inl ⟨rfl, rfl⟩)) (fnOk_cls (ok_class36 F__law_class TX_NoPlace (.inr (.inl ⟨rfl, rfl⟩))) (fnOk_cls (ok_class36 F__law_class TX_NoCount (.inr (.inr ⟨rfl, rfl⟩))) fnOk_nil)) )
  have E__law_no_coder := mkCal (P := l.prog) (w := w) (base := base) F__law_no_coder g__law_no_coder b__law_no_coder (ok_noCoder F__law_no_coder E__law_draw)
  have E__law_none_of := mkCal (P := l.prog) (w := w) (base := base) F__law_none_of g__law_none_of b__law_none_of (ok_noneOf F__law_none_of E__law_draw)
  have E__law_said := mkCal (P := l.prog) (w := w) (base := base) F__law_said g__law_said b__law_said (ok_said F__law_said E_word_at E_letters_by E_number_at E_longest_by E_pair_at E_learnt_by E__law_class hC_LearnError te_NoCoder te_NoCount te_NoPlace)
  have E__law_right := mkCalG (P := l.prog) (w := w) (base := base) F__law_right g__law_right b__law_right (ok_right F__law_right E__law_draw E__law_coder E__law_no_coder E__law_none_of E__law_said w_range w_repr w_len w_int)
  exact ok_law F_law E__law_pot E__law_right w_range w_len w_max w_min
end Lk
end
open PySem PySem.W PyProof.Rows
set_option maxRecDepth 100000 in
set_option maxHeartbeats 0 in
theorem PySem.Challenge.cw_looplearn_k36_far_words_refused_holds : PySem.Challenge.rw_looplearn_k36_far_words_refused.Holds := by
  w_on; o_law; k_head; (case hw => w_witness2)
  k_fill
  refine Lk.walkGT (l := PySem.Challenge.rw_looplearn_k36_far_words_refused) (n := 63) (k := 12) (x := "script") rfl (by decide) rfl ⟨rfl, by decide, by decide⟩ (fun w h Y => PySem.W.km_in_of Y) ?F
  case F =>
    intro w mg fa h Y KX G hmg
    refine' Lk.all_mk KX G hmg (PySem.W.km_tabs_of Y) ?a_is_whole ?l_is_whole ?c_is_whole ?k_is_whole ?a_is_within ?l_is_within ?c_is_within ?k_is_within ?a_refuse_no_count ?l_refuse_no_count ?c_refuse_no_count ?k_refuse_no_count ?a_is_coder ?l_is_coder ?c_is_coder ?k_is_coder ?a_refuse_no_coder ?l_refuse_no_coder ?c_refuse_no_coder ?k_refuse_no_coder ?a_one_longer ?l_one_longer ?c_one_longer ?k_one_longer ?a_next_coder ?l_next_coder ?c_next_coder ?k_next_coder ?a_words_till_round ?l_words_till_round ?c_words_till_round ?k_words_till_round ?a_rounds_later ?l_rounds_later ?c_rounds_later ?k_rounds_later ?a_behind ?l_behind ?c_behind ?k_behind ?a_refuse_no_place ?l_refuse_no_place ?c_refuse_no_place ?k_refuse_no_place ?a_word_at ?l_word_at ?c_word_at ?k_word_at ?a_most_rounds ?l_most_rounds ?c_most_rounds ?k_most_rounds ?a_steps_till ?l_steps_till ?c_steps_till ?k_steps_till ?a_steps_till_known ?l_steps_till_known ?c_steps_till_known ?k_steps_till_known ?a_learnt_by ?l_learnt_by ?c_learnt_by ?k_learnt_by ?a_pair_at ?l_pair_at ?c_pair_at ?k_pair_at ?a_letters_known ?l_letters_known ?c_letters_known ?k_letters_known ?a_letters_by ?l_letters_by ?c_letters_by ?k_letters_by ?a_longest_by ?l_longest_by ?c_longest_by ?k_longest_by ?a_number_at ?l_number_at ?c_number_at ?k_number_at ?a__law_pot ?l__law_pot ?c__law_pot ?k__law_pot ?a__law_draw ?l__law_draw ?c__law_draw ?k__law_draw ?a__law_coder ?l__law_coder ?c__law_coder ?k__law_coder ?a__law_class ?l__law_class ?c__law_class ?k__law_class ?a__law_no_coder ?l__law_no_coder ?c__law_no_coder ?k__law_no_coder ?a__law_none_of ?l__law_none_of ?c__law_none_of ?k__law_none_of ?a__law_said ?l__law_said ?c__law_said ?k__law_said ?a__law_right ?l__law_right ?c__law_right ?k__law_right ?a_law ?l_law ?c_law ?k_law ?z_isinstance ?z_int ?z_bool ?z_tuple ?z_len ?z_all ?z_range ?z_max ?z_sum ?z_repr ?z_min ?z_ValueError ?m_MOST_PLACES ?m_MOST_STEPS ?m_MOST_LETTER ?gC_LearnError ?gC_NoCoder ?gC_NoCount ?gC_NoCounts ?gC_NoKnown ?gC_NoLog ?gC_NoLoop ?gC_NoPairs ?gC_NoPlace ?gC_NoRow ?gC_NoSign ?gC_NoText ?gC_NoTree ?gC_NoWord ?gC_NotLike ?gC_NotRound ?gC_Nothing ?kC_NoCoder ?xC_NoCoder ?kC_NoCount ?xC_NoCount ?kC_NoPlace ?xC_NoPlace ?bC_NoCoder ?tC_NoCoder ?bC_NoCount ?tC_NoCount ?bC_NoPlace ?tC_NoPlace ?bE ?dE ?tE ?p_NoKnown ?q_NoKnown ?p_NoText ?q_NoText ?p_NoPairs ?q_NoPairs ?p_NoLoop ?q_NoLoop ?p_NoCoder ?q_NoCoder ?p_NoCount ?q_NoCount ?p_NotRound ?q_NotRound ?p_NoCounts ?q_NoCounts ?p_NoLog ?q_NoLog ?p_NoPlace ?q_NoPlace ?p_NoRow ?q_NoRow ?p_NoSign ?q_NoSign ?p_NoTree ?q_NoTree ?p_NoWord ?q_NoWord ?p_NotLike ?q_NotLike ?p_Nothing ?q_Nothing ?sE_NoCoder ?xg_NoCoder ?xk_NoCoder ?xd_NoCoder ?xa_NoCoder ?xm_NoCoder ?ve_NoCoder ?sS_NoCoder ?r_NoCoder_NoKnown ?r_NoCoder_NoText ?r_NoCoder_NoPairs ?r_NoCoder_NoLoop ?r_NoCoder_NoCount ?r_NoCoder_NotRound ?r_NoCoder_NoCounts ?r_NoCoder_NoLog ?r_NoCoder_NoPlace ?r_NoCoder_NoRow ?r_NoCoder_NoSign ?r_NoCoder_NoTree ?r_NoCoder_NoWord ?r_NoCoder_NotLike ?r_NoCoder_Nothing ?sE_NoCount ?xg_NoCount ?xk_NoCount ?xd_NoCount ?xa_NoCount ?xm_NoCount ?ve_NoCount ?sS_NoCount ?r_NoCount_NoKnown ?r_NoCount_NoText ?r_NoCount_NoPairs ?r_NoCount_NoLoop ?r_NoCount_NoCoder ?r_NoCount_NotRound ?r_NoCount_NoCounts ?r_NoCount_NoLog ?r_NoCount_NoPlace ?r_NoCount_NoRow ?r_NoCount_NoSign ?r_NoCount_NoTree ?r_NoCount_NoWord ?r_NoCount_NotLike ?r_NoCount_Nothing ?sE_NoPlace ?xg_NoPlace ?xk_NoPlace ?xd_NoPlace ?xa_NoPlace ?xm_NoPlace ?ve_NoPlace ?sS_NoPlace ?r_NoPlace_NoKnown ?r_NoPlace_NoText ?r_NoPlace_NoPairs ?r_NoPlace_NoLoop ?r_NoPlace_NoCoder ?r_NoPlace_NoCount ?r_NoPlace_NotRound ?r_NoPlace_NoCounts ?r_NoPlace_NoLog ?r_NoPlace_NoRow ?r_NoPlace_NoSign ?r_NoPlace_NoTree ?r_NoPlace_NoWord ?r_NoPlace_NotLike ?r_NoPlace_Nothing ?xn ?xt ?rc_number_at ?hd_number_at ?np_number_at ?rc_steps_till_known ?hd_steps_till_known ?np_steps_till_known ?ne_number_at_steps_till_known
    (case a_is_whole => k_is)
    (case l_is_whole => k_is)
    (case c_is_whole => k_is)
    (case k_is_whole => k_is)
    (case a_is_within => k_is)
    (case l_is_within => k_is)
    (case c_is_within => k_is)
    (case k_is_within => k_is)
    (case a_refuse_no_count => k_is)
    (case l_refuse_no_count => k_is)
    (case c_refuse_no_count => k_is)
    (case k_refuse_no_count => k_is)
    (case a_is_coder => k_is)
    (case l_is_coder => k_is)
    (case c_is_coder => k_is)
    (case k_is_coder => k_is)
    (case a_refuse_no_coder => k_is)
    (case l_refuse_no_coder => k_is)
    (case c_refuse_no_coder => k_is)
    (case k_refuse_no_coder => k_is)
    (case a_one_longer => k_is)
    (case l_one_longer => k_is)
    (case c_one_longer => k_is)
    (case k_one_longer => k_is)
    (case a_next_coder => k_is)
    (case l_next_coder => k_is)
    (case c_next_coder => k_is)
    (case k_next_coder => k_is)
    (case a_words_till_round => k_is)
    (case l_words_till_round => k_is)
    (case c_words_till_round => k_is)
    (case k_words_till_round => k_is)
    (case a_rounds_later => k_is)
    (case l_rounds_later => k_is)
    (case c_rounds_later => k_is)
    (case k_rounds_later => k_is)
    (case a_behind => k_is)
    (case l_behind => k_is)
    (case c_behind => k_is)
    (case k_behind => k_is)
    (case a_refuse_no_place => k_is)
    (case l_refuse_no_place => k_is)
    (case c_refuse_no_place => k_is)
    (case k_refuse_no_place => k_is)
    (case a_word_at => k_is)
    (case l_word_at => k_is)
    (case c_word_at => k_is)
    (case k_word_at => k_is)
    (case a_most_rounds => k_is)
    (case l_most_rounds => k_is)
    (case c_most_rounds => k_is)
    (case k_most_rounds => k_is)
    (case a_steps_till => k_is)
    (case l_steps_till => k_is)
    (case c_steps_till => k_is)
    (case k_steps_till => k_is)
    (case a_steps_till_known => k_is)
    (case l_steps_till_known => k_is)
    (case c_steps_till_known => k_is)
    (case k_steps_till_known => k_is)
    (case a_learnt_by => k_is)
    (case l_learnt_by => k_is)
    (case c_learnt_by => k_is)
    (case k_learnt_by => k_is)
    (case a_pair_at => k_is)
    (case l_pair_at => k_is)
    (case c_pair_at => k_is)
    (case k_pair_at => k_is)
    (case a_letters_known => k_is)
    (case l_letters_known => k_is)
    (case c_letters_known => k_is)
    (case k_letters_known => k_is)
    (case a_letters_by => k_is)
    (case l_letters_by => k_is)
    (case c_letters_by => k_is)
    (case k_letters_by => k_is)
    (case a_longest_by => k_is)
    (case l_longest_by => k_is)
    (case c_longest_by => k_is)
    (case k_longest_by => k_is)
    (case a_number_at => k_is)
    (case l_number_at => k_is)
    (case c_number_at => k_is)
    (case k_number_at => k_is)
    (case a__law_pot => k_is)
    (case l__law_pot => k_is)
    (case c__law_pot => k_is)
    (case k__law_pot => k_is)
    (case a__law_draw => k_is)
    (case l__law_draw => k_is)
    (case c__law_draw => k_is)
    (case k__law_draw => k_is)
    (case a__law_coder => k_is)
    (case l__law_coder => k_is)
    (case c__law_coder => k_is)
    (case k__law_coder => k_is)
    (case a__law_class => k_is)
    (case l__law_class => k_is)
    (case c__law_class => k_is)
    (case k__law_class => k_is)
    (case a__law_no_coder => k_is)
    (case l__law_no_coder => k_is)
    (case c__law_no_coder => k_is)
    (case k__law_no_coder => k_is)
    (case a__law_none_of => k_is)
    (case l__law_none_of => k_is)
    (case c__law_none_of => k_is)
    (case k__law_none_of => k_is)
    (case a__law_said => k_is)
    (case l__law_said => k_is)
    (case c__law_said => k_is)
    (case k__law_said => k_is)
    (case a__law_right => k_is)
    (case l__law_right => k_is)
    (case c__law_right => k_is)
    (case k__law_right => k_is)
    (case a_law => k_is)
    (case l_law => k_is)
    (case c_law => k_is)
    (case k_law => k_is)
    (case z_isinstance => k_is)
    (case z_int => k_is)
    (case z_bool => k_is)
    (case z_tuple => k_is)
    (case z_len => k_is)
    (case z_all => k_is)
    (case z_range => k_is)
    (case z_max => k_is)
    (case z_sum => k_is)
    (case z_repr => k_is)
    (case z_min => k_is)
    (case z_ValueError => k_is)
    (case m_MOST_PLACES => k_is)
    (case m_MOST_STEPS => k_is)
    (case m_MOST_LETTER => k_is)
    (case gC_LearnError => k_is)
    (case gC_NoCoder => k_is)
    (case gC_NoCount => k_is)
    (case gC_NoCounts => k_is)
    (case gC_NoKnown => k_is)
    (case gC_NoLog => k_is)
    (case gC_NoLoop => k_is)
    (case gC_NoPairs => k_is)
    (case gC_NoPlace => k_is)
    (case gC_NoRow => k_is)
    (case gC_NoSign => k_is)
    (case gC_NoText => k_is)
    (case gC_NoTree => k_is)
    (case gC_NoWord => k_is)
    (case gC_NotLike => k_is)
    (case gC_NotRound => k_is)
    (case gC_Nothing => k_is)
    (case kC_NoCoder => k_is)
    (case xC_NoCoder => k_exc)
    (case kC_NoCount => k_is)
    (case xC_NoCount => k_exc)
    (case kC_NoPlace => k_is)
    (case xC_NoPlace => k_exc)
    (case bC_NoCoder => k_is)
    (case tC_NoCoder => k_is)
    (case bC_NoCount => k_is)
    (case tC_NoCount => k_is)
    (case bC_NoPlace => k_is)
    (case tC_NoPlace => k_is)
    (case bE => k_is)
    (case dE => k_is)
    (case tE => k_is)
    (case p_NoKnown => k_is)
    (case q_NoKnown => k_is)
    (case p_NoText => k_is)
    (case q_NoText => k_is)
    (case p_NoPairs => k_is)
    (case q_NoPairs => k_is)
    (case p_NoLoop => k_is)
    (case q_NoLoop => k_is)
    (case p_NoCoder => k_is)
    (case q_NoCoder => k_is)
    (case p_NoCount => k_is)
    (case q_NoCount => k_is)
    (case p_NotRound => k_is)
    (case q_NotRound => k_is)
    (case p_NoCounts => k_is)
    (case q_NoCounts => k_is)
    (case p_NoLog => k_is)
    (case q_NoLog => k_is)
    (case p_NoPlace => k_is)
    (case q_NoPlace => k_is)
    (case p_NoRow => k_is)
    (case q_NoRow => k_is)
    (case p_NoSign => k_is)
    (case q_NoSign => k_is)
    (case p_NoTree => k_is)
    (case q_NoTree => k_is)
    (case p_NoWord => k_is)
    (case q_NoWord => k_is)
    (case p_NotLike => k_is)
    (case q_NotLike => k_is)
    (case p_Nothing => k_is)
    (case q_Nothing => k_is)
    (case sE_NoCoder => k_is)
    (case xg_NoCoder => k_is)
    (case xk_NoCoder => k_is)
    (case xd_NoCoder => k_is)
    (case xa_NoCoder => k_is)
    (case xm_NoCoder => k_is)
    (case ve_NoCoder => k_is)
    (case sS_NoCoder => first | rfl | k_is)
    (case r_NoCoder_NoKnown => k_is)
    (case r_NoCoder_NoText => k_is)
    (case r_NoCoder_NoPairs => k_is)
    (case r_NoCoder_NoLoop => k_is)
    (case r_NoCoder_NoCount => k_is)
    (case r_NoCoder_NotRound => k_is)
    (case r_NoCoder_NoCounts => k_is)
    (case r_NoCoder_NoLog => k_is)
    (case r_NoCoder_NoPlace => k_is)
    (case r_NoCoder_NoRow => k_is)
    (case r_NoCoder_NoSign => k_is)
    (case r_NoCoder_NoTree => k_is)
    (case r_NoCoder_NoWord => k_is)
    (case r_NoCoder_NotLike => k_is)
    (case r_NoCoder_Nothing => k_is)
    (case sE_NoCount => k_is)
    (case xg_NoCount => k_is)
    (case xk_NoCount => k_is)
    (case xd_NoCount => k_is)
    (case xa_NoCount => k_is)
    (case xm_NoCount => k_is)
    (case ve_NoCount => k_is)
    (case sS_NoCount => first | rfl | k_is)
    (case r_NoCount_NoKnown => k_is)
    (case r_NoCount_NoText => k_is)
    (case r_NoCount_NoPairs => k_is)
    (case r_NoCount_NoLoop => k_is)
    (case r_NoCount_NoCoder => k_is)
    (case r_NoCount_NotRound => k_is)
    (case r_NoCount_NoCounts => k_is)
    (case r_NoCount_NoLog => k_is)
    (case r_NoCount_NoPlace => k_is)
    (case r_NoCount_NoRow => k_is)
    (case r_NoCount_NoSign => k_is)
    (case r_NoCount_NoTree => k_is)
    (case r_NoCount_NoWord => k_is)
    (case r_NoCount_NotLike => k_is)
    (case r_NoCount_Nothing => k_is)
    (case sE_NoPlace => k_is)
    (case xg_NoPlace => k_is)
    (case xk_NoPlace => k_is)
    (case xd_NoPlace => k_is)
    (case xa_NoPlace => k_is)
    (case xm_NoPlace => k_is)
    (case ve_NoPlace => k_is)
    (case sS_NoPlace => first | rfl | k_is)
    (case r_NoPlace_NoKnown => k_is)
    (case r_NoPlace_NoText => k_is)
    (case r_NoPlace_NoPairs => k_is)
    (case r_NoPlace_NoLoop => k_is)
    (case r_NoPlace_NoCoder => k_is)
    (case r_NoPlace_NoCount => k_is)
    (case r_NoPlace_NotRound => k_is)
    (case r_NoPlace_NoCounts => k_is)
    (case r_NoPlace_NoLog => k_is)
    (case r_NoPlace_NoRow => k_is)
    (case r_NoPlace_NoSign => k_is)
    (case r_NoPlace_NoTree => k_is)
    (case r_NoPlace_NoWord => k_is)
    (case r_NoPlace_NotLike => k_is)
    (case r_NoPlace_Nothing => k_is)
    (case xn => k_is)
    (case xt => k_is)
    (case rc_number_at => exact List.mem_cons_of_mem _ (List.mem_cons_self))
    (case hd_number_at => kernel_rfl)
    (case np_number_at => kernel_rfl)
    (case rc_steps_till_known => exact List.mem_cons_self)
    (case hd_steps_till_known => kernel_rfl)
    (case np_steps_till_known => kernel_rfl)
    (case ne_number_at_steps_till_known => decide)
