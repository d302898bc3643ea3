import PyProof.Rows.All
import Wide.All
import OpenK.AllK
import Wide.FinOn
import HandS.ForMost
import HandS.Exc
import HandS.ExcValue
import PyProof.ReprRoads
import PyProof.ReprReads
import HandS.Codes
import HandS.Walk
import KE.GoesEnum
import HandS.Star
import HandS.TupAny
import HandS.IsInst
import HandS.FStr
import HandS.RaiseMore
import HandS.TryOnly
import HandS.ExcOwn
import HandS.WordsExc
import HandS.Flow
import HandS.More
import HandS.ExcIs
import HandS.Deep
import HandS.TupMul
import HandS.SetFor
import HandS.HotCalls
import HandS.Wide
import HandS.Conv
import KE.GoesEnumKw
import PyProof.Rows.CallKwBuiltin
import HandS.List
import PyProof.WalkInts
import PyProof.WalksMore
import PyProof.Rows.SumAny
import KE.GoesZip
import PySem.Challenge.RW_looplearn_k28_signs_refused
set_option Elab.async false
set_option linter.all false
section
set_option maxRecDepth 100000
set_option maxHeartbeats 2000000
/-! repr of lists and tuples at any depth, where nothing is guarded; defs that are called so. -/
namespace Lk
open PySem PySem.Spec PyProof.Rows L2
mutual
/-- as Dp, and a dict with nothing in it -/
inductive Dq (K : PySem.W.Frag) (H : Hp) : V → PyData → Prop
  | non : Dq K H .non .none
  | bl (b : Bool) : Dq K H (.bl b) (.bool b)
  | int (i : Int) : Dq K H (.int i) (.int i)
  | str (x : Str) : Dq K H (.str x) (.str x)
  | lst {a : Addr} {xs : List V} {ds : List PyData} (h : SqL K H a xs) (m : DqAll K H xs ds) : Dq K H (.ref a) (.list ds)
  | tup {a : Addr} {xs : List V} {ds : List PyData} (h : SqT K H a xs) (m : DqAll K H xs ds) : Dq K H (.ref a) (.tuple ds)
  | dct {a : Addr} (h : H a = some (.dK [])) : Dq K H (.ref a) (.dict [])
inductive DqAll (K : PySem.W.Frag) (H : Hp) : List V → List PyData → Prop
  | nil : DqAll K H [] []
  | cons {v : V} {vs : List V} {d : PyData} {ds : List PyData} (h : Dq K H v d) (m : DqAll K H vs ds) : DqAll K H (v :: vs) (d :: ds)
end
section
variable {X : Cx} {pins : List (Addr × Obj)} {σ : L2.St} {H : Hp} {s : Shared}
/-- what is read of data so told, and that it is shown -/
def Sh (X : Cx) (s : Shared) (u : Value) (d : PyData) : Prop :=
  ∃ as bs, PySem.Reads s.heap u d as ∧ ReadAtMost s.heap d.depth bs ∧ ReprK X.prog X.w bs s.heap d.depth u d.shown
def ShAll (X : Cx) (s : Shared) (us : List Value) (ds : List PyData) : Prop :=
  ∃ as bs, PySem.ReadsAll s.heap us ds as ∧ ReadAtMost s.heap (PyData.depthAll ds) bs ∧ ReprAllK X.prog X.w bs s.heap (PyData.depthAll ds) us (PyData.shownAll ds)
theorem sh_flat {u : Value} {d : PyData} {as : List Addr} (r : PySem.Reads s.heap u d as) (h : d.showable = true) (n : d.hasDict = false) (z : d.shown.length ≤ sizeLine) : Sh X s u d := by
  obtain ⟨bs, h1, h2⟩ := ReprK.of_reads (prog := X.prog) (w := X.w) r h (PyData.noDict_hsm n) z
  exact ⟨as, bs, r, h1, h2⟩
mutual
theorem Dq.shows (I : Inv X pins σ H s) : ∀ (d : PyData) (v : V) (u : Value), Dq X.K H v d → RelV v u → d.showable = true → d.shown.length ≤ sizeLine → Sh X s u d
  | .none, _, _, h, r, hs, z => by
    cases h
    cases r
    exact sh_flat .none hs (by simp only [PyData.hasDict]) z
  | .bool b, _, _, h, r, hs, z => by
    cases h
    cases r
    exact sh_flat (.bool b) hs (by simp only [PyData.hasDict]) z
  | .int i, _, _, h, r, hs, z => by
    cases h
    obtain ⟨t, rfl⟩ := r
    exact sh_flat (.int i t) hs (by simp only [PyData.hasDict]) z
  | .str x, _, _, h, r, hs, z => by
    cases h
    obtain ⟨t, rfl⟩ := r
    exact sh_flat (.str x t) hs (by simp only [PyData.hasDict]) z
  | .list ds, _, _, h, r, hs, z => by
    cases h with
    | lst hq m =>
      rename_i a xs
      cases r
      obtain ⟨its, rv, ⟨o, n, ho, hc, _, hd⟩, _⟩ := I.list hq
      have z2 : (listText (PyData.shownAll ds)).length ≤ sizeLine := by simpa only [PyData.shown] using z
      obtain ⟨as, bs, r2, hb, hk⟩ := DqAll.shows I ds xs its m rv (by simpa [PyData.showable] using hs) fun t ht => Nat.le_trans (listText_mem_le ht) z2
      have r3 : PySem.Reads s.heap (.ref a) (.list ds) (a :: as) := .list ho hc hd r2
      have out : a ∉ bs := not_mem_of_deeper (n := PyData.depthAll ds) r3 (by simp only [PyData.depth]; omega) hb
      refine ⟨_, a :: bs, r3, .cons r3 (n := PyData.depthAll ds) (by simp only [PyData.depth]; omega) hb, ?_⟩
      simp only [PyData.depth, PyData.shown]
      cases its with
      | nil =>
        cases r2
        simp only [PyData.shownAll, listText_nil]
        exact ReprK.listEmpty ho hc hd
      | cons y ys => exact ReprK.list ho hc hd out (by simpa using hk.length_eq) fun i y e => hk.item i y (by simpa using e)
  | .tuple ds, _, _, h, r, hs, z => by
    cases h with
    | tup hq m =>
      rename_i a xs
      cases r
      obtain ⟨its, rv, ⟨o, ho, hc, n, hd⟩, _⟩ := I.tuple hq
      have z2 : (tupleText (PyData.shownAll ds)).length ≤ sizeLine := by simpa only [PyData.shown] using z
      obtain ⟨as, bs, r2, hb, hk⟩ := DqAll.shows I ds xs its m rv (by simpa [PyData.showable] using hs) fun t ht => Nat.le_trans (tupleText_mem_le ht) z2
      have r3 : PySem.Reads s.heap (.ref a) (.tuple ds) as := .tuple ho hc hd r2
      have out : a ∉ bs := not_mem_of_deeper (n := PyData.depthAll ds) r3 (by simp only [PyData.depth]; omega) hb
      refine ⟨_, a :: bs, r3, .cons r3 (n := PyData.depthAll ds) (by simp only [PyData.depth]; omega) hb, ?_⟩
      simp only [PyData.depth, PyData.shown]
      exact ReprK.tuple ho hc hd out hk
  | .dict kvs, _, _, h, r, hs, z => by
    cases h with
    | dct hq =>
      rename_i a
      cases r
      obtain ⟨_, far, vs, kv, o, es, ep, ho, ex, hd, _, hp, _⟩ := dk_of I.hok hq
      cases kv
      have e0 : es.toList = [] := List.eq_nil_of_length_eq_zero (by rw [hp.length]; rfl)
      obtain ⟨el⟩ := es
      dsimp only at e0
      subst e0
      have r3 : PySem.Reads s.heap (.ref a) (.dict []) [a] := .dict (as := []) (bs := []) ho ex.1 hd .nil .nil
      refine ⟨_, [a], r3, .cons r3 (n := 0) (Nat.zero_le _) (fun _ q => nomatch q), ?_⟩
      have q := ReprK.dict (prog := X.prog) (w := X.w) (as := []) (d := PyData.depthKv []) ho ex.1 hd far (fun q => nomatch q) .nil
      simpa only [PyData.depth, PyData.shown, PyData.shownKv] using q
theorem DqAll.shows (I : Inv X pins σ H s) : ∀ (ds : List PyData) (vs : List V) (us : List Value), DqAll X.K H vs ds → Vals vs us → PyData.showableAll ds = true → (∀ t ∈ PyData.shownAll ds, t.length ≤ sizeLine) → ShAll X s us ds
  | [], _, _, h, r, _, _ => by
    cases h
    cases r
    exact ⟨[], [], .nil, (fun _ q => nomatch q), .nil⟩
  | d :: ds, _, _, h, r, hs, z => by
    cases h with
    | cons h1 h2 =>
      cases r with
      | cons r1 r2 =>
        have hs2 : d.showable = true ∧ PyData.showableAll ds = true := by simpa [PyData.showableAll] using hs
        obtain ⟨as1, bs1, p1, q1, k1⟩ := Dq.shows I d _ _ h1 r1 hs2.1 (z _ (by simp only [PyData.shownAll]; exact List.mem_cons_self))
        obtain ⟨as2, bs2, p2, q2, k2⟩ := DqAll.shows I ds _ _ h2 r2 hs2.2 fun t ht => z t (by simp only [PyData.shownAll]; exact List.mem_cons_of_mem _ ht)
        refine ⟨_, bs1 ++ bs2, .cons p1 p2, ?_, ?_⟩
        · simp only [PyData.depthAll]
          exact (q1.mono (Nat.le_max_left _ _)).append (q2.mono (Nat.le_max_right _ _))
        · simp only [PyData.depthAll, PyData.shownAll]
          exact .cons ((k1.more fun b hb => List.mem_append_left _ hb).level_le (Nat.le_max_left _ _)) (k2.more_le (fun b hb => List.mem_append_right bs1 hb) (Nat.le_max_right _ _))
end
/-- repr of data, where nothing is guarded -/
def rRep (K : PySem.W.Frag) : List V → Hp → VK → Prop := fun xs H Q => ∃ v d, xs = [v] ∧ Dq K H v d ∧ (∀ kvs, d ≠ .dict kvs) ∧ d.showable = true ∧ d.depth ≤ 64 ∧ d.shown.length ≤ sizeLine ∧ Q (.str d.shown) H
theorem call_rep (hg : X.A.guards = some []) (hu : X.A.units + 100 < cLine) : CallR X (.builtin "repr") (rRep X.K) := by
  intro pins s σ H xs us Q I ru h
  obtain ⟨v, d, rfl, hd, nd, hs, dp, z, q⟩ := h
  obtain ⟨u, rfl, r⟩ := vals1 ru
  clear ru
  cases hd with
  | non =>
    cases r
    simp only [PyData.shown] at q
    exact PySem.P.repr_of_none ⟨.str _, H, I.tok _, ⟨_, rfl⟩, q⟩
  | bl b =>
    cases r
    simp only [PyData.shown] at q
    exact PySem.P.repr_of_bool ⟨.str _, H, I.tok _, ⟨_, rfl⟩, q⟩
  | int i =>
    obtain ⟨t, rfl⟩ := r
    simp only [PyData.shown] at q
    exact PySem.P.repr_of_int (by simpa [PyData.showable] using hs) ⟨.str _, H, I.tok _, ⟨_, rfl⟩, q⟩
  | str x =>
    obtain ⟨t, rfl⟩ := r
    simp only [PyData.shown] at q z
    exact PySem.P.repr_of_str ⟨.str _, H, I.tok _, ⟨_, rfl⟩, q⟩ z
  | dct e => exact absurd rfl (nd [])
  | lst hq m =>
    rename_i a xs ds
    cases r
    obtain ⟨its, rv, ⟨o, n, ho, hc, _, hd⟩, _⟩ := I.list hq
    simp only [PyData.shown, PyData.depth] at q z dp
    obtain ⟨as, bs, r2, hb, hk⟩ := DqAll.shows I ds xs its m rv (by simpa [PyData.showable] using hs) fun t ht => Nat.le_trans (listText_mem_le ht) z
    have out : a ∉ bs := not_mem_of_deeper (n := PyData.depthAll ds) (PySem.Reads.list ho hc hd r2) (by simp only [PyData.depth]; omega) hb
    have ty : s.TypeIs (.ref a) "list" := ⟨o, ho, hc⟩
    refine call_repr_slot (by omega) ty PySem.F.slot_list_repr.toG ?_
    cases its with
    | nil =>
      cases r2
      simp only [PyData.shownAll, listText_nil] at q
      exact call_list_repr_empty ty ho hd ⟨_, _, rfl, ⟨.str _, H, I.tok _, ⟨_, rfl⟩, q⟩⟩
    | cons y ys =>
      refine call_list_reprK ho hc hd out (by simpa using hk.length_eq) (fun i y e => hk.item i y (by simpa using e)) hg (fun b _ => Clear.nil b) (by show X.A.units + 1 + _ < cLine; omega) (fun _ _ e => e) (fun h2 u tk k => ?_) z
      exact ⟨_, _, rfl, ⟨.str _, H, I.kept k, ⟨_, rfl⟩, q⟩⟩
  | tup hq m =>
    rename_i a xs ds
    cases r
    obtain ⟨its, rv, ⟨o, ho, hc, n, hd⟩, _⟩ := I.tuple hq
    simp only [PyData.shown, PyData.depth] at q z dp
    obtain ⟨as, bs, r2, hb, hk⟩ := DqAll.shows I ds xs its m rv (by simpa [PyData.showable] using hs) fun t ht => Nat.le_trans (tupleText_mem_le ht) z
    have out : a ∉ bs := not_mem_of_deeper (n := PyData.depthAll ds) (PySem.Reads.tuple ho hc hd r2) (by simp only [PyData.depth]; omega) hb
    have ty : s.TypeIs (.ref a) "tuple" := ⟨o, ho, hc⟩
    refine call_repr_slot (by omega) ty PySem.F.slot_tuple_repr ?_
    refine call_tuple_reprK ho hc hd out hk hg (fun b _ => Clear.nil b) (by show X.A.units + 1 + _ < cLine; omega) (fun _ _ e => e) (fun h2 u tk k => ?_) z
    exact ⟨_, _, rfl, ⟨.str _, H, I.kept k, ⟨_, rfl⟩, q⟩⟩
end
end Lk
end
section
set_option maxRecDepth 100000
set_option maxHeartbeats 2000000
/-! Defs that are called where nothing is guarded. -/
namespace Lk
open PySem PySem.Spec PyProof.Rows L2
structure FnG (P : Program) (w : World) (K : PySem.W.Frag) (mg : Str → Option Value) (base : Heap) (T : CXT) (k : Nat) (f : Addr) (fd : FuncData) (ps : List Str) (sp : Sp) : Prop where
  many : ∀ {vs H Q E}, sp vs H Q E → vs.length = ps.length
  go : ∀ {A : Around} {outer : List Env} {s : Shared} {H : Hp} {args : Args} {us : List Value} {vs : List V} {Q : VK} {E : XK}, A.guards = some [] → Room k A → Env0 P w K mg base A outer s H →
    BindsTo s fd args (ps.zip us) → Vals vs us → sp vs H Q E → codeAny (model P w) A (.call (.ref f) args) (CR T outer P w H s Q E) s
section
variable {P : Program} {w : World} {K : PySem.W.Frag} {mg : Str → Option Value} {base : Heap}
theorem fnG {x qual : Str} {st : Stmt} {f : Addr} {fd : FuncData} {N ps : List Str} {k : Nat} {sp : Sp} (F : Fun K x qual st f fd) (S : FnScope N ps (defScope st)) (many : ∀ {vs H Q E}, sp vs H Q E → vs.length = ps.length)
    (body : ∀ (cdv : Value) (A : Around) (outer : List Env) (s : Shared) (H : Hp) (vs : List V) (Q : VK) (E : XK), (A.deeper (envOfC qual (defScope st) s.heap.objs.size f cdv)).guards = some [] →
      Room k (A.deeper (envOfC qual (defScope st) s.heap.objs.size f cdv)) → sp vs H Q E →
      ∃ t, PSs (cxOf CX0 P w K mg base N qual (defScope st) f cdv A outer s H E).nox (defBody st) t ∧ t { nx := fun _ H2 => Q .non H2, rt := Q } (start N vs) H) : FnG P w K mg base CX0 (k + 1) f fd ps sp := by
  obtain ⟨oc, od, kV, doc, pm, an, cdv, ct, osl, rfl, lk, code⟩ := F.ex
  refine ⟨many, fun {A outer s H args us vs Q E} gA hr e0 hb r h => ?_⟩
  have len := many h
  have inK : K.In s.heap := e0.mod.kin.keeps fun b o q => (e0.bs b o q).1
  have free : s.heap.NoLimit := e0.mod.nolimit.keeps fun b o q => (e0.bs b o q).1
  refine codeAny_call_function hr.depth (inK _ _ lk) rfl S.co S.gen rfl (PySem.W.codeRec_of inK code) (hb _ _ _ _ (wpAny_newFunctionEnv_cells S.kind (fun ⟨n, v⟩ hy => ?_) fun env he s1 x1 => ?_))
  · exact (S.par n (List.of_mem_zip hy).1).imp id fun q => ⟨q, PySem.W.cellsFrom_some _ _ _ (.inl q)⟩
  · subst he
    obtain ⟨t, ht, q⟩ := body cdv A outer s H vs Q E gA (hr.deeper _) h
    have I0 : Inv (cxOf CX0 P w K mg base N qual (defScope st) f cdv A outer s H E) [] (start N vs) H s1 := inv_start S hr.hd e0 len r x1
    refine ⟨free.keeps x1.toInCall.keep, codeAny_func (wpAny_mono (ht.nox.run [] s1 (start N vs) H _ I0 q) (fun fl s2 z => ?_) fun _ _ z => z)⟩
    match fl, z with
    | .ret u, ⟨v, _, H2, J, rv, q2⟩ => exact ⟨v, H2, J.os, J.bare, J.base, J.hok, rv, q2⟩
    | .next, ⟨_, H2, J, q2⟩ => exact ⟨V.non, H2, J.os, J.bare, J.base, J.hok, (rfl : RelV .non Value.none), q2⟩
    | .brk, ⟨_, _, _, no⟩ => exact no.elim
    | .cont, ⟨_, _, _, no⟩ => exact no.elim
end
/-- a def that is called by its name where nothing is guarded -/
structure CalG (P : Program) (w : World) (K : PySem.W.Frag) (mg : Str → Option Value) (base : Heap) (k : Nat) (x : Str) (sp : Sp) : Prop where
  ex : ∃ (f : Addr) (fd : FuncData) (ps : List Str), FnG P w K mg base CX0 k f fd ps sp ∧ mg x = some (.ref f) ∧ PySem.W.keepIn K (.ref f) = true ∧ Binds K fd ps []
section
variable {X : Cx} {k j : Nat} {x : Str} {sp : Sp} {p pos : Pos} {e : Expr} {es : List Expr} {t : TA}
theorem pe_cG (c : CalG X.prog X.w X.K X.mg X.base k x sp) (gX : X.A.guards = some []) (hr : Room j X.A) (hk : k ≤ j) (hg : Gl X x) (ha : PA X (e :: es) t)
    (hdb : (x == ("__debug__" : Str)) = false := by decide) (he : starEach (e :: es) X.env = (false, eval e X.env) :: starEach es X.env := by rfl) (hpl : (backTo pos (starEach es X.env)).any (·.1) = false := by rfl) :
    PE X (.Call (.Name x p) (e :: es) [] pos) (tCall sp [] E0 t) := by
  obtain ⟨f, fd, ps, F, hm, kp, b⟩ := c.ex
  refine ⟨fun pins s σ H Q I h => wpAny_Call_Name_kw (ld_glob I hg hm ?_ hdb)⟩
  refine PySem.W.callWith_K (h₀ := X.base) I.ok.mod.kin kp (thn (ha.run pos pins s σ H _ I h) fun us s1 ⟨vs, H1, I1, r, q⟩ => ⟨I1.kIn, ?_⟩) he hpl
  dsimp only at q
  rw [List.append_nil] at q
  have hl : (us ++ []).length = ps.length := by rw [List.append_nil, ← r.length]; exact F.many q
  have b1 := b s1 us I1.kIn hl
  rw [List.append_nil] at b1
  refine wpAny_call (codeAny_mono (F.go gX (hr.mono hk) I1.env0 b1 r q) fun r2 s2 z => ?_)
  match r2, z with
  | .ok (.ret u), z => exact I1.after z
  | .ok .next, z => exact z.elim
  | .ok .brk, z => exact z.elim
  | .ok .cont, z => exact z.elim
  | .error _, z => exact z.elim
end
/-- the law's call -/
theorem lawG {P : Program} {w : World} {K : PySem.W.Frag} {mg mb : Str → Option Value} {k : Nat} {fa a : Addr} {fd : FuncData} {x : Str} {sp : Sp} {s1 : Shared} {vs : List Value} {ns : List Int}
    (inK : K.In s1.heap) (gl : s1.heap.Ns mainGlobals mg) (bl : s1.heap.Ns builtinsNs mb) (bb : ∀ x : Str, x ≠ "__name__" → mb x = bootBuiltins x) (free : s1.heap.NoLimit) (g0 : s1.gens = #[])
    (ha : s1.heap.get? a = some { cls := .type "list", data := .seq vs.toArray }) (hi : IntsAre vs ns) (hl : ns.length ≤ sizeLine) (hr : Room k callerA)
    (F : ∀ base : Heap, K.In base → base.Ns mainGlobals mg → FnG P w K mg base CX0 k fa fd [x] sp) (bind : ∀ (s : Shared) (u : Value), BindsTo s fd ⟨[u], []⟩ [(x, u)])
    (hsp : ∀ H : Hp, SqL K H a (ns.map V.int) → sp [.ref a] H (fun v _ => v = .bl true) fun _ _ _ => False) :
    codeAny (model P w) callerA (.call (.ref fa) ⟨[.ref a], []⟩) (fun r s2 => r = .ok (.ret (.bool true)) ∧ OldK s1.heap s2.heap ∧ s2.os = s1.os ∧ AllBare s2.gens) s1 := by
  have rv := vals_ints hi
  -- what is tracked: the script alone, as it was, or nothing
  have main : ∀ H : Hp, SqL K H a (ns.map V.int) → HOk P w H s1.heap → (∀ b u, H b = some u → b = a ∧ K.lookup a = none ∧ ∃ o xs, u = .frz o (.lst xs)) →
      codeAny (model P w) callerA (.call (.ref fa) ⟨[.ref a], []⟩) (fun r s2 => r = .ok (.ret (.bool true)) ∧ OldK s1.heap s2.heap ∧ s2.os = s1.os ∧ AllBare s2.gens) s1 := by
    intro H hS hok only
    have off : ∀ {b : Addr} {o : Obj} {es : Array DictEntry} {ep : Nat}, s1.heap.get? b = some o → o.data = .dict es ep → H b = none := fun {b o es ep} e d => by
      rcases q : H b with _ | u
      · rfl
      · obtain ⟨rfl, _, _⟩ := only b u q
        rw [ha] at e
        cases e
        cases (show Data.seq vs.toArray _ = Data.dict es ep from d)
    have hid : ∀ {b : Addr} {m : Str → Option Value}, s1.heap.Ns b m → (hidT s1.heap H).Ns b m := fun ⟨o, es, ep, e, d, r⟩ => ⟨o, es, ep, hidT_get e (off e d), d, r⟩
    have inB : K.In (hidT s1.heap H) := fun b o e => hidT_get (inK b o e) (by
      rcases q : H b with _ | u
      · rfl
      · obtain ⟨rfl, no, _⟩ := only b u q
        rw [no] at e
        cases e)
    have md : Mod K mg (hidT s1.heap H) := ⟨inB, hid gl, ⟨mb, hid bl, bb⟩, free.imp fun mc z => ⟨hid z.1, z.2⟩⟩
    have ev : Env0 P w K mg (hidT s1.heap H) callerA [] s1 H := ⟨rfl, md, fun _ _ e => of_hidT e, Nat.le_of_eq (hidT_size _ _), trivial, (fun _ z => nomatch z), hok, .of_eq g0⟩
    refine codeAny_mono ((F _ inB (hid gl)).go (us := [.ref a]) (vs := [.ref a]) rfl hr ev (bind s1 (.ref a)) (.cons rfl .nil) (hsp H hS)) fun r s2 z => ?_
    match r, z with
    | .ok (.ret u), ⟨v, H2, os, bare, un, hok2, rel, q⟩ =>
      cases (show v = V.bl true from q)
      cases (show u = Value.bool true from rel)
      refine ⟨rfl, OldK.of_keep fun b o e => ?_, os, bare⟩
      rcases q2 : H b with _ | u2
      · exact un.keep b o e q2 (fun z => nomatch z) (fun z => nomatch z)
      · obtain ⟨_, _, ob, xs, rfl⟩ := only b u2 q2
        obtain ⟨e1, _⟩ := hok b _ q2
        obtain ⟨e2, _⟩ := hok2 b _ (un.frzs b ob _ q2)
        rw [e] at e1
        cases e1
        exact e2
    | .ok .next, z => exact z.elim
    | .ok .brk, z => exact z.elim
    | .ok .cont, z => exact z.elim
    | .error _, z => exact z.elim
  rcases hk : K.lookup a with _ | o
  · refine main (upd (fun _ => none) a (.frz { cls := .type "list", data := .seq vs.toArray } (.lst (ns.map V.int)))) (.inl (.inr ⟨_, upd_same⟩)) (fun b u z => ?_) fun b u z => ?_
    · by_cases e : b = a
      · subst e
        rw [upd_same] at z
        cases z
        exact ⟨ha, by rw [List.length_map]; exact hl, vs, _, rv, ha⟩
      · rw [upd_ne e] at z
        cases z
    · by_cases e : b = a
      · subst e
        rw [upd_same] at z
        cases z
        exact ⟨rfl, hk, _, _, rfl⟩
      · rw [upd_ne e] at z
        cases z
  · have e := inK a o hk
    rw [ha] at e
    cases e
    refine main (fun _ => none) (.inr ⟨_, vs.toArray, _, hk, rfl, rfl, rfl, ?_, by simpa using rv⟩) (fun _ _ z => nomatch z) fun _ _ z => nomatch z
    rw [List.size_toArray, hi.length]
    exact hl
/-- what the head leaves, from the law's def -/
theorem walkG {l : PySem.W.OpenLaw} {n k : Nat} {q : Program} {loose : List Str} {XP : (Str → Option Value) → Heap → Prop} {YP : World → Heap → Prop} {d : DefRec} {K : Params → PySem.W.Frag} {sp : World → Sp} {x : Str}
    (hn : l.most = some n) (hn2 : n ≤ sizeLine) (hdf : d.params.defaults = []) (hr : Room k callerA) (hY : ∀ (w : World) (h : Heap), YP w h → (K w.params).In h)
    (F : ∀ (w : World) (mg : Str → Option Value) (fa : Addr) (h : Heap), (K w.params).In h → h.Ns mainGlobals mg → mg d.name = some (.ref fa) →
      ∃ fd : FuncData, (∀ (s : Shared) (u : Value), BindsTo s fd ⟨[u], []⟩ [(x, u)]) ∧ ∀ base : Heap, (K w.params).In base → base.Ns mainGlobals mg → FnG l.prog w (K w.params) mg base CX0 k fa fd [x] (sp w))
    (hsp : ∀ (w : World) (H : Hp) (a : Addr) (ns : List Int), ns.length ≤ n → SqL (K w.params) H a (ns.map V.int) → sp w [.ref a] H (fun v _ => v = .bl true) fun _ _ _ => False) :
    PySem.W.WalkO q loose XP YP l.row.toRowW d [] (fun f vs => PySem.call f vs) := by
  refine Att.attach_call hn hdf fun w s0 s1 mg mb fa o pm cd doc a vs ns G Y ho hd hcd hmg hobj hints hlen hg => ?_
  obtain ⟨fd, b, z⟩ := F w mg fa _ (hY w _ Y) G.T.g hmg
  exact lawG (hY w _ Y) G.T.g G.T.b G.T.builtins G.T.nolimit hg hobj hints (Nat.le_trans hlen hn2) hr z b fun H hS => hsp w H a ns hlen hS
end Lk
end
section
set_option maxRecDepth 100000
set_option maxHeartbeats 2000000
/-! enumerate of a tuple. -/
namespace Lk
open PySem PySem.Spec PyProof.Rows L2
/-- the tuple at a, its items in new pairs behind their numbers from c on -/
def IteT (K : PySem.W.Frag) (a : Addr) (c : Int) : It :=
  ⟨fun i H => ∃ (xs : List V) (x : V), SqT K H a xs ∧ xs[i]? = some x,
   fun i H v H2 => ∃ T x, v = .ref T ∧ H T = none ∧ H2 = upd H T (.tup [.int (c + (i : Int)), x]) ∧ ∀ xs, SqT K H a xs → xs[i]? = some x,
   fun i H => ∃ xs : List V, SqT K H a xs ∧ xs.length ≤ i⟩
theorem walk_enumT {K : PySem.W.Frag} {a : Addr} {c : Int} {xs : List V} : Walk (IteT K a c) xs.length (fun H => SqT K H a xs) (YPair (fun i => some (.int (c + (i : Int)))) (fun i => xs[i]?)) := by
  refine ⟨fun i _ hi q => ⟨xs, xs[i], q, by simp [hi]⟩, fun _ q => ⟨xs, q, Nat.le_refl _⟩, fun i H v H2 _ q ⟨T, x, h1, h2, h3, h4⟩ => ?_⟩
  exact ⟨T, .int (c + (i : Int)), x, h1, h2, h3, rfl, h4 xs q⟩
theorem turn_enumT {P : Program} {w : World} {K : PySem.W.Frag} {elts : List Expr} {kk : Nat} {tpos : Pos} {c : Int} (a e it : Addr) :
    Turn P w K (.Tuple elts kk tpos) (IteT K a c) [e, it] e (fun i h => (∃ old, IsEnum h e it (c + (i : Int)) old) ∧ h.IsTupleIter it a i ∧ e ≠ it) where
  mem := by simp
  obj := fun i h st b hb => by
    obtain ⟨⟨old, he⟩, ⟨o, ho, hc, hd⟩, _⟩ := st
    rcases List.mem_cons.mp hb with z | z
    · rw [z]
      exact ⟨_, he, fun v q => nomatch q⟩
    · rw [List.mem_singleton.mp z]
      exact ⟨o, ho, fun v q => by rw [hd] at q; cases q⟩
  keep := fun i h h2 st k => ⟨st.1.imp fun old he => k e (by simp) _ he, st.2.1.at fun o q => k it (by simp) o q, st.2.2⟩
  item := by
    intro X hP hw hK hc i pins s σ H E I hf st hg
    subst hP hw hK
    obtain ⟨⟨old, he⟩, hit, hne⟩ := st
    obtain ⟨xs, x, hq, hx⟩ := hg
    obtain ⟨its, rv, tp, hz⟩ := I.tuple hq
    obtain ⟨u, hu, ru⟩ := rv.get hx
    have hel : e < s.heap.objs.size := Heap.lt_size he
    have hil : it < s.heap.objs.size := by obtain ⟨_, q, _⟩ := hit; exact Heap.lt_size q
    have tp2 : s.heap.IsTuple a its.toArray := tp
    obtain ⟨o, ho, oc, _⟩ := id tp
    have ea : e ≠ a := fun z => by
      rw [← z, show s.heap.get? e = some _ from he] at ho
      cases ho
      exact absurd (Value.type.inj oc) (by decide)
    have ia : it ≠ a := fun z => by
      obtain ⟨o2, ho2, oc2, _⟩ := id hit
      rw [← z, ho2] at ho
      cases ho
      rw [oc2] at oc
      exact absurd (Value.type.inj oc) (by decide)
    have hi : i < its.toArray.size := by
      rw [List.size_toArray]
      exact (List.getElem?_eq_some_iff.mp hu).1
    refine wpAny_pyNext_enum_itemC (Draws.tuple (show X.A.in1.handled = none from I.ok.hd hc) it a (Ne.symm ia) its.toArray) he ⟨hit, tp2⟩ hi hne (fun z => ?_) fun y h1 tk hy ho1 hs1 hT hsz hk => ?_
    · rcases List.mem_cons.mp z with z | z
      · exact hne z
      · exact ea (List.mem_singleton.mp z)
    · have yu : y = u := by
        have q : its.toArray[i]? = some y := hy
        rw [List.getElem?_toArray, hu] at q
        exact (Option.some.inj q).symm
      subst yu
      refine ⟨_, rfl, wpAny_letOwnedTupleGo_enum (s := { s with heap := h1, toks := tk + 1 }) ho1 fun h2 he2 sb => ?_⟩
      have sb2 : Heap.SameBut e h1 h2 := sb
      have hT2 : h2.get? s.heap.objs.size = some { cls := .type "tuple", data := .seq #[.int (c + (i : Int)) tk, y] } := (sb2.2 _ (Nat.ne_of_gt hel)).trans hT
      have new : ObjOk X.prog X.w (upd H s.heap.objs.size (.tup [.int (c + (i : Int)), x])) h2 s.heap.objs.size (.tup [.int (c + (i : Int)), x]) :=
        ⟨by show 2 ≤ sizeLine; decide, [.int (c + (i : Int)) tk, y], .cons ⟨_, rfl⟩ (.cons ru .nil), ⟨_, hT2, rfl, _, rfl⟩⟩
      have I1 : Inv X pins σ (upd H s.heap.objs.size (.tup [.int (c + (i : Int)), x])) { s with heap := h2, toks := tk + 1 } :=
        I.turnedNew (ch := [e, it]) (fun b ob hb q => (sb2.2 b (fun z => hb (by simp [z]))).trans (hk b ob (fun z => hb (by simp [z])) (fun z => hb (by simp [z])) q)) hf (Nat.le_refl _) new
      refine ⟨.ref s.heap.objs.size, _, I1, rfl, ⟨_, x, rfl, I.hok.fresh (Nat.le_refl _), rfl, fun ys hy => by rw [I.tuple_inj hy hq]; exact hx⟩, ⟨⟨y, ?_⟩, hs1.1.at fun o q => (sb2.2 it (Ne.symm hne)).trans q, hne⟩, fun b hb => ?_⟩
      · rw [show c + ((i + 1 : Nat) : Int) = c + (i : Int) + 1 by omega]
        exact he2
      · have lt : b < s.heap.objs.size := by
          rcases List.mem_cons.mp hb with z | z
          · rw [z]; exact hel
          · rw [List.mem_singleton.mp z]; exact hil
        rw [upd_ne (Nat.ne_of_lt lt)]
        exact (hf b hb).1
  done := by
    intro X hP hw hK hc i pins s σ H E I hf st hg
    subst hP hw hK
    obtain ⟨⟨old, he⟩, hit, hne⟩ := st
    obtain ⟨xs, hq, hx⟩ := hg
    obtain ⟨its, rv, tp, hz⟩ := I.tuple hq
    obtain ⟨f0, f1, f2, f3, f4, f5⟩ := hf it (by simp)
    have len := rv.length
    have hT : s.TypeIs (.ref e) "enumerate" := ⟨_, he, rfl⟩
    have last : its.toArray[i]? = none := by
      rw [List.getElem?_toArray, List.getElem?_eq_none (by omega)]
    unfold pyNext
    refine wpAny_bind (wpAny_attempt (wpAny_callSpecial?_slot (name := Str.ofString "__next__") hT PySem.F.slot_enumerate_next
      (wpAny_call_entry PySem.F.slot_enumerate_next hT PySem.F.entry_enumerate_next ?_ (PySem.F.args_enumerate_next_1 _))))
    show wpAny _ _ (field (.ref e) 2 >>= _) _ _ _
    refine wpAny_bind (wpAny_field he rfl (x := .ref it) rfl (wpAny_bind (wpAny_nextOf_tuple_end (I.ok.hd hc) hit (show s.heap.IsTuple a its.toArray from tp) last fun h1 y kept ⟨o, ho, oc⟩ => ?_)))
    refine wpAny_bind (wpAny_isInstance (T := "StopIteration") (b := true) ⟨o, ho, oc⟩ isSubtype_stop (wpAny_pure ⟨rfl, ?_⟩))
    exact I.turned (t' := s.toks) (fun b o hb q => kept b o hb q) f0 f1 f3 f4 f5
  self := fun A i s Q E st h => by
    obtain ⟨⟨_, he⟩, _⟩ := st
    exact wpAny_pyIter_enum he h
set_option maxHeartbeats 4000000 in
/-- enumerate(v), v told by how it begins -/
theorem meets_enum1 {v : Value} {o : Obj} {G : Heap → Prop} (B : Begins v o G) : Meets (Builtin.«enumerate.__new__» ⟨[.type "enumerate", v], []⟩) (fun _ R s => G s.heap ∧
    R (.ok (.ret (.ref (s.heap.push o).objs.size))) { s with heap := (s.heap.push o).push { cls := .type "enumerate", data := .fields #[.none, .bool false, .ref s.heap.objs.size, rawInt 0, .none, .none] } }) :=
  .of_wp fun prog w A R ⟨hp, g, d, tk, os⟩ ⟨h1, h⟩ => by
    have sub := sub_enumerate
    have iter : ∀ {A2 : Around} {E2 : Value → Shared → Prop} {Q2 : Value → Shared → Prop}, Q2 (.ref hp.objs.size) ⟨hp.push o, g, d, tk, os⟩ → wpAny (model prog w) A2 (pyIter v) Q2 E2 ⟨hp, g, d, tk, os⟩ := fun q => B.iter prog w _ _ ⟨hp, g, d, tk, os⟩ _ h1 q
    wp_walk using iter
    refine wpAny_stack_any fun st => wpAny_pure ?_
    split
    · rename_i c _ _ _ _ _
      by_cases z : (c == Value.type "enumerate") = true
      · rw [z]
        wp_walk using iter
        exact ⟨_, rfl, h⟩
      · rw [Bool.eq_false_iff.mpr z]
        wp_walk using iter
        exact ⟨_, rfl, h⟩
    · wp_walk using iter
      exact ⟨_, rfl, h⟩
theorem enum1 {prog : Program} {w : World} {A : Around} {E : Value → Shared → Prop} {s : Shared} {v : Value} {o : Obj} {G : Heap → Prop} {Q : Value → Shared → Prop} (B : Begins v o G) (h1 : G s.heap)
    (h : ∀ h2, IsEnum h2 (s.heap.objs.size + 1) s.heap.objs.size 0 .none → h2.get? s.heap.objs.size = some o → (∀ b x, s.heap.get? b = some x → h2.get? b = some x) → Q (.ref (s.heap.objs.size + 1)) { s with heap := h2 }) :
    wpAny (model prog w) A (call (.type "enumerate") [v]) Q E s := by
  have z : (s.heap.push o).objs.size = s.heap.objs.size + 1 := Heap.size_push ..
  have he : IsEnum ((s.heap.push o).push { cls := .type "enumerate", data := .fields #[.none, .bool false, .ref s.heap.objs.size, rawInt 0, .none, .none] }) (s.heap.objs.size + 1) s.heap.objs.size 0 .none := by
    have q := Heap.get?_push_size (s.heap.push o) (o := { cls := .type "enumerate", data := .fields #[.none, .bool false, .ref s.heap.objs.size, rawInt 0, .none, .none] }) rfl
    rwa [z] at q
  refine callType_new PySem.F.called_enumerate (by decide) (PySem.F.typeCall_enumerate_1 _) (PySem.F.newCall_enumerate_1 _) (fun obj => PySem.F.args_object_init_2 obj _) PySem.F.entry_enumerate_new (meets_enum1 B) ⟨h1, ?_⟩
  show _ ∧ _
  rw [z]
  exact ⟨⟨_, he, rfl⟩, h _ he (Heap.get?_push_of_some _ (Heap.get?_push_size _ B.free)) fun b x e => Heap.get?_push_of_some _ (Heap.get?_push_of_some _ e)⟩
def iEnumT (K : PySem.W.Frag) (ta : TA) : TI := fun σ H R => ta σ H fun vs H1 => ∃ a xs, vs = [.ref a] ∧ SqT K H1 a xs ∧ R (IteT K a 0) H1
theorem pi_enumT {X : Cx} {e : Expr} {ta : TA} {p pos tpos : Pos} {elts : List Expr} {kk : Nat} (hg : Gl X "enumerate") (hm : X.mg "enumerate" = none) (ha : PA X [e] ta) (hs : starEach [e] X.env = [(false, eval e X.env)] := by rfl) :
    PI X (.Tuple elts kk tpos) (.Call (.Name "enumerate" p) [e] [] pos) (iEnumT X.K ta) := by
  refine ⟨fun pins s σ H R I h => Call_ (ld_blt I hg hm boot_enumerate (PyProof.Rows.callWith_type1 (thn (ha.run pos pins s σ H _ I h) fun us s1 ⟨vs, H1, I1, r1, a, xs, ex, hq, q⟩ => ?_) hs rfl))⟩
  subst ex
  cases r1 with
  | cons r rr =>
    cases rr
    cases r
    obtain ⟨its, rv, tp, hz⟩ := I1.tuple hq
    refine enum1 (begins_tuple a its.toArray) tp fun h2 he hit hk => wpAny_pyIter_enum he ?_
    have I2 : Inv X pins σ H1 { s1 with heap := h2 } := I1.kept (t' := s1.toks) hk
    refine ⟨s1.heap.objs.size + 1, [s1.heap.objs.size + 1, s1.heap.objs.size], _, _, H1, rfl, I2, turn_enumT a (s1.heap.objs.size + 1) s1.heap.objs.size, ⟨⟨.none, he⟩, ⟨_, hit, rfl, rfl⟩, Nat.succ_ne_self _⟩, fun b hb => ?_, q⟩
    have hle : s1.heap.objs.size ≤ b := by
      rcases List.mem_cons.mp hb with z | z
      · rw [z]; exact Nat.le_add_right _ _
      · rw [List.mem_singleton.mp z]; exact Nat.le_refl _
    exact I1.fpOk hle (I1.hok.fresh hle)
end Lk
end
section
/-! Coders, their steps, last goings, rings, rounds: mathematics. -/
namespace Lk
abbrev Cd := Nat × List Nat
def COk (c : Cd) : Prop := c.1 < c.2.length
def len (c : Cd) (i : Nat) : Nat := c.2.getD i 0
def nx (c : Cd) : Cd := ((c.1 + (len c c.1 + 1)) % c.2.length, c.2.set c.1 (len c c.1 + 1))
def it : Nat → Cd → Cd
  | 0, c => c
  | n + 1, c => it n (nx c)
def go (c : Cd) (i : Nat) : Nat := (i + len c i) % c.2.length
def gon (c : Cd) : Nat → Nat → Nat
  | 0, i => i
  | n + 1, i => gon c n (go c i)
theorem nx_len {c : Cd} : (nx c).2.length = c.2.length := List.length_set
theorem it_len : ∀ (n : Nat) {c : Cd}, (it n c).2.length = c.2.length
  | 0, _ => rfl
  | n + 1, c => (it_len n).trans nx_len
theorem nx_ok {c : Cd} (h : COk c) : COk (nx c) := by
  have h0 : 0 < c.2.length := Nat.lt_of_le_of_lt (Nat.zero_le _) h
  show _ % _ < (nx c).2.length
  rw [nx_len]
  exact Nat.mod_lt _ h0
theorem it_ok : ∀ (n : Nat) {c : Cd}, COk c → COk (it n c)
  | 0, _, h => h
  | n + 1, _, h => it_ok n (nx_ok h)
theorem it_add : ∀ (n m : Nat) (c : Cd), it (n + m) c = it m (it n c)
  | 0, m, c => by rw [Nat.zero_add]; rfl
  | n + 1, m, c => by
    rw [show n + 1 + m = (n + m) + 1 by omega]
    exact it_add n m (nx c)
theorem it_succ (n : Nat) (c : Cd) : it (n + 1) c = nx (it n c) := it_add n 1 c
theorem gon_add (c : Cd) : ∀ (n m i : Nat), gon c (n + m) i = gon c m (gon c n i)
  | 0, m, i => by rw [Nat.zero_add]; rfl
  | n + 1, m, i => by
    rw [show n + 1 + m = (n + m) + 1 by omega]
    exact gon_add c n m (go c i)
theorem gon_succ (c : Cd) (n i : Nat) : gon c (n + 1) i = go c (gon c n i) := gon_add c n 1 i
theorem len_nx_same {c : Cd} (h : COk c) : len (nx c) c.1 = len c c.1 + 1 := by
  show (c.2.set c.1 _).getD c.1 0 = _
  rw [List.getD_eq_getElem?_getD, List.getElem?_set_self h]
  rfl
theorem len_nx_ne {c : Cd} {i : Nat} (h : i ≠ c.1) : len (nx c) i = len c i := by
  show (c.2.set c.1 _).getD i 0 = c.2.getD i 0
  rw [List.getD_eq_getElem?_getD, List.getD_eq_getElem?_getD, List.getElem?_set_ne (Ne.symm h)]
theorem go_nx_ne {c : Cd} {i : Nat} (h : i ≠ c.1) : go (nx c) i = go c i := by
  unfold go
  rw [len_nx_ne h, nx_len]
theorem go_nx_same {c : Cd} (h : COk c) : go (nx c) c.1 = (nx c).1 := by
  unfold go
  rw [len_nx_same h, nx_len]
  rfl
/-- last goings lead from i to the coder's own place -/
def Rch (c : Cd) (i : Nat) : Prop := ∃ k, gon c k i = c.1
def Free (c : Cd) : Prop := ∀ i, i < c.2.length → Rch c i
theorem rch_nx {c : Cd} (h : COk c) {i : Nat} : Rch c i → Rch (nx c) i := by
  rintro ⟨k, e⟩
  induction k generalizing i with
  | zero =>
    refine ⟨1, ?_⟩
    show go (nx c) i = _
    rw [show i = c.1 from e]
    exact go_nx_same h
  | succ k ih =>
    by_cases g : i = c.1
    · refine ⟨1, ?_⟩
      show go (nx c) i = _
      rw [g]
      exact go_nx_same h
    · obtain ⟨m, q⟩ := ih e
      refine ⟨m + 1, ?_⟩
      show gon (nx c) m (go (nx c) i) = _
      rw [go_nx_ne g]
      exact q
theorem rch_it : ∀ (n : Nat) {c : Cd}, COk c → ∀ {i}, Rch c i → Rch (it n c) i
  | 0, _, _, _, r => r
  | n + 1, _, h, _, r => rch_it n (nx_ok h) (rch_nx h r)
theorem free_nx {c : Cd} (h : COk c) (f : Free c) : Free (nx c) := fun i hi => rch_nx h (f i (by rw [nx_len] at hi; exact hi))
theorem free_it : ∀ (n : Nat) {c : Cd}, COk c → Free c → Free (it n c)
  | 0, _, _, f => f
  | n + 1, _, h, f => free_it n (nx_ok h) (free_nx h f)
/-- where the coder has been is led to where it is -/
theorem rch_been {c : Cd} (h : COk c) {n t : Nat} (ht : t ≤ n) : Rch (it n c) (it t c).1 := by
  obtain ⟨m, rfl⟩ := Nat.exists_eq_add_of_le ht
  rw [it_add]
  exact rch_it m (it_ok t h) ⟨0, rfl⟩
theorem len_mono1 {c : Cd} (i : Nat) (h : COk c) : len c i ≤ len (nx c) i := by
  by_cases g : i = c.1
  · rw [g, len_nx_same h]; omega
  · rw [len_nx_ne g]; exact Nat.le_refl _
theorem len_mono : ∀ (n : Nat) {c : Cd} (i : Nat), COk c → len c i ≤ len (it n c) i
  | 0, _, _, _ => Nat.le_refl _
  | n + 1, _, i, h => Nat.le_trans (len_mono1 i h) (len_mono n i (nx_ok h))
/-- each length that a place came to was a step -/
theorem step_of : ∀ (n : Nat) {c : Cd} (i v : Nat), COk c → len c i < v → v ≤ len (it n c) i → ∃ t, t < n ∧ (it t c).1 = i ∧ (it (t + 1) c).1 = (i + v) % c.2.length
  | 0, _, _, _, _, h1, h2 => absurd (Nat.lt_of_lt_of_le h1 h2) (Nat.lt_irrefl _)
  | n + 1, c, i, v, h, h1, h2 => by
    by_cases g : v ≤ len (nx c) i
    · have gi : i = c.1 := by
        refine Classical.byContradiction fun z => ?_
        rw [len_nx_ne z] at g
        omega
      refine ⟨0, Nat.succ_pos _, gi.symm, ?_⟩
      show (nx c).1 = _
      rw [gi, len_nx_same h] at g
      have e : v = len c c.1 + 1 := by rw [gi] at h1; omega
      rw [gi, e]
      rfl
    · obtain ⟨t, a, b, d⟩ := step_of n i v (nx_ok h) (by omega) h2
      refine ⟨t + 1, by omega, b, ?_⟩
      rw [nx_len] at d
      exact d
theorem sum_set : ∀ (l : List Nat) (i v : Nat), i < l.length → (l.set i v).sum + l.getD i 0 = l.sum + v
  | a :: r, 0, v, _ => by
    show v + r.sum + a = a + r.sum + v
    omega
  | a :: r, i + 1, v, h => by
    have ih := sum_set r i v (by simpa using h)
    show a + (r.set i v).sum + r.getD i 0 = a + r.sum + v
    omega
theorem sum_nx {c : Cd} (h : COk c) : (nx c).2.sum = c.2.sum + 1 := by
  have z := sum_set c.2 c.1 (len c c.1 + 1) h
  have e : c.2.getD c.1 0 = len c c.1 := rfl
  show (c.2.set c.1 _).sum = _
  omega
theorem sum_it : ∀ (n : Nat) {c : Cd}, COk c → (it n c).2.sum = c.2.sum + n
  | 0, _, _ => rfl
  | n + 1, c, h => by
    show (it n (nx c)).2.sum = _
    rw [sum_it n (nx_ok h), sum_nx h]
    omega
theorem sum_le : ∀ {a b : List Nat}, a.length = b.length → (∀ i, i < b.length → a.getD i 0 ≤ b.getD i 0) → a.sum ≤ b.sum
  | [], [], _, _ => Nat.le_refl _
  | x :: a, y :: b, hl, h => by
    have h0 : x ≤ y := h 0 (by simp)
    have h1 : a.sum ≤ b.sum := sum_le (by simpa using hl) fun i hi => h (i + 1) (by simpa using hi)
    show x + a.sum ≤ y + b.sum
    omega
theorem sum_map_add (k : Nat) : ∀ l : List Nat, (l.map (· + k)).sum = l.sum + l.length * k
  | [] => by simp
  | a :: r => by
    have ih := sum_map_add k r
    show a + k + (r.map (· + k)).sum = a + r.sum + (r.length + 1) * k
    rw [ih, Nat.add_mul]
    omega
theorem getD_map_add (k : Nat) (l : List Nat) {i : Nat} (h : i < l.length) : (l.map (· + k)).getD i 0 = l.getD i 0 + k := by
  rw [List.getD_eq_getElem?_getD, List.getD_eq_getElem?_getD, List.getElem?_map, List.getElem?_eq_getElem h]
  rfl
/-- among p lengths in a row one leads to q -/
theorem some_to {p : Nat} (i a q : Nat) (hq : q < p) : ∃ v, a < v ∧ v ≤ a + p ∧ (i + v) % p = q := by
  have hp : 0 < p := by omega
  have hr := Nat.mod_lt (i + a + 1) hp
  by_cases g : (i + a + 1) % p ≤ q
  · refine ⟨a + 1 + (q - (i + a + 1) % p), by omega, by omega, ?_⟩
    rw [show i + (a + 1 + (q - (i + a + 1) % p)) = (i + a + 1) + (q - (i + a + 1) % p) by omega, Nat.add_mod, Nat.mod_eq_of_lt (show q - (i + a + 1) % p < p by omega),
      show (i + a + 1) % p + (q - (i + a + 1) % p) = q by omega, Nat.mod_eq_of_lt hq]
  · refine ⟨a + 1 + (p + q - (i + a + 1) % p), by omega, by omega, ?_⟩
    rw [show i + (a + 1 + (p + q - (i + a + 1) % p)) = (i + a + 1) + (p + q - (i + a + 1) % p) by omega, Nat.add_mod, Nat.mod_eq_of_lt (show p + q - (i + a + 1) % p < p by omega),
      show (i + a + 1) % p + (p + q - (i + a + 1) % p) = q + p by omega, Nat.add_mod_right, Nat.mod_eq_of_lt hq]
/-- behind so many steps every place has been come to -/
theorem been_all {c : Cd} (h : COk c) {n : Nat} (hn : (c.2.length - 1) * (c.2.length - 1) + 1 ≤ n) {q : Nat} (hq : q < c.2.length) : ∃ t, t ≤ n ∧ (it t c).1 = q := by
  refine Classical.byContradiction fun no => ?_
  have no' : ∀ t, t ≤ n → (it t c).1 ≠ q := fun t ht e => no ⟨t, ht, e⟩
  have lim : ∀ i, len (it n c) i < len c i + c.2.length := fun i => by
    refine Classical.byContradiction fun g => ?_
    obtain ⟨v, v1, v2, v3⟩ := some_to i (len c i) q hq
    obtain ⟨t, t1, _, t3⟩ := step_of n i v h v1 (by omega)
    exact no' (t + 1) (by omega) (t3.trans v3)
  have stay : len (it n c) q ≤ len c q := by
    refine Classical.byContradiction fun g => ?_
    obtain ⟨t, t1, t2, _⟩ := step_of n q (len c q + 1) h (by omega) (by omega)
    exact no' t (by omega) t2
  have hs := sum_it n h
  have hB : (it n c).2.sum ≤ ((c.2.map (· + (c.2.length - 1))).set q (len c q)).sum := by
    refine sum_le (by rw [it_len, List.length_set, List.length_map]) fun i hi => ?_
    rw [List.length_set, List.length_map] at hi
    by_cases g : i = q
    · rw [g, List.getD_eq_getElem?_getD (l := List.set _ _ _), List.getElem?_set_self (by rw [List.length_map]; exact hq)]
      exact stay
    · rw [List.getD_eq_getElem?_getD (l := List.set _ _ _), List.getElem?_set_ne (Ne.symm g), ← List.getD_eq_getElem?_getD, getD_map_add _ _ hi]
      have z := lim i
      show len (it n c) i ≤ len c i + (c.2.length - 1)
      omega
  have e1 := sum_set (c.2.map (· + (c.2.length - 1))) q (len c q) (by rw [List.length_map]; exact hq)
  rw [getD_map_add _ _ hq, sum_map_add] at e1
  have e2 : c.2.getD q 0 = len c q := rfl
  have e3 : c.2.length * (c.2.length - 1) = (c.2.length - 1) * (c.2.length - 1) + (c.2.length - 1) := by
    obtain ⟨m, hm⟩ : ∃ m, c.2.length = m + 1 := ⟨c.2.length - 1, by omega⟩
    rw [hm, Nat.add_sub_cancel, Nat.add_mul, Nat.one_mul]
  omega
theorem free_late {c : Cd} (h : COk c) {n : Nat} (hn : (c.2.length - 1) * (c.2.length - 1) + 1 ≤ n) : Free (it n c) := fun i hi => by
  rw [it_len] at hi
  obtain ⟨t, ht, e⟩ := been_all h hn hi
  rw [← e]
  exact rch_been h ht
end Lk
end
section
/-! Rounds come again; rings. -/
namespace Lk
def S : Nat → (Nat → Nat) → Nat
  | 0, _ => 0
  | n + 1, f => S n f + f n
theorem S_congr : ∀ (p : Nat) {f g : Nat → Nat}, (∀ i, i < p → f i = g i) → S p f = S p g
  | 0, _, _, _ => rfl
  | n + 1, f, g, h => by
    show S n f + f n = S n g + g n
    rw [S_congr n fun i hi => h i (by omega), h n (by omega)]
theorem S_upd : ∀ (p : Nat) {f g : Nat → Nat} (j : Nat), j < p → (∀ i, i < p → i ≠ j → f i = g i) → S p f + g j = S p g + f j
  | n + 1, f, g, j, hj, h => by
    show S n f + f n + g j = S n g + g n + f j
    by_cases e : j = n
    · subst e
      rw [S_congr j (f := f) (g := g) fun i hi => h i (by omega) (by omega)]
      omega
    · have ih := S_upd n j (by omega) fun i hi => h i (by omega)
      have e2 := h n (by omega) (Ne.symm e)
      omega
theorem S_le : ∀ (p : Nat) {f : Nat → Nat}, (∀ i, i < p → f i ≤ 1) → S p f ≤ p
  | 0, _, _ => Nat.le_refl _
  | n + 1, f, h => by
    have ih := S_le n fun i hi => h i (by omega)
    have z := h n (by omega)
    show S n f + f n ≤ n + 1
    omega
theorem S_one : ∀ (p : Nat) {f : Nat → Nat}, (∀ i, i < p → f i ≤ 1) → S p f = p → ∀ i, i < p → f i = 1
  | n + 1, f, h, e, i, hi => by
    have ih := S_le n fun i hi => h i (by omega)
    have z := h n (by omega)
    have e' : S n f + f n = n + 1 := e
    by_cases g : i = n
    · rw [g]; omega
    · exact S_one n (fun i hi => h i (by omega)) (by omega) i (by omega)
theorem S_add : ∀ (p : Nat) (f g : Nat → Nat), S p (fun i => f i + g i) = S p f + S p g
  | 0, _, _ => rfl
  | n + 1, f, g => by
    show S n (fun i => f i + g i) + (f n + g n) = S n f + f n + (S n g + g n)
    rw [S_add n]
    omega
theorem S_zero : ∀ (p : Nat) {f : Nat → Nat}, (∀ i, i < p → f i = 0) → S p f = 0
  | 0, _, _ => rfl
  | n + 1, f, h => by
    show S n f + f n = 0
    rw [S_zero n fun i hi => h i (by omega), h n (by omega)]
theorem mod_ne {p m d : Nat} (h : (m + d) % p = m % p) (h0 : 0 < d) : p ≤ d := by
  have z := Nat.sub_mod_eq_zero_of_mod_eq h
  rw [Nat.add_sub_cancel_left] at z
  exact Nat.le_of_dvd h0 (Nat.dvd_of_mod_eq_zero z)
/-- how many of the k lengths behind a lead from i to x -/
def cw (p i x a : Nat) : Nat → Nat
  | 0 => 0
  | k + 1 => cw p i x a k + if (i + (a + k + 1)) % p = x then 1 else 0
theorem cw_pos {p i x a : Nat} : ∀ {k : Nat}, 0 < cw p i x a k → ∃ v, v < k ∧ (i + (a + v + 1)) % p = x
  | 0, h => absurd h (Nat.lt_irrefl _)
  | k + 1, h => by
    by_cases g : (i + (a + k + 1)) % p = x
    · exact ⟨k, Nat.lt_succ_self _, g⟩
    · have h' : 0 < cw p i x a k + if (i + (a + k + 1)) % p = x then 1 else 0 := h
      rw [if_neg g] at h'
      obtain ⟨v, a1, a2⟩ := cw_pos (k := k) h'
      exact ⟨v, by omega, a2⟩
theorem cw_of {p i x a v : Nat} : ∀ {k : Nat}, v < k → (i + (a + v + 1)) % p = x → 0 < cw p i x a k
  | k + 1, h, e => by
    show 0 < cw p i x a k + if (i + (a + k + 1)) % p = x then 1 else 0
    by_cases g : v = k
    · rw [← g, if_pos e]; omega
    · have z := cw_of (k := k) (by omega) e
      omega
theorem cw_le {p i x a : Nat} : ∀ {k : Nat}, k ≤ p → cw p i x a k ≤ 1
  | 0, _ => Nat.zero_le _
  | k + 1, h => by
    have ih := cw_le (p := p) (i := i) (x := x) (a := a) (k := k) (by omega)
    show cw p i x a k + (if (i + (a + k + 1)) % p = x then 1 else 0) ≤ 1
    by_cases g : (i + (a + k + 1)) % p = x
    · rw [if_pos g]
      have z : cw p i x a k = 0 := by
        refine Nat.eq_zero_of_not_pos fun q => ?_
        obtain ⟨v, hv, e⟩ := cw_pos q
        have w := mod_ne (p := p) (m := i + (a + v + 1)) (d := k - v) (by rw [show i + (a + v + 1) + (k - v) = i + (a + k + 1) by omega, g, e]) (by omega)
        omega
      omega
    · rw [if_neg g]; omega
/-- who is led to x by its last going and has given one to x has given all -/
theorem cw_last {p i x a k : Nat} (hk : k ≤ p) (h : (i + a) % p = x) (h1 : cw p i x a k = 1) : k = p := by
  obtain ⟨v, hv, e⟩ := cw_pos (p := p) (i := i) (x := x) (a := a) (k := k) (by omega)
  have w := mod_ne (p := p) (m := i + a) (d := v + 1) (by rw [show i + a + (v + 1) = i + (a + v + 1) by omega, e, h]) (by omega)
  omega
def ind (b : Prop) [Decidable b] : Nat := if b then 1 else 0
/-- what comes to a place, what goes from it -/
theorem flow : ∀ (n : Nat) {c : Cd}, COk c → ∀ x, x < c.2.length →
    S c.2.length (fun i => cw c.2.length i x (len c i) (len (it n c) i - len c i)) + ind (x = c.1) = (len (it n c) x - len c x) + ind (x = (it n c).1)
  | 0, c, _, x, _ => by
    rw [S_zero c.2.length fun i _ => by show cw _ i x _ (len c i - len c i) = 0; rw [Nat.sub_self]; rfl]
    show 0 + _ = (len c x - len c x) + _
    rw [Nat.sub_self]
    rfl
  | n + 1, c, h, x, hx => by
    have ih := flow n h x hx
    have ho : COk (it n c) := it_ok n h
    rw [it_succ]
    have hj : (it n c).1 < c.2.length := by have z := ho; unfold COk at z; rw [it_len] at z; exact z
    have m := len_mono n (it n c).1 h
    have e1 := S_upd c.2.length (f := fun i => cw c.2.length i x (len c i) (len (nx (it n c)) i - len c i)) (g := fun i => cw c.2.length i x (len c i) (len (it n c) i - len c i)) (it n c).1 hj fun i _ hne => by
      show cw _ i x _ (len (nx (it n c)) i - len c i) = _
      rw [len_nx_ne hne]
    have e2 : cw c.2.length (it n c).1 x (len c (it n c).1) (len (nx (it n c)) (it n c).1 - len c (it n c).1) = cw c.2.length (it n c).1 x (len c (it n c).1) (len (it n c) (it n c).1 - len c (it n c).1) + ind (x = (nx (it n c)).1) := by
      rw [len_nx_same ho, show len (it n c) (it n c).1 + 1 - len c (it n c).1 = (len (it n c) (it n c).1 - len c (it n c).1) + 1 by omega]
      show cw _ _ _ _ _ + _ = _
      congr 1
      have e : (nx (it n c)).1 = ((it n c).1 + (len c (it n c).1 + (len (it n c) (it n c).1 - len c (it n c).1) + 1)) % c.2.length := by
        show ((it n c).1 + (len (it n c) (it n c).1 + 1)) % (it n c).2.length = _
        rw [it_len]
        congr 1
        omega
      rw [e]
      unfold ind
      by_cases g : ((it n c).1 + (len c (it n c).1 + (len (it n c) (it n c).1 - len c (it n c).1) + 1)) % c.2.length = x
      · rw [if_pos g, if_pos g.symm]
      · rw [if_neg g, if_neg (Ne.symm g)]
    have e3 : len (nx (it n c)) x - len c x = (len (it n c) x - len c x) + ind (x = (it n c).1) := by
      unfold ind
      by_cases g : x = (it n c).1
      · rw [if_pos g, g, len_nx_same ho]
        omega
      · rw [if_neg g, len_nx_ne g]
        omega
    rw [e3]
    omega
/-- no place has begun more than p words -/
def Bd (c : Cd) (n : Nat) : Prop := ∀ i, i < c.2.length → len (it n c) i ≤ len c i + c.2.length
theorem cw_bd {c : Cd} {n : Nat} (b : Bd c n) (x : Nat) : ∀ i, i < c.2.length → cw c.2.length i x (len c i) (len (it n c) i - len c i) ≤ 1 := fun i hi => cw_le (by have z := b i hi; omega)
theorem home_of {c : Cd} (h : COk c) {n : Nat} (b : Bd c n) (e : len (it n c) (it n c).1 = len c (it n c).1 + c.2.length) : (it n c).1 = c.1 := by
  refine Classical.byContradiction fun g => ?_
  have hj : (it n c).1 < c.2.length := by have z := it_ok n h; unfold COk at z; rw [it_len] at z; exact z
  have f := flow n h (it n c).1 hj
  have z := S_le _ (cw_bd b (it n c).1)
  unfold ind at f
  rw [if_neg g, if_pos rfl, e] at f
  omega
theorem full_of {c : Cd} (h : COk c) {n : Nat} (b : Bd c n) (e : (it n c).1 = c.1) {x : Nat} (hx : x < c.2.length) (ex : len (it n c) x = len c x + c.2.length) {i : Nat} (hi : i < c.2.length) (hg : go c i = x) : len (it n c) i = len c i + c.2.length := by
  have f := flow n h x hx
  rw [e, ex] at f
  have z := S_one _ (cw_bd b x) (by omega) i hi
  have m := len_mono n i h
  have w := cw_last (by have z := b i hi; omega) hg z
  omega
theorem all_full {c : Cd} (h : COk c) (fr : Free c) {n : Nat} (b : Bd c n) (e : (it n c).1 = c.1) (eh : len (it n c) c.1 = len c c.1 + c.2.length) : ∀ i, i < c.2.length → len (it n c) i = len c i + c.2.length := by
  have hp : 0 < c.2.length := Nat.lt_of_le_of_lt (Nat.zero_le _) h
  have key : ∀ k i, i < c.2.length → gon c k i = c.1 → len (it n c) i = len c i + c.2.length := by
    intro k
    induction k with
    | zero =>
      intro i _ q
      rw [show i = c.1 from q]
      exact eh
    | succ k ih =>
      intro i hi q
      have hgo : go c i < c.2.length := Nat.mod_lt _ hp
      exact full_of h b e hgo (ih (go c i) hgo q) hi rfl
  intro i hi
  obtain ⟨k, q⟩ := fr i hi
  exact key k i hi q
theorem S_getD : ∀ (l : List Nat), S l.length (fun i => l.getD i 0) = l.sum := by
  intro l
  have key : ∀ (n : Nat), n ≤ l.length → S n (fun i => l.getD i 0) = (l.take n).sum := by
    intro n
    induction n with
    | zero => intro _; rfl
    | succ n ih =>
      intro hn
      show S n _ + l.getD n 0 = _
      rw [ih (by omega), List.take_add_one, List.getD_eq_getElem?_getD, List.getElem?_eq_getElem (by omega), List.sum_append]
      simp
  rw [key _ (Nat.le_refl _), List.take_length]
theorem S_const (k : Nat) : ∀ p, S p (fun _ => k) = p * k
  | 0 => by simp [S]
  | n + 1 => by
    show S n _ + k = _
    rw [S_const k n, Nat.add_mul, Nat.one_mul]
theorem S_mono : ∀ (p : Nat) {f g : Nat → Nat}, (∀ i, i < p → f i ≤ g i) → S p f ≤ S p g
  | 0, _, _, _ => Nat.le_refl _
  | n + 1, f, g, h => by
    have ih := S_mono n fun i hi => h i (by omega)
    have z := h n (by omega)
    show S n f + f n ≤ S n g + g n
    omega
theorem S_eq : ∀ (p : Nat) {f g : Nat → Nat}, (∀ i, i < p → f i ≤ g i) → S p f = S p g → ∀ i, i < p → f i = g i
  | n + 1, f, g, h, e, i, hi => by
    have ih := S_mono n (f := f) (g := g) fun i hi => h i (by omega)
    have z := h n (by omega)
    have e' : S n f + f n = S n g + g n := e
    by_cases w : i = n
    · rw [w]; omega
    · exact S_eq n (fun i hi => h i (by omega)) (by omega) i (by omega)
theorem sum_S {c : Cd} (n : Nat) : (it n c).2.sum = S c.2.length (fun i => len (it n c) i) := by
  rw [← S_getD, it_len]
  rfl
/-- ahead of p * p steps none has begun more than p -/
theorem bd_all {c : Cd} (h : COk c) (fr : Free c) : ∀ n, n ≤ c.2.length * c.2.length → Bd c n
  | 0, _ => fun i _ => by show len c i ≤ _; omega
  | n + 1, hn => by
    have b := bd_all h fr n (by omega)
    have ho := it_ok n h
    intro i hi
    rw [it_succ]
    by_cases g : i = (it n c).1
    · rw [g, len_nx_same ho]
      refine Classical.byContradiction fun z => ?_
      have bj := b i hi
      rw [g] at bj
      have e : len (it n c) (it n c).1 = len c (it n c).1 + c.2.length := by omega
      have e0 := home_of h b e
      have af := all_full h fr b e0 (by rw [e0] at e; exact e)
      have s1 := sum_it n h
      rw [sum_S, S_congr _ af, S_add, S_const] at s1
      have s2 : S c.2.length (len c) = c.2.sum := S_getD c.2
      omega
    · rw [len_nx_ne g]
      exact b i hi
theorem it_round {c : Cd} (h : COk c) (fr : Free c) : it (c.2.length * c.2.length) c = (c.1, c.2.map (· + c.2.length)) := by
  have b := bd_all h fr _ (Nat.le_refl _)
  have s1 := sum_it (c.2.length * c.2.length) h
  have s2 : S c.2.length (len c) = c.2.sum := S_getD c.2
  have all : ∀ i, i < c.2.length → len (it (c.2.length * c.2.length) c) i = len c i + c.2.length := by
    refine S_eq c.2.length (f := fun i => len (it (c.2.length * c.2.length) c) i) (g := fun i => len c i + c.2.length) b ?_
    rw [S_add, S_const, ← sum_S]
    omega
  have hj : (it (c.2.length * c.2.length) c).1 < c.2.length := by have z := it_ok (c.2.length * c.2.length) h; unfold COk at z; rw [it_len] at z; exact z
  have e1 := home_of h b (all _ hj)
  refine Prod.ext e1 ?_
  refine List.ext_getElem? fun i => ?_
  by_cases hi : i < c.2.length
  · have z := all i hi
    unfold len at z
    rw [List.getD_eq_getElem?_getD, List.getD_eq_getElem?_getD, List.getElem?_eq_getElem (by rw [it_len]; exact hi), List.getElem?_eq_getElem hi] at z
    rw [List.getElem?_eq_getElem (by rw [it_len]; exact hi), List.getElem?_map, List.getElem?_eq_getElem hi]
    exact congrArg some z
  · rw [List.getElem?_eq_none (by rw [it_len]; omega), List.getElem?_eq_none (by rw [List.length_map]; omega)]
/-- who comes again is free -/
theorem free_again {c : Cd} (h : COk c) (e : it (c.2.length * c.2.length) c = (c.1, c.2.map (· + c.2.length))) : Free c := by
  have hp : 0 < c.2.length := Nat.lt_of_le_of_lt (Nat.zero_le _) h
  have lenE : ∀ i, i < c.2.length → len (it (c.2.length * c.2.length) c) i = len c i + c.2.length := fun i hi => by
    rw [e]
    exact getD_map_add _ _ hi
  have fr : Free (it (c.2.length * c.2.length) c) := fun i hi => by
    rw [it_len] at hi
    obtain ⟨t, t1, t2, _⟩ := step_of (c.2.length * c.2.length) i (len c i + 1) h (by omega) (by rw [lenE i hi]; omega)
    rw [← t2]
    exact rch_been h (by omega)
  have goE : ∀ i, i < c.2.length → go (it (c.2.length * c.2.length) c) i = go c i := fun i hi => by
    unfold go
    rw [lenE i hi, it_len, ← Nat.add_assoc, Nat.add_mod_right]
  have gonE : ∀ k i, i < c.2.length → gon (it (c.2.length * c.2.length) c) k i = gon c k i := by
    intro k
    induction k with
    | zero => intro i _; rfl
    | succ k ih =>
      intro i hi
      show gon _ k (go _ i) = gon c k (go c i)
      rw [goE i hi]
      exact ih _ (Nat.mod_lt _ hp)
  intro i hi
  obtain ⟨k, q⟩ := fr i (by rw [it_len]; exact hi)
  rw [gonE k i hi] at q
  exact ⟨k, by rw [q, e]⟩
end Lk
end
section
/-! Rings of last goings. -/
namespace Lk
theorem go_lt {c : Cd} (h : COk c) (i : Nat) : go c i < c.2.length := Nat.mod_lt _ (Nat.lt_of_le_of_lt (Nat.zero_le _) h)
theorem gon_lt {c : Cd} (h : COk c) {i : Nat} (hi : i < c.2.length) : ∀ k, gon c k i < c.2.length
  | 0 => hi
  | k + 1 => by rw [gon_succ]; exact go_lt h _
/-- k goings from a lead round it, past places that are greater and not the coder's own -/
structure RingK (c : Cd) (a k : Nat) : Prop where
  pos : 0 < k
  home : ∀ j, j < k → gon c j a ≠ c.1
  least : ∀ j, 0 < j → j < k → a < gon c j a
  back : gon c k a = a
def ringL (c : Cd) (a k : Nat) : List Nat := (List.range k).map fun j => gon c j a
def RingAt (c : Cd) (a : Nat) : Prop := ∃ k, RingK c a k
theorem ringK_never {c : Cd} {a k : Nat} (r : RingK c a k) : ∀ m, gon c m a ≠ c.1 := by
  intro m
  induction m using Nat.strongRecOn with
  | ind m ih =>
    by_cases g : m < k
    · exact r.home m g
    · have e : m = k + (m - k) := by omega
      rw [e, gon_add, r.back]
      exact ih (m - k) (by have := r.pos; omega)
theorem ringK_inj {c : Cd} {a k j : Nat} (r : RingK c a k) (s : RingK c a j) : k = j := by
  have key : ∀ {k j : Nat}, RingK c a k → RingK c a j → ¬ k < j := fun r s g => by
    have z := s.least _ r.pos g
    rw [r.back] at z
    omega
  have h1 := key r s
  have h2 := key s r
  omega
theorem ringL_nodup {c : Cd} {a k : Nat} (r : RingK c a k) : (ringL c a k).Nodup := by
  unfold ringL
  refine List.pairwise_map.mpr (List.Pairwise.imp_of_mem (R := fun i j => i < j) (fun {i j} hi hj hl e => ?_) List.pairwise_lt_range)
  rw [List.mem_range] at hi hj
  have z : gon c (i + (k - j)) a = a := by
    rw [gon_add, e, ← gon_add, show j + (k - j) = k by omega]
    exact r.back
  have w := r.least (i + (k - j)) (by omega) (by omega)
  omega
theorem nodup_below {l : List Nat} {p : Nat} (n : l.Nodup) (h : ∀ x ∈ l, x < p) : l.length ≤ p := by
  have z := List.Nodup.length_le_of_subset n (l₂ := List.range p) fun x hx => List.mem_range.mpr (h x hx)
  rw [List.length_range] at z
  exact z
theorem free_noring {c : Cd} (fr : Free c) {a : Nat} (ha : a < c.2.length) : ¬ RingAt c a := fun ⟨_, r⟩ => by
  obtain ⟨m, q⟩ := fr a ha
  exact ringK_never r m q
/-- the least number with a property -/
theorem least_of {Q : Nat → Prop} {n : Nat} (h : Q n) : ∃ m, Q m ∧ ∀ j, j < m → ¬ Q j := by
  induction n using Nat.strongRecOn with
  | ind n ih =>
    by_cases g : ∃ j, j < n ∧ Q j
    · obtain ⟨j, hj, q⟩ := g
      exact ih j hj q
    · exact ⟨n, h, fun j hj q => g ⟨j, hj, q⟩⟩
theorem repeats {p : Nat} {f : Nat → Nat} (h : ∀ m, f m < p) : ∃ j k, j < k ∧ f j = f k := by
  refine Classical.byContradiction fun no => ?_
  have nd : ((List.range (p + 1)).map f).Nodup :=
    List.pairwise_map.mpr (List.Pairwise.imp (R := fun i j => i < j) (fun {i j} hl e => no ⟨i, j, hl, e⟩) List.pairwise_lt_range)
  have z := nodup_below nd (p := p) fun x hx => by
    obtain ⟨m, _, e⟩ := List.mem_map.mp hx
    rw [← e]
    exact h m
  rw [List.length_map, List.length_range] at z
  omega
theorem ring_of {c : Cd} (h : COk c) {i : Nat} (hi : i < c.2.length) (no : ∀ m, gon c m i ≠ c.1) : ∃ a, a < c.2.length ∧ RingAt c a := by
  obtain ⟨j, k, hjk, e⟩ := repeats (f := fun m => gon c m i) fun m => gon_lt h hi m
  have per : gon c (k - j) (gon c j i) = gon c j i := by
    rw [← gon_add, show j + (k - j) = k by omega]
    exact e.symm
  obtain ⟨v, ⟨m0, e0⟩, hv⟩ := least_of (Q := fun v => ∃ m, gon c m (gon c j i) = v) ⟨0, rfl⟩
  have low : ∀ m, v ≤ gon c m v := fun m => by
    refine Nat.le_of_not_lt fun z => hv _ z ⟨m0 + m, ?_⟩
    rw [gon_add, e0]
  have hper : gon c (k - j) v = v := by
    rw [← e0, ← gon_add, Nat.add_comm, gon_add, per]
  obtain ⟨d, ⟨d0, d1⟩, hd⟩ := least_of (Q := fun d => 0 < d ∧ gon c d v = v) ⟨(by omega : 0 < k - j), hper⟩
  have hvlt : v < c.2.length := by rw [← e0]; exact gon_lt h (gon_lt h hi j) m0
  refine ⟨v, hvlt, d, d0, fun m _ => ?_, fun m m0 md => ?_, d1⟩
  · rw [← e0, ← gon_add, ← gon_add]
    exact no _
  · have z := low m
    have w : gon c m v ≠ v := fun z => hd m md ⟨m0, z⟩
    omega
theorem noring_free {c : Cd} (h : COk c) (no : ∀ a, a < c.2.length → ¬ RingAt c a) : Free c := fun i hi => by
  refine Classical.byContradiction fun z => ?_
  obtain ⟨a, ha, r⟩ := ring_of h hi fun m e => z ⟨m, e⟩
  exact no a ha r
/-- a walk from a, as far as it is told -/
structure PathK (c : Cd) (a : Nat) (k : Nat) : Prop where
  pos : 0 < k
  home : ∀ j, j < k → gon c j a ≠ c.1
  least : ∀ j, 0 < j → j < k → a < gon c j a
  nd : (ringL c a k).Nodup
theorem path_one {c : Cd} {a : Nat} (h : a ≠ c.1) : PathK c a 1 :=
  ⟨Nat.one_pos, fun j hj => by rw [show j = 0 by omega]; exact h, fun j h0 h1 => absurd h1 (by omega), List.pairwise_singleton _ _⟩
theorem ringL_succ {c : Cd} {a k : Nat} : ringL c a (k + 1) = ringL c a k ++ [gon c k a] := by
  unfold ringL
  rw [List.range_succ, List.map_append]
  rfl
theorem path_more {c : Cd} {a k : Nat} (r : PathK c a k) (h1 : a < gon c k a) (h2 : gon c k a ≠ c.1) (h3 : gon c k a ∉ ringL c a k) : PathK c a (k + 1) := by
  refine ⟨Nat.succ_pos _, fun j hj => ?_, fun j h0 hj => ?_, ?_⟩
  · by_cases g : j < k
    · exact r.home j g
    · rw [show j = k by omega]; exact h2
  · by_cases g : j < k
    · exact r.least j h0 g
    · rw [show j = k by omega]; exact h1
  · rw [ringL_succ]
    refine List.nodup_append.mpr ⟨r.nd, List.pairwise_singleton _ _, fun x hx y hy e => ?_⟩
    rw [List.mem_singleton] at hy
    exact h3 (by rw [← hy, ← e]; exact hx)
theorem path_len {c : Cd} (h : COk c) {a k : Nat} (ha : a < c.2.length) (r : PathK c a k) : k ≤ c.2.length := by
  have z := nodup_below r.nd (p := c.2.length) fun x hx => by
    obtain ⟨m, _, e⟩ := List.mem_map.mp hx
    rw [← e]
    exact gon_lt h ha m
  unfold ringL at z
  rw [List.length_map, List.length_range] at z
  exact z
/-- the walk ended: it is a ring just where it came back -/
theorem path_ring {c : Cd} {a k : Nat} (r : PathK c a k) (e : gon c k a = a) : RingK c a k := ⟨r.pos, r.home, r.least, e⟩
theorem path_none {c : Cd} {a k : Nat} (r : PathK c a k) (hend : ¬ (a < gon c k a ∧ gon c k a ≠ c.1 ∧ gon c k a ∉ ringL c a k)) (e : gon c k a ≠ a) : ¬ RingAt c a := fun ⟨d, s⟩ => by
  have hkd : k < d := by
    refine Classical.byContradiction fun g => ?_
    by_cases g2 : d < k
    · have z := r.least d s.pos g2
      rw [s.back] at z
      omega
    · have : d = k := by omega
      rw [← this, s.back] at e
      exact e rfl
  refine hend ⟨s.least k r.pos hkd, s.home k hkd, fun hm => ?_⟩
  have nd := ringL_nodup s
  obtain ⟨j, hj, ej⟩ := List.mem_map.mp hm
  rw [List.mem_range] at hj
  have z : gon c (j + (d - k)) a = a := by
    rw [gon_add, ej, ← gon_add, show k + (d - k) = d by omega]
    exact s.back
  have w := s.least (j + (d - k)) (by omega) (by omega)
  omega
/-- what ring_from tells -/
def RingFrom (c : Cd) (a : Nat) (r : Option (List Nat)) : Prop := (∃ k, RingK c a k ∧ r = some (ringL c a k)) ∨ (¬ RingAt c a ∧ r = none)
/-- what ring tells -/
def RingOf (c : Cd) (r : Option (List Nat)) : Prop := (∃ a k, a < c.2.length ∧ RingK c a k ∧ (∀ b, b < a → ¬ RingAt c b) ∧ r = some (ringL c a k)) ∨ ((∀ a, a < c.2.length → ¬ RingAt c a) ∧ r = none)
theorem ringOf_free {c : Cd} (h : COk c) {r : Option (List Nat)} (q : RingOf c r) : r = none ↔ Free c := by
  rcases q with ⟨a, k, ha, rk, _, rfl⟩ | ⟨no, rfl⟩
  · exact ⟨fun z => (by cases z), fun fr => absurd ⟨k, rk⟩ (free_noring fr ha)⟩
  · exact ⟨fun _ => noring_free h no, fun _ => rfl⟩
/-- how many steps a coder takes at least till it is free -/
def Ahead (c : Cd) (n : Nat) : Prop := Free (it n c) ∧ ∀ m, m < n → ¬ Free (it m c)
theorem ahead_le {c : Cd} (h : COk c) {n : Nat} (a : Ahead c n) : n ≤ (c.2.length - 1) * (c.2.length - 1) + 1 :=
  Nat.le_of_not_lt fun z => a.2 _ z (free_late h (Nat.le_refl _))
theorem ahead_is {c : Cd} (h : COk c) : ∃ n, Ahead c n := least_of (free_late h (Nat.le_refl _))
theorem ahead_one {c : Cd} {n m : Nat} (a : Ahead c n) (b : Ahead c m) : n = m := by
  have h1 : ¬ n < m := fun z => b.2 _ z a.1
  have h2 : ¬ m < n := fun z => a.2 _ z b.1
  omega
end Lk
end
section
/-! Far steps, words. -/
namespace Lk
theorem it_rounds {c : Cd} (h : COk c) (fr : Free c) : ∀ R, it (R * (c.2.length * c.2.length)) c = (c.1, c.2.map (· + R * c.2.length))
  | 0 => by
    rw [Nat.zero_mul]
    refine Prod.ext rfl ?_
    show c.2 = _
    rw [show (fun n : Nat => n + 0 * c.2.length) = id from funext fun n => by simp, List.map_id]
  | R + 1 => by
    have e1 : it ((R + 1) * (c.2.length * c.2.length)) c = it (c.2.length * c.2.length) (it (R * (c.2.length * c.2.length)) c) := by
      rw [Nat.add_mul, Nat.one_mul, it_add]
    have h2 := it_ok (R * (c.2.length * c.2.length)) h
    have f2 := free_it (R * (c.2.length * c.2.length)) h fr
    have r := it_round h2 f2
    rw [it_len] at r
    rw [e1, r, it_rounds h fr R]
    refine Prod.ext rfl ?_
    show (c.2.map _).map _ = _
    rw [List.map_map]
    refine List.map_congr_left fun n _ => ?_
    show n + R * c.2.length + c.2.length = n + (R + 1) * c.2.length
    rw [Nat.add_mul, Nat.one_mul, Nat.add_assoc]
/-- as many whole rounds as may be taken at once -/
def rnds (p n : Nat) : Nat := (n - ((p - 1) * (p - 1) + 1)) / (p * p)
theorem rnds_le (p n : Nat) : rnds p n * (p * p) ≤ n := Nat.le_trans (Nat.div_mul_le_self _ _) (Nat.sub_le _ _)
theorem rnds_left (p n : Nat) (hp : 0 < p) : n - rnds p n * (p * p) < (p - 1) * (p - 1) + 1 + p * p := by
  have hpp : 0 < p * p := Nat.mul_pos hp hp
  have a := Nat.div_add_mod (n - ((p - 1) * (p - 1) + 1)) (p * p)
  have b := Nat.mod_lt (n - ((p - 1) * (p - 1) + 1)) hpp
  unfold rnds
  rw [Nat.mul_comm (p * p)] at a
  omega
theorem far {c : Cd} (h : COk c) (n : Nat) : it n c = ((it (n - rnds c.2.length n * (c.2.length * c.2.length)) c).1, (it (n - rnds c.2.length n * (c.2.length * c.2.length)) c).2.map (· + rnds c.2.length n * c.2.length)) := by
  have hle := rnds_le c.2.length n
  have e : n = (n - rnds c.2.length n * (c.2.length * c.2.length)) + rnds c.2.length n * (c.2.length * c.2.length) := by omega
  by_cases g : rnds c.2.length n = 0
  · rw [g, Nat.zero_mul, Nat.zero_mul, Nat.sub_zero]
    refine Prod.ext rfl ?_
    show _ = List.map _ _
    rw [show (fun n : Nat => n + 0) = id from funext fun n => by simp, List.map_id]
  · have late : (c.2.length - 1) * (c.2.length - 1) + 1 ≤ n - rnds c.2.length n * (c.2.length * c.2.length) := by
      have z := Nat.div_mul_le_self (n - ((c.2.length - 1) * (c.2.length - 1) + 1)) (c.2.length * c.2.length)
      have y : 0 < n - ((c.2.length - 1) * (c.2.length - 1) + 1) := by
        refine Nat.pos_of_ne_zero fun q => g ?_
        unfold rnds
        rw [q, Nat.zero_div]
      unfold rnds
      omega
    have fr := free_late h late
    have r := it_rounds (it_ok (n - rnds c.2.length n * (c.2.length * c.2.length)) h) fr (rnds c.2.length n)
    rw [it_len] at r
    have e2 : it n c = it (rnds c.2.length n * (c.2.length * c.2.length)) (it (n - rnds c.2.length n * (c.2.length * c.2.length)) c) := by
      rw [← it_add, ← e]
    rw [e2, r]
/-- the word of a step -/
def wd (c : Cd) : Nat × Nat := (c.1, len c c.1 + 1)
def wds (n : Nat) (c : Cd) : List (Nat × Nat) := (List.range n).map fun t => wd (it t c)
theorem wds_len (n : Nat) (c : Cd) : (wds n c).length = n := by
  unfold wds
  rw [List.length_map, List.length_range]
theorem wds_succ (n : Nat) (c : Cd) : wds (n + 1) c = wds n c ++ [wd (it n c)] := by
  unfold wds
  rw [List.range_succ, List.map_append]
  rfl
end Lk
end
section
set_option maxRecDepth 100000
set_option maxHeartbeats 2000000
/-! Things as data; heaps; calls by name. -/
namespace Lk
open PySem PySem.Spec PyProof.Rows L2
mutual
/-- v is this data, all of it made in the run -/
inductive Th (H : Hp) : V → PyData → Prop
  | non : Th H .non .none
  | bl (b : Bool) : Th H (.bl b) (.bool b)
  | int (i : Int) : Th H (.int i) (.int i)
  | str (x : Str) : Th H (.str x) (.str x)
  | lst {a : Addr} {xs : List V} {ds : List PyData} (e : H a = some (.lst xs)) (m : ThAll H xs ds) : Th H (.ref a) (.list ds)
  | tup {a : Addr} {xs : List V} {ds : List PyData} (e : H a = some (.tup xs)) (m : ThAll H xs ds) : Th H (.ref a) (.tuple ds)
  | dct {a : Addr} (e : H a = some (.dK [])) : Th H (.ref a) (.dict [])
inductive ThAll (H : Hp) : List V → List PyData → Prop
  | nil : ThAll H [] []
  | cons {v : V} {vs : List V} {d : PyData} {ds : List PyData} (h : Th H v d) (m : ThAll H vs ds) : ThAll H (v :: vs) (d :: ds)
end
/-- what stands at addresses of P is as it was -/
def Keep (P : Addr → Prop) (H H2 : Hp) : Prop := ∀ b o, P b → H b = some o → H2 b = some o
mutual
theorem Th.same {H H2 : Hp} (s : Same H H2) : ∀ (d : PyData) {v : V}, Th H v d → Th H2 v d
  | .none, _, h => by cases h; exact .non
  | .bool b, _, h => by cases h; exact .bl b
  | .int i, _, h => by cases h; exact .int i
  | .str x, _, h => by cases h; exact .str x
  | .list ds, _, h => by
    cases h with
    | lst e m => exact .lst (s _ _ e) (ThAll.same s ds m)
  | .tuple ds, _, h => by
    cases h with
    | tup e m => exact .tup (s _ _ e) (ThAll.same s ds m)
  | .dict kvs, _, h => by
    cases h with
    | dct e => exact .dct (s _ _ e)
theorem ThAll.same {H H2 : Hp} (s : Same H H2) : ∀ (ds : List PyData) {vs : List V}, ThAll H vs ds → ThAll H2 vs ds
  | [], _, h => by cases h; exact .nil
  | d :: ds, _, h => by
    cases h with
    | cons a b => exact .cons (Th.same s d a) (ThAll.same s ds b)
end
mutual
theorem Th.dq {K : PySem.W.Frag} {H : Hp} : ∀ (d : PyData) {v : V}, Th H v d → Dq K H v d
  | .none, _, h => by cases h; exact .non
  | .bool b, _, h => by cases h; exact .bl b
  | .int i, _, h => by cases h; exact .int i
  | .str x, _, h => by cases h; exact .str x
  | .list ds, _, h => by
    cases h with
    | lst e m => exact .lst (SqL.of e) (ThAll.dq ds m)
  | .tuple ds, _, h => by
    cases h with
    | tup e m => exact .tup (SqT.of e) (ThAll.dq ds m)
  | .dict kvs, _, h => by
    cases h with
    | dct e => exact .dct e
theorem ThAll.dq {K : PySem.W.Frag} {H : Hp} : ∀ (ds : List PyData) {vs : List V}, ThAll H vs ds → DqAll K H vs ds
  | [], _, h => by cases h; exact .nil
  | d :: ds, _, h => by
    cases h with
    | cons a b => exact .cons (Th.dq d a) (ThAll.dq ds b)
end
theorem ThAll.length {H : Hp} : ∀ {vs : List V} {ds : List PyData}, ThAll H vs ds → vs.length = ds.length
  | _, _, .nil => rfl
  | _, _, .cons _ m => by rw [List.length_cons, List.length_cons, m.length]
theorem ThAll.get {H : Hp} : ∀ {vs : List V} {ds : List PyData}, ThAll H vs ds → ∀ {i : Nat} {v : V}, vs[i]? = some v → ∃ d, ds[i]? = some d ∧ Th H v d
  | _, _, .nil, i, v, h => by simp at h
  | _, _, .cons a m, 0, v, h => by
    cases h
    exact ⟨_, rfl, a⟩
  | _, _, .cons a m, i + 1, v, h => m.get (i := i) (by simpa using h)
theorem ThAll.get2 {H : Hp} : ∀ {vs : List V} {ds : List PyData}, ThAll H vs ds → ∀ {i : Nat} {d : PyData}, ds[i]? = some d → ∃ v, vs[i]? = some v ∧ Th H v d
  | _, _, .nil, i, v, h => by simp at h
  | _, _, .cons a m, 0, v, h => by
    cases h
    exact ⟨_, rfl, a⟩
  | _, _, .cons a m, i + 1, v, h => m.get2 (i := i) (by simpa using h)
theorem ThAll.append {H : Hp} : ∀ {vs us : List V} {ds es : List PyData}, ThAll H vs ds → ThAll H us es → ThAll H (vs ++ us) (ds ++ es)
  | _, _, _, _, .nil, h => h
  | _, _, _, _, .cons a m, h => .cons a (m.append h)
theorem ThAll.ints {H : Hp} : ∀ ns : List Int, ThAll H (ns.map V.int) (ns.map PyData.int)
  | [] => .nil
  | n :: ns => .cons (.int n) (.ints ns)
def tyN : PyData → String
  | .none => "NoneType"
  | .bool _ => "bool"
  | .int _ => "int"
  | .str _ => "str"
  | .list _ => "list"
  | .tuple _ => "tuple"
  | .dict _ => "dict"
theorem Th.ty {K : PySem.W.Frag} {H : Hp} {v : V} {d : PyData} (h : Th H v d) : TyX K H v (.type (tyN d)) := by
  cases h with
  | non => exact .base .non
  | bl b => exact .base (.bl b)
  | int i => exact .base (.int i)
  | str x => exact .base (.str x)
  | lst e m => exact .base (.lst e)
  | tup e m => exact .base (.tup e)
  | dct e => exact .base (.dK e)
def isT : PyData → Bool
  | .tuple _ => true
  | _ => false
def isL : PyData → Bool
  | .list _ => true
  | _ => false
def isI : PyData → Bool
  | .int _ => true
  | .bool _ => true
  | _ => false
def isB : PyData → Bool
  | .bool _ => true
  | _ => false
theorem kit_tuple {K : PySem.W.Frag} (d : PyData) : PySem.W.kitOne K (.type (tyN d)) (.type "tuple") = some (isT d) := kit_ty (by cases d <;> (simp only [tyN, isT]; decide +kernel))
theorem kit_list {K : PySem.W.Frag} (d : PyData) : PySem.W.kitOne K (.type (tyN d)) (.type "list") = some (isL d) := kit_ty (by cases d <;> (simp only [tyN, isL]; decide +kernel))
theorem kit_int {K : PySem.W.Frag} (d : PyData) : PySem.W.kitOne K (.type (tyN d)) (.type "int") = some (isI d) := kit_ty (by cases d <;> (simp only [tyN, isI]; decide +kernel))
theorem kit_bool {K : PySem.W.Frag} (d : PyData) : PySem.W.kitOne K (.type (tyN d)) (.type "bool") = some (isB d) := kit_ty (by cases d <;> (simp only [tyN, isB]; decide +kernel))
/-! ### heaps -/
/-- all but what stands at a is as it was -/
def SameBut (a : Addr) (H H' : Hp) : Prop := ∀ b o, b ≠ a → H b = some o → H' b = some o
theorem SameBut.trans {a : Addr} {H H1 H2 : Hp} (x : SameBut a H H1) (y : SameBut a H1 H2) : SameBut a H H2 := fun b o n e => y b o n (x b o n e)
theorem SameBut.refl {a : Addr} {H : Hp} : SameBut a H H := fun _ _ _ e => e
theorem sameBut_upd {a : Addr} {H : Hp} {o : HO} : SameBut a H (upd H a o) := fun b u n e => by rw [upd_ne n]; exact e
theorem same_new {p : Addr} {H : Hp} {o : HO} (h : H p = none) : Same H (upd H p o) := fun b u e => by rw [upd_ne (ne_of_none e h)]; exact e
theorem same_push {H H1 : Hp} {D : Addr} {o : HO} (s : Same H H1) (hD : H D = none) : Same H (upd H1 D o) := fun b u e => by
  rw [upd_ne (ne_of_none e hD)]
  exact s b u e
theorem Same.but {a : Addr} {H H' : Hp} (h : Same H H') : SameBut a H H' := fun b o _ e => h b o e
/-! ### a def that may raise, by its name -/
structure CalX (P : Program) (w : World) (K : PySem.W.Frag) (mg : Str → Option Value) (base : Heap) (k : Nat) (x : Str) (sp : Sp) : Prop where
  ex : ∃ (f : Addr) (fd : FuncData) (ps : List Str), FnOk P w K mg base (L2.CX P w) k f fd ps sp ∧ mg x = some (.ref f) ∧ PySem.W.keepIn K (.ref f) = true ∧ Binds K fd ps []
section
variable {X : Cx} {k j : Nat} {x : Str} {sp : Sp} {p pos : Pos} {e : Expr} {es : List Expr} {t : TA} {W : WX}
/-- .. what it raises is taken around -/
theorem pe_cX (c : CalX X.prog X.w X.K X.mg X.base k x sp) (tk : Takes X W) (hr : Room j X.A) (hk : k ≤ j) (hg : Gl X x) (ha : PA X (e :: es) t)
    (hdb : (x == ("__debug__" : Str)) = false := by decide) (he : starEach (e :: es) X.env = (false, eval e X.env) :: starEach es X.env := by rfl) (hpl : (backTo pos (starEach es X.env)).any (·.1) = false := by rfl) :
    PE X (.Call (.Name x p) (e :: es) [] pos) (tCallS sp (WE W) t) := by
  obtain ⟨f, fd, ps, F, hm, kp, b⟩ := c.ex
  exact pe_callS F (hr.mono hk) hg hm kp b (fun σ => passAt tk σ) ha hdb he hpl
/-- .. where it raises nothing -/
theorem pe_c0 (c : CalX X.prog X.w X.K X.mg X.base k x sp) (hr : Room j X.A) (hk : k ≤ j) (hg : Gl X x) (ha : PA X (e :: es) t)
    (hdb : (x == ("__debug__" : Str)) = false := by decide) (he : starEach (e :: es) X.env = (false, eval e X.env) :: starEach es X.env := by rfl) (hpl : (backTo pos (starEach es X.env)).any (·.1) = false := by rfl) :
    PE X (.Call (.Name x p) (e :: es) [] pos) (tCall sp [] E0 t) := by
  obtain ⟨f, fd, ps, F, hm, kp, b⟩ := c.ex
  exact pe_call F (hr.mono hk) hg hm kp b .nil passL ha hdb he hpl
end
/-- a class of the program's own over ValueError, as the top has written it -/
structure ErrC (K : PySem.W.Frag) (mg : Str → Option Value) (x : Str) (C : Addr) : Prop where
  g : mg x = some (.ref C)
  k : PySem.W.keepIn K (.ref C) = true
  x : PySem.W.excIn K C [.type "ValueError", .type "Exception", .type "BaseException", .type "object"] "ValueError.__new__" = true
  b : PySem.W.subIn K (.ref C) (.type "BaseException") = some true
  t : PySem.W.typeIn K (.ref C) = some (.type "type")
/-! ### rules that name the written part, for use within a comprehension -/
def rLenS (K : PySem.W.Frag) : List V → Hp → VK → Prop := fun xs H Q => ∃ p ys, xs = [.ref p] ∧ (SqL K H p ys ∨ SqT K H p ys) ∧ Q (.int ((ys.length : Nat) : Int)) H
theorem call_lenK {X : Cx} {K : PySem.W.Frag} (h : X.K = K) : CallR X (.builtin "len") (rLenS K) := by
  subst h
  exact call_len_seq
theorem ix_tupK {X : Cx} {K : PySem.W.Frag} (h : X.K = K) : IxR X (rIxT K) := by
  subst h
  exact ix_tup
theorem ix_listK {X : Cx} {K : PySem.W.Frag} (h : X.K = K) : IxR X (rIxL K) := by
  subst h
  exact ix_list
/-- a comprehension that gathers truths, its list at D -/
theorem snoc_bl {H4 : Hp} {D : Addr} {bs : List Bool} {i : Nat} {b : Bool} (e : H4 D = some (.lst ((bs.take i).map V.bl))) (hb : bs[i]? = some b) (hl : bs.length ≤ 100000) :
    ∃ acc, H4 D = some (.lst acc) ∧ acc.length < sizeLine ∧ upd H4 D (.lst (acc ++ [V.bl b])) D = some (.lst ((bs.take (i + 1)).map V.bl)) ∧ acc = (bs.take i).map V.bl := by
  refine ⟨_, e, ?_, ?_, rfl⟩
  · rw [List.length_map, List.length_take]
    exact Nat.lt_of_le_of_lt (show min i bs.length ≤ 100000 by omega) (by decide)
  · rw [upd_same, List.take_add_one, hb, List.map_append]
    rfl
/-- a comprehension that gathers, its list at D -/
theorem snoc_map {α : Type} {f : α → V} {H4 : Hp} {D : Addr} {l : List α} {i : Nat} {x : α} (e : H4 D = some (.lst ((l.take i).map f))) (hx : l[i]? = some x) (hl : l.length ≤ 1000000) :
    ∃ acc, H4 D = some (.lst acc) ∧ acc.length < sizeLine ∧ upd H4 D (.lst (acc ++ [f x])) D = some (.lst ((l.take (i + 1)).map f)) := by
  refine ⟨_, e, ?_, ?_⟩
  · rw [List.length_map, List.length_take]
    exact Nat.lt_of_le_of_lt (show min i l.length ≤ 1000000 by omega) (by decide)
  · rw [upd_same, List.take_add_one, hx, List.map_append]
    rfl
theorem cut_to {xs : List V} {n : Nat} (h : n ≤ xs.length) : cutV xs none (some (n : Int)) = xs.take n := by
  unfold cutV
  rw [HT.sIx_none, HT.sIx_nat]
  show (xs.drop 0).take (min n xs.length - 0) = _
  rw [List.drop_zero, Nat.sub_zero, Nat.min_eq_left h]
theorem cut_from {xs : List V} {n : Nat} : cutV xs (some (n : Int)) none = xs.drop n := by
  unfold cutV
  rw [HT.sIx_none, HT.sIx_nat]
  by_cases h : n ≤ xs.length
  · rw [Nat.min_eq_left h]
    exact List.take_of_length_le (by rw [List.length_drop]; omega)
  · rw [Nat.min_eq_right (by omega), List.drop_length, List.drop_eq_nil_of_le (by omega)]
    exact List.take_nil
end Lk
end
section
set_option maxRecDepth 100000
set_option maxHeartbeats 2000000
/-! kinds, is_coder of anything, next_coder. -/
namespace Lk
open PySem PySem.Spec PyProof.Rows L2
abbrev vN (n : Nat) : V := .int (n : Int)
abbrev dN (n : Nat) : PyData := .int (n : Int)
def isW : PyData → Bool
  | .int _ => true
  | _ => false
def inR : PyData → Int → Int → Bool
  | .int i, a, b => decide (a ≤ i) && decide (i ≤ b)
  | _, _, _ => false
def natD : PyData → Bool
  | .int i => decide (0 ≤ i)
  | _ => false
def isCd : PyData → Bool
  | .tuple [p, .tuple ls] => (decide (1 ≤ ls.length) && decide (ls.length ≤ 12)) && (inR p 0 ((ls.length : Int) - 1) && ls.all natD)
  | _ => false
section
variable {P : Program} {w : World} {K : PySem.W.Frag} {mg : Str → Option Value} {base : Heap}
def spWhole : Sp := fun vs H Q _ => ∃ v d, vs = [v] ∧ Th H v d ∧ Q (.bl (isW d)) H
def spWithin : Sp := fun vs H Q _ => ∃ v d a b, vs = [v, .int a, .int b] ∧ Th H v d ∧ Q (.bl (inR d a b)) H
/-- which bounds are asked -/
def Asked (a b : Int) : Prop := a = 0 ∧ b = 2000 ∨ a = 0 ∧ b = 10 ^ 18 ∨ a = 1 ∧ b = 12 ∨ a = 1 ∧ b = 6 ∨ a = 1 ∧ b = 10 ^ 18 ∨ a = 0 ∧ b = 10 ^ 36
def spCount (C : Addr) : Sp := fun vs H Q E => ∃ v d a b, vs = [v, .int a, .int b] ∧ Asked a b ∧ Th H v d ∧ (inR d a b = true → Q .non H) ∧ (inR d a b = false → E (.ref C) none H)
/-! ### coders -/
/-- the coder c stands at v -/
def Cat (H : Hp) (v : V) (c : Cd) : Prop := ∃ a b, v = .ref a ∧ H a = some (.tup [.int (c.1 : Int), .ref b]) ∧ H b = some (.tup (c.2.map vN))
theorem Cat.same {H H2 : Hp} {v : V} {c : Cd} (s : Same H H2) (h : Cat H v c) : Cat H2 v c := by
  obtain ⟨a, b, e, h1, h2⟩ := h
  exact ⟨a, b, e, s _ _ h1, s _ _ h2⟩
def cdD (c : Cd) : PyData := .tuple [.int (c.1 : Int), .tuple (c.2.map dN)]
def CdOk (c : Cd) : Prop := COk c ∧ c.2.length ≤ 12
theorem CdOk.pos {c : Cd} (h : CdOk c) : 0 < c.2.length := Nat.lt_of_le_of_lt (Nat.zero_le _) h.1
theorem ints_nat {H : Hp} : ∀ ls : List Nat, ThAll H (ls.map vN) (ls.map dN)
  | [] => .nil
  | n :: ls => .cons (.int n) (ints_nat ls)
theorem nat_ints {H : Hp} : ∀ {vs : List V} {ls : List Nat}, ThAll H vs (ls.map dN) → vs = ls.map vN
  | _, [], h => by cases h; rfl
  | _, n :: ls, h => by
    cases h with
    | cons a m =>
      cases a
      rw [nat_ints m]
      rfl
theorem Cat.th {H : Hp} {v : V} {c : Cd} (h : Cat H v c) : Th H v (cdD c) := by
  obtain ⟨a, b, rfl, h1, h2⟩ := h
  exact .tup h1 (.cons (.int _) (.cons (.tup h2 (ints_nat c.2)) .nil))
theorem Th.cat {H : Hp} {v : V} {c : Cd} (h : Th H v (cdD c)) : Cat H v c := by
  unfold cdD at h
  cases h with
  | tup e m =>
    cases m with
    | cons a m =>
      cases m with
      | cons b m =>
        cases m
        cases a
        cases b with
        | tup e2 m2 =>
          rw [nat_ints m2] at e2
          exact ⟨_, _, rfl, e, e2⟩
theorem nats_of : ∀ {ds : List PyData}, ds.all natD = true → ∃ ls : List Nat, ds = ls.map dN
  | [], _ => ⟨[], rfl⟩
  | d :: ds, h => by
    rw [List.all_cons, Bool.and_eq_true] at h
    obtain ⟨ls, rfl⟩ := nats_of h.2
    cases d with
    | int i =>
      have z : 0 ≤ i := of_decide_eq_true h.1
      exact ⟨i.toNat :: ls, by rw [List.map_cons]; show _ = PyData.int _ :: _; rw [Int.toNat_of_nonneg z]⟩
    | _ => cases h.1
theorem isCd_of {d : PyData} (h : isCd d = true) : ∃ c, d = cdD c ∧ CdOk c := by
  unfold isCd at h
  split at h
  · rename_i p ls
    rw [Bool.and_eq_true, Bool.and_eq_true, Bool.and_eq_true, decide_eq_true_eq, decide_eq_true_eq] at h
    obtain ⟨⟨h1, h2⟩, h3, h4⟩ := h
    obtain ⟨ns, rfl⟩ := nats_of h4
    rw [List.length_map] at h1 h2 h3
    cases p with
    | int i =>
      have z : (decide (0 ≤ i) && decide (i ≤ (ns.length : Int) - 1)) = true := h3
      rw [Bool.and_eq_true, decide_eq_true_eq, decide_eq_true_eq] at z
      exact ⟨(i.toNat, ns), by unfold cdD; rw [Int.toNat_of_nonneg z.1], by show i.toNat < ns.length; omega, h2⟩
    | _ => cases h3
  · cases h
theorem natD_all : ∀ ls : List Nat, (ls.map dN).all natD = true
  | [] => rfl
  | n :: ls => by
    rw [List.map_cons, List.all_cons, natD_all ls, Bool.and_true]
    exact decide_eq_true (show (0 : Int) ≤ (n : Int) by omega)
theorem isCd_cdD {c : Cd} (h : CdOk c) : isCd (cdD c) = true := by
  have h1 : c.1 < c.2.length := h.1
  have h2 := h.2
  show ((decide (1 ≤ _) && decide (_ ≤ 12)) && (inR (.int (c.1 : Int)) 0 _ && List.all _ natD)) = true
  rw [List.length_map, natD_all, Bool.and_true, decide_eq_true (show 1 ≤ c.2.length by omega), decide_eq_true h2]
  show ((true && true) && (decide ((0 : Int) ≤ (c.1 : Int)) && decide ((c.1 : Int) ≤ (c.2.length : Int) - 1))) = true
  rw [decide_eq_true (by omega), decide_eq_true (by omega)]
  rfl
def spIsCoder : Sp := fun vs H Q _ => ∃ v d, vs = [v] ∧ Th H v d ∧ ∀ H', Same H H' → Q (.bl (isCd d)) H'
theorem isCd_two {ds : List PyData} (h : ds.length ≠ 2) : isCd (.tuple ds) = false := by
  unfold isCd
  split
  · rename_i e
    cases e
    exact absurd rfl h
  · rfl
theorem isCd_no {p l : PyData} (h : isT l = false) : isCd (.tuple [p, l]) = false := by
  cases l <;> first | rfl | (cases h)
end
end Lk
end
section
set_option maxRecDepth 100000
set_option maxHeartbeats 2000000
/-! refuse_no_coder, next_coder, step, words_of, behind. -/
namespace Lk
open PySem PySem.Spec PyProof.Rows L2
/-- a slice of a tuple, new or not -/
def rCut (K : PySem.W.Frag) : V → Option Int → Option Int → Hp → VK → Prop := fun x lo hi H Q => ∃ a xs, x = .ref a ∧ SqT K H a xs ∧ ∀ b H', Same H H' → SqT K H' b (cutV xs lo hi) → (H' b = none ∨ H' b = some (.tup (cutV xs lo hi)) ∨ True) → Q (.ref b) H'
theorem sl_cut {X : Cx} : SlR X (rCut X.K) := by
  intro pins s σ H x v vl vu lo hi sl Q I rx hs pl pu h
  obtain ⟨a, xs, rfl, hx, q⟩ := h
  refine sl_tupA pins s σ H _ v vl vu _ _ sl Q I rx hs pl pu ⟨a, xs, rfl, hx, fun z => ?_, fun z p hp => ?_⟩
  · refine q a H (Same.refl H) ?_ (.inr (.inr trivial))
    have e : cutV xs lo hi = xs := by
      unfold cutV
      rw [z.1, z.2, List.drop_zero, Nat.sub_zero, List.take_length]
    rw [e]
    exact hx
  · exact q p _ (same_new hp) (.inl (.inl upd_same)) (.inr (.inr trivial))
theorem set_cut (l : List Nat) (i v : Nat) (h : i < l.length) : l.take i ++ v :: l.drop (i + 1) = l.set i v := by
  rw [List.set_eq_take_append_cons_drop, if_pos h]
theorem nat_at {l : List Nat} {i : Nat} (h : i < l.length) : (l.map vN)[i]? = some (V.int ((l.getD i 0 : Nat) : Int)) := by
  rw [List.getElem?_map, List.getD_eq_getElem?_getD, List.getElem?_eq_getElem h]
  rfl
/-- no list, no dict in it -/
def noL : PyData → Bool
  | .list _ => false
  | .dict _ => false
  | .tuple ds => noLs ds
  | _ => true
where noLs : List PyData → Bool
  | [] => true
  | d :: ds => noL d && noLs ds
mutual
theorem Th.but {H H2 : Hp} {W : Addr} {ws : List V} (hW : H W = some (.lst ws)) (s : SameBut W H H2) : ∀ (d : PyData) {v : V}, noL d = true → Th H v d → Th H2 v d
  | .none, _, _, h => by cases h; exact .non
  | .bool b, _, _, h => by cases h; exact .bl b
  | .int i, _, _, h => by cases h; exact .int i
  | .str x, _, _, h => by cases h; exact .str x
  | .list ds, _, n, _ => by cases n
  | .tuple ds, _, n, h => by
    cases h with
    | tup e m => exact .tup (s _ _ (fun z => by rw [z, hW] at e; cases e) e) (ThAll.but hW s ds n m)
  | .dict kvs, _, n, h => by cases n
theorem ThAll.but {H H2 : Hp} {W : Addr} {ws : List V} (hW : H W = some (.lst ws)) (s : SameBut W H H2) : ∀ (ds : List PyData) {vs : List V}, noL.noLs ds = true → ThAll H vs ds → ThAll H2 vs ds
  | [], _, _, h => by cases h; exact .nil
  | d :: ds, _, n, h => by
    have n2 : (noL d && noL.noLs ds) = true := n
    rw [Bool.and_eq_true] at n2
    cases h with
    | cons a b => exact .cons (Th.but hW s d n2.1 a) (ThAll.but hW s ds n2.2 b)
end
theorem noLs_append {ds es : List PyData} (a : noL.noLs ds = true) (b : noL.noLs es = true) : noL.noLs (ds ++ es) = true := by
  induction ds with
  | nil => exact b
  | cons d ds ih =>
    have n2 : (noL d && noL.noLs ds) = true := a
    rw [Bool.and_eq_true] at n2
    show (noL d && noL.noLs (ds ++ es)) = true
    rw [n2.1, ih n2.2]
    rfl
theorem noLs_map {α : Type} {f : α → PyData} (h : ∀ x, noL (f x) = true) : ∀ l : List α, noL.noLs (l.map f) = true
  | [] => rfl
  | x :: l => by
    show (noL (f x) && noL.noLs (l.map f)) = true
    rw [h, noLs_map h l]
    rfl
theorem noL_cdD (c : Cd) : noL (cdD c) = true := by
  show (true && (noL.noLs _ && true)) = true
  rw [noLs_map (f := dN) (fun _ => rfl) c.2]
  rfl
theorem Cat.but {H H2 : Hp} {W : Addr} {ws : List V} {v : V} {c : Cd} (hW : H W = some (.lst ws)) (s : SameBut W H H2) (h : Cat H v c) : Cat H2 v c := (Th.but hW s (cdD c) (noL_cdD c) h.th).cat
def dW (w : Nat × Nat) : PyData := .tuple [dN w.1, dN w.2]
theorem noL_dW (w : Nat × Nat) : noL (dW w) = true := rfl
section
variable {P : Program} {w : World} {K : PySem.W.Frag} {mg : Str → Option Value} {base : Heap}
def spRefCoder (C : Addr) : Sp := fun vs H Q E => ∃ v d, vs = [v] ∧ Th H v d ∧ (isCd d = true → ∀ H', Same H H' → Q .non H') ∧ (isCd d = false → ∀ H', Same H H' → E (.ref C) none H')
/-- the lengths with one word more at a place -/
def spLonger : Sp := fun vs H Q _ => ∃ (b : Addr) (ls : List Nat) (p : Nat), vs = [.ref b, .int (p : Int)] ∧ H b = some (.tup (ls.map vN)) ∧ p < ls.length ∧ ls.length ≤ 12 ∧ ∀ b' H', Same H H' → H' b' = some (.tup ((ls.set p (ls.getD p 0 + 1)).map vN)) → Q (.ref b') H'
/-- so many rounds later: the lengths are as much more -/
def spLater : Sp := fun vs H Q _ => ∃ v c m, vs = [v, .int ((m : Nat) : Int)] ∧ Cat H v c ∧ CdOk c ∧ ∀ v' H', Same H H' → Cat H' v' (c.1, c.2.map (· + m * c.2.length)) → Q v' H'
def spTill : Sp := fun vs H Q _ => ∃ p : Nat, vs = [.int (p : Int)] ∧ 1 ≤ p ∧ p ≤ 12 ∧ Q (.int (((p - 1) * (p - 1) + 1 : Nat) : Int)) H
def spNext : Sp := fun vs H Q _ => ∃ v c, vs = [v] ∧ Cat H v c ∧ CdOk c ∧ ∀ v' H', Same H H' → Cat H' v' (nx c) → Q v' H'
end
end Lk
end
section
set_option maxRecDepth 100000
set_option maxHeartbeats 2000000
namespace Lk
open PySem PySem.Spec PyProof.Rows L2
theorem it_cdOk {c : Cd} (n : Nat) (h : CdOk c) : CdOk (it n c) := ⟨it_ok n h.1, by rw [it_len]; exact h.2⟩
theorem nx_cdOk {c : Cd} (h : CdOk c) : CdOk (nx c) := it_cdOk 1 h
theorem dW_at {H : Hp} {t : Addr} {a b : Nat} (e : H t = some (.tup [.int (a : Int), .int (b : Int)])) : Th H (.ref t) (dW (a, b)) := .tup e (.cons (.int _) (.cons (.int _) .nil))
section
variable {P : Program} {w : World} {K : PySem.W.Frag} {mg : Str → Option Value} {base : Heap}
/-- NoCoder, then NoCount of a number beyond m; else what is told of the coder and the number -/
def spOf (C1 C2 : Addr) (m : Nat) (told : Cd → Nat → VK → Hp → Prop) : Sp := fun vs H Q E => ∃ v u d e, vs = [v, u] ∧ Th H v d ∧ Th H u e ∧ (isCd d = false → ∀ H', Same H H' → E (.ref C1) none H') ∧
  (isCd d = true → inR e 0 m = false → ∀ H', Same H H' → E (.ref C2) none H') ∧ (∀ c (n : Nat), d = cdD c → CdOk c → e = .int n → n ≤ m → told c n Q H)
def toldWords (c : Cd) (n : Nat) (Q : VK) (H : Hp) : Prop := ∀ p H' ws, H p = none → Same H H' → H' p = some (.lst ws) → ThAll H' ws ((wds n c).map dW) → Q (.ref p) H'
def toldCoder (c : Cd) (n : Nat) (Q : VK) (H : Hp) : Prop := ∀ v H', Same H H' → Cat H' v (it n c) → Q v H'
theorem count_of {e : PyData} {m : Nat} (h : inR e 0 m = true) : ∃ n : Nat, e = .int n ∧ n ≤ m := by
  cases e with
  | int i =>
    have z : (decide ((0 : Int) ≤ i) && decide (i ≤ (m : Int))) = true := h
    rw [Bool.and_eq_true, decide_eq_true_eq, decide_eq_true_eq] at z
    exact ⟨i.toNat, by rw [Int.toNat_of_nonneg z.1], by omega⟩
  | _ => cases h
end
end Lk
end
section
set_option maxRecDepth 100000
set_option maxHeartbeats 2000000
/-! last_goings, ring_from, ring. -/
namespace Lk
open PySem PySem.Spec PyProof.Rows L2
def gos (c : Cd) : List Nat := (List.range c.2.length).map (go c)
theorem gos_len (c : Cd) : (gos c).length = c.2.length := by
  unfold gos
  rw [List.length_map, List.length_range]
theorem gos_at {c : Cd} {i : Nat} (h : i < c.2.length) : (gos c)[i]? = some (go c i) := by
  unfold gos
  rw [List.getElem?_map, List.getElem?_range h]
  rfl
theorem inV_nat (k : Nat) : ∀ l : List Nat, inV (vN k) (l.map vN) = decide (k ∈ l)
  | [] => rfl
  | x :: l => by
    show ((x : Int) == (k : Int) || inV (vN k) (l.map vN)) = _
    rw [inV_nat k l]
    by_cases e : k = x
    · rw [e, decide_eq_true List.mem_cons_self, beq_self_eq_true, Bool.true_or]
    · have e2 : ((x : Int) == (k : Int)) = false := beq_eq_false_iff_ne.mpr fun z => e (by omega)
      rw [e2, Bool.false_or]
      by_cases m : k ∈ l
      · rw [decide_eq_true m, decide_eq_true (List.mem_cons_of_mem _ m)]
      · rw [decide_eq_false m, decide_eq_false fun z => (List.mem_cons.mp z).elim e m]
theorem flat_nat : ∀ l : List Nat, (l.map vN).all flatV = true
  | [] => rfl
  | x :: l => by
    rw [List.map_cons, List.all_cons, flat_nat l]
    rfl
section
variable {P : Program} {w : World} {K : PySem.W.Frag} {mg : Str → Option Value} {base : Heap}
def spLast : Sp := fun vs H Q _ => ∃ v c, vs = [v] ∧ Cat H v c ∧ CdOk c ∧ ∀ p H', H p = none → Same H H' → H' p = some (.lst ((gos c).map vN)) → Q (.ref p) H'
/-- a list of places, new, or None -/
def ListV (H H' : Hp) (v : V) : Option (List Nat) → Prop
  | none => v = .non
  | some l => ∃ p, v = .ref p ∧ H p = none ∧ H' p = some (.lst (l.map vN))
def spRingFrom : Sp := fun vs H Q _ => ∃ (v : V) (c : Cd) (a : Nat), vs = [v, .int (a : Int)] ∧ Cat H v c ∧ CdOk c ∧ a < c.2.length ∧ ∀ r v' H', RingFrom c a r → Same H H' → ListV H H' v' r → Q v' H'
theorem ringL_one (c : Cd) (a : Nat) : ringL c a 1 = [a] := rfl
theorem ringL_len (c : Cd) (a k : Nat) : (ringL c a k).length = k := by
  unfold ringL
  rw [List.length_map, List.length_range]
end
end Lk
end
section
set_option maxRecDepth 100000
set_option maxHeartbeats 2000000
/-! ring, in_round, enter_round, ahead, round_of. -/
namespace Lk
open PySem PySem.Spec PyProof.Rows L2
theorem bl_iff {b : Bool} {A : Prop} (h : b = true ↔ A) : ∀ {a : Bool}, (a = true ↔ A) → a = b := fun {a} g => by
  cases a with
  | true => exact (h.mpr (g.mp rfl)).symm
  | false =>
    cases b with
    | false => rfl
    | true => exact absurd (g.mpr (h.mp rfl)) Bool.false_ne_true
theorem cdD_inj {x y : Cd} (e : cdD x = cdD y) : x = y := by
  unfold cdD at e
  injection e with e
  injection e with e1 e
  injection e with e2 _
  injection e1 with e1
  injection e2 with e2
  refine Prod.ext (by omega) ?_
  refine List.map_inj_right (f := dN) (fun a b h => ?_) |>.mp e2
  injection h with h
  omega
theorem dW_of {H : Hp} {v : V} {x : Nat × Nat} (h : Th H v (dW x)) : ∃ t, v = .ref t ∧ H t = some (.tup [.int (x.1 : Int), .int (x.2 : Int)]) := by
  cases h with
  | tup e m =>
    cases m with
    | cons a m =>
      cases m with
      | cons b m =>
        cases m
        cases a
        cases b
        exact ⟨_, rfl, e⟩
theorem ListV.at {H H1 H2 : Hp} {v : V} {r : Option (List Nat)} (s : Same H1 H2) (h : ListV H H1 v r) : ListV H H2 v r := by
  cases r with
  | none => exact h
  | some l =>
    obtain ⟨p, e, n, q⟩ := h
    exact ⟨p, e, n, s _ _ q⟩
theorem ListV.from {H H1 H2 : Hp} {v : V} {r : Option (List Nat)} (s : Same H H1) (h : ListV H1 H2 v r) : ListV H H2 v r := by
  cases r with
  | none => exact h
  | some l =>
    obtain ⟨p, e, n, q⟩ := h
    exact ⟨p, e, s.free n, q⟩
section
variable {P : Program} {w : World} {K : PySem.W.Frag} {mg : Str → Option Value} {base : Heap}
/-- NoCoder of what is none; else what is told of the coder -/
def spOne (C : Addr) (told : Cd → VK → Hp → Prop) : Sp := fun vs H Q E => ∃ v d, vs = [v] ∧ Th H v d ∧ (isCd d = false → ∀ H', Same H H' → E (.ref C) none H') ∧ (∀ c, d = cdD c → CdOk c → told c Q H)
def toldRing (c : Cd) (Q : VK) (H : Hp) : Prop := ∀ r v H', RingOf c r → Same H H' → ListV H H' v r → Q v H'
def toldIn (c : Cd) (Q : VK) (H : Hp) : Prop := ∀ b H', (b = true ↔ Free c) → Same H H' → Q (.bl b) H'
def toldEnter (c : Cd) (Q : VK) (H : Hp) : Prop := ∀ n v p H', Ahead c n → Same H H' → Cat H' v (it n c) → H' p = some (.tup [.int (n : Int), v]) → Q (.ref p) H'
def toldAhead (c : Cd) (Q : VK) (H : Hp) : Prop := ∀ (n : Nat) H', Ahead c n → Same H H' → Q (.int (n : Int)) H'
def toldRound (c : Cd) (Q : VK) (H : Hp) : Prop := ∀ n p H' ws, Ahead c n → H p = none → Same H H' → H' p = some (.lst ws) → ThAll H' ws ((wds (c.2.length * c.2.length) (it n c)).map fun x => dW (x.1, x.2 % c.2.length)) → Q (.ref p) H'
end
end Lk
end
section
namespace Lk
open PySem PySem.Spec PyProof.Rows L2
def top (i : Nat) : Stmt := PySem.Challenge.pw_looplearn_k28_signs_refused.main.body.getD i (.Pass ⟨0, 0, 0, 0⟩)
abbrev s_is_whole : Stmt := top 19
abbrev s_is_within : Stmt := top 20
abbrev s_refuse_no_count : Stmt := top 21
abbrev s_is_coder : Stmt := top 24
abbrev s_refuse_no_coder : Stmt := top 25
abbrev s_one_longer : Stmt := top 26
abbrev s_next_coder : Stmt := top 27
abbrev s_last_goings : Stmt := top 29
abbrev s_ring_from : Stmt := top 30
abbrev s_ring : Stmt := top 31
abbrev s_in_round : Stmt := top 32
abbrev s_all_come_first : Stmt := top 35
abbrev s_is_tree : Stmt := top 36
abbrev s_coder_of : Stmt := top 37
abbrev s_all_trees : Stmt := top 38
abbrev s_ends_ahead : Stmt := top 40
abbrev s_sign_of : Stmt := top 41
abbrev s_is_sign : Stmt := top 42
abbrev s_refuse_no_sign : Stmt := top 43
abbrev s_refuse_unlike : Stmt := top 44
abbrev s_one_round : Stmt := top 45
abbrev s_tree_by : Stmt := top 46
abbrev s_modulo_places : Stmt := top 47
abbrev s_steps_between : Stmt := top 48
abbrev s_law_urn : Stmt := top 50
abbrev s_law_pull : Stmt := top 51
abbrev s_law_coder : Stmt := top 52
abbrev s_law_step : Stmt := top 53
abbrev s_law_goals : Stmt := top 54
abbrev s_law_home : Stmt := top 55
abbrev s_law_in_round : Stmt := top 56
abbrev s_law_drawn_sign : Stmt := top 57
abbrev s_law_words : Stmt := top 58
abbrev s_law_no_coders : Stmt := top 59
abbrev s_law_asked : Stmt := top 60
abbrev s_law_places_right : Stmt := top 61
abbrev s_law : Stmt := top 62
end Lk
end
section
set_option maxRecDepth 100000
set_option maxHeartbeats 2000000
namespace Lk
open PySem PySem.Spec PyProof.Rows L2
section
variable {P : Program} {w : World} {K : PySem.W.Frag} {mg : Str → Option Value} {base : Heap}
theorem sc_whole : FnScope ["thing"] ["thing"] (defScope s_is_whole) := ⟨rfl, rfl, rfl, by decide +kernel, rfl, by decide +kernel, by decide +kernel⟩
theorem ok_whole {f : Addr} {fd : FuncData} (F : Fun K "is_whole" "is_whole" s_is_whole f fd) (mi : mg "isinstance" = none) (mn : mg "int" = none) (mb : mg "bool" = none) : FnOk P w K mg base CX0 1 f fd ["thing"] spWhole := by
  refine F.ok sc_whole (fun vs H Q E h => ?_) (fun cdv A outer s H vs Q E hr h => ?_)
  · obtain ⟨v, d, rfl, _⟩ := h
    rfl
  · obtain ⟨v, d, rfl, hv, q⟩ := h
    refine ⟨_, pss_one (ps_ret (pe_and (pe_callB call_isi (by rfl) mi (by decide +kernel) (pa_cons (pv 0) (pa_cons (pe_bltn (v := .ty "int") (by rfl) mn (by decide +kernel) rfl) pa_nil)))
      (pe_one (pe_not (pe_callB call_isi (by rfl) mi (by decide +kernel) (pa_cons (pv 0) (pa_cons (pe_bltn (v := .ty "bool") (by rfl) mb (by decide +kernel) rfl) pa_nil))))))), ?_⟩
    refine ⟨_, rfl, v, .ty "int", _, _, isI d, rfl, .ty _, hv.ty, kit_int d, _, rfl, ?_⟩
    cases hI : isI d with
    | false =>
      have e : isW d = false := by cases d <;> first | rfl | (cases hI)
      rw [e] at q
      exact q
    | true =>
      refine ⟨_, rfl, v, .ty "bool", _, _, isB d, rfl, .ty _, hv.ty, kit_bool d, _, rfl, ?_⟩
      have e : isW d = !isB d := by cases d <;> first | rfl | (cases hI)
      rw [e] at q
      exact q
end
end Lk
end
section
set_option maxRecDepth 100000
set_option maxHeartbeats 2000000
namespace Lk
open PySem PySem.Spec PyProof.Rows L2
section
variable {P : Program} {w : World} {K : PySem.W.Frag} {mg : Str → Option Value} {base : Heap}
theorem sc_within : FnScope ["thing", "least", "most"] ["thing", "least", "most"] (defScope s_is_within) := ⟨rfl, rfl, rfl, by decide +kernel, rfl, by decide +kernel, by decide +kernel⟩
theorem ok_within {f : Addr} {fd : FuncData} (F : Fun K "is_within" "is_within" s_is_within f fd) (cw : C8.Cal P w K mg base 1 "is_whole" spWhole []) : FnOk P w K mg base CX0 2 f fd ["thing", "least", "most"] spWithin := by
  refine F.ok sc_within (fun vs H Q E h => ?_) (fun cdv A outer s H vs Q E hr h => ?_)
  · obtain ⟨v, d, a, b, rfl, _⟩ := h
    rfl
  · obtain ⟨v, d, a, b, rfl, hv, q⟩ := h
    refine ⟨_, pss_one (by exact (ps_ret (pe_and (C8.pe_c cw hr (Nat.le_refl _) rfl (pa_cons (pv 0) pa_nil)) (pe_one (pe_chain op_le op_le (pv 1) (pv 0) (pv 2)))))), ?_⟩
    refine ⟨_, rfl, v, d, rfl, hv, _, rfl, ?_⟩
    cases hv with
    | int i =>
      refine ⟨_, rfl, _, rfl, _, _, rfl, rfl, _, rfl, ?_⟩
      have e : inR (.int i) a b = (decide (a ≤ i) && decide (i ≤ b)) := rfl
      rw [e] at q
      refine ite2 (fun g => ?_) (fun g => ?_)
      · refine ⟨_, rfl, _, _, rfl, rfl, ?_⟩
        rw [g, Bool.true_and] at q
        exact q
      · rw [Bool.eq_false_iff.mpr g, Bool.false_and] at q
        exact q
    | _ => exact q
end
end Lk
end
section
set_option maxRecDepth 100000
set_option maxHeartbeats 2000000
/-! A caught error that a name keeps behind its suite; isinstance of it. -/
namespace Lk
open PySem PySem.Spec PyProof.Rows L2
/-- an error's object of the class cls, its own dict at d, caught before -/
def ExT (cls : Value) (d : Option Addr) (a : Addr) : HO := .ext fun h => ∃ (oe : Obj) (vs : Array Value), h.get? a = some oe ∧ Zc cls d oe ∧ oe.data = .fields vs
theorem exT_ok {P : Program} {w : World} {H : Hp} {h : Heap} {a : Addr} {cls : Value} {d : Option Addr} {oe : Obj} {vs : Array Value} (e : h.get? a = some oe) (z : Zc cls d oe) (hd : oe.data = .fields vs) : ObjOk P w H h a (ExT cls d a) :=
  ⟨⟨oe, vs, e, z, hd⟩, ⟨oe, e⟩, fun _ _ ⟨o, v, q, r⟩ k => ⟨o, v, k o q, r⟩⟩
section
variable {X : Cx} {pins : List (Addr × Obj)} {σ : L2.St} {H : Hp} {s : Shared}
/-- what is pinned and was made since the entry may be tracked -/
theorem tracked {a : Addr} {oe : Obj} {o : HO} (I : Inv X ((a, oe) :: pins) σ H s) (h0 : X.s_0.heap.get? a = none) (hp : ∀ p ∈ X.pn ++ pins, p.1 ≠ a) (new : ObjOk X.prog X.w (upd H a o) s.heap a o) : Inv X pins σ (upd H a o) s := by
  obtain ⟨ha, hn, nL, nF, nc⟩ := I.pin (a, oe) (List.mem_append.mpr (.inr List.mem_cons_self))
  refine ⟨I.ok, I.os, I.bare, ⟨I.base.keep, I.base.slot, fun b u e n hx => ?_, I.base.there, fun b xs e => ?_, fun b u xs e => ?_, fun b ps e => ?_⟩, I.loc, I.cell, ?_, fun x c e => ?_, fun p h => ?_, I.hok.laidN (fun _ _ e => e) hn new, I.len⟩
  · rw [upd_ne (fun z => by rw [z, h0] at e; cases e)]
    exact I.base.free b u e n hx
  · rw [upd_ne (ne_of_none (I.base.tups b xs e) hn)]
    exact I.base.tups b xs e
  · rw [upd_ne (ne_of_none (I.base.frzs b u xs e) hn)]
    exact I.base.frzs b u xs e
  · obtain ⟨m, q⟩ := I.base.tbls b ps e
    exact ⟨m, by rw [upd_ne (ne_of_none q hn)]; exact q⟩
  · rw [upd_ne nL.symm]
    exact I.free
  · rw [upd_ne (fun z => ?_)]
    · exact I.freeC x c e
    · obtain ⟨v, o', q1, q2⟩ := I.cell x c e
      have q3 : s.heap.get? a = some o' := by rw [← z]; exact q1
      rw [show s.heap.get? a = some oe from ha] at q3
      cases q3
      exact nc v q2
  · have hm : p ∈ X.pn ++ ((a, oe) :: pins) := by
      rcases List.mem_append.mp h with h | h
      · exact List.mem_append.mpr (.inl h)
      · exact List.mem_append.mpr (.inr (List.mem_cons_of_mem _ h))
    obtain ⟨q1, q2, q3⟩ := I.pin p hm
    exact ⟨q1, by rw [upd_ne (hp p h)]; exact q2, q3⟩
theorem unsuiteP {a : Addr} {q : Addr × Obj} (I : Inv (X.suite a (q :: (X.pn ++ pins))) [] σ H s) (ok : X.Ok) : Inv X (q :: pins) σ H s :=
  ⟨ok, I.os, I.bare, I.base, I.loc, I.cell, I.free, I.freeC, fun p hp => I.pin p (by
    rw [List.append_nil]
    show p ∈ q :: (X.pn ++ pins)
    rcases List.mem_append.mp hp with h | h
    · exact List.mem_cons_of_mem _ (List.mem_append.mpr (.inl h))
    · rcases List.mem_cons.mp h with e | h
      · rw [e]; exact List.mem_cons_self
      · exact List.mem_cons_of_mem _ (List.mem_append.mpr (.inr h))), I.hok, I.len⟩
end
/-- the wish of a clause that takes whatever comes, and behind which the error is kept -/
def wKeep (K : PySem.W.Frag) (c : Value) (i : Nat) (ts : Addr → Value → Option Addr → TS) (D : Ends) : WX := fun cls d σ H =>
  PySem.W.exmOne K cls c = some true ∧ ∀ a, H a = none → ts a cls d { nx := fun σ' H' => H' a = none → D.nx (σ'.set i none) (upd H' a (ExT cls d a)), rt := fun _ _ => False, bk := fun _ _ => False, ct := fun _ _ => False } (σ.set i (some (.ref a))) H
section
variable {X : Cx} {x n : Str} {c : Value} {i : Nat} {body suite : List Stmt} {b₀ : Stmt} {np pos pos' : Pos} {tb : WX → TS} {ts : Addr → Value → Option Addr → TS}
/-- what is known of an error that came down: its object where it landed, that it is new, that the frame's state stands -/
structure Down (X : Cx) (pins : List (Addr × Obj)) (a : Addr) (cls : Value) (d : Option Addr) (σ : L2.St) (H : Hp) (s : Shared) : Prop where
  st : Inv X pins σ H s
  ob : ∃ oe vs, s.heap.get? a = some oe ∧ Zc cls d oe ∧ oe.data = .fields vs
  nH : H a = none
  n0 : X.s_0.heap.get? a = none
  nP : ∀ p ∈ X.pn ++ pins, p.1 ≠ a
  nL : a ≠ X.env.locals
  nF : a ∉ X.fs
theorem down {pins : List (Addr × Obj)} {a : Addr} {B : Heap} {cls : Value} {d : Option Addr} {σ : L2.St} {H : Hp} {sI s' : Shared} {h : Heap} (hs : X.stack = X.env :: X.outer) (hf : X.env.frame = some X.env.locals) (hex : X.ex = [])
    (J : Inv X pins σ H sI) (nb : ∀ b o, sI.heap.get? b = some o → b ∉ frs X.stack → B.get? b = some o) (up : sI.heap.UpToSlots h) (os : s'.os = sI.os) (ag : AllBare s'.gens) (na : H a = none)
    (fl : HandSPX.FlyingZ B (X.env :: X.outer) a (Zc cls d) h) : Down X pins a cls d σ H { s' with heap := h } := by
  obtain ⟨oe, vs, he, hz, hd⟩ := fl.there
  have off : a ∉ frs (X.env :: X.outer) := fun hm => by
    obtain ⟨_, o, e, q⟩ := fl.2.2.1.mem hm
    have z : oe = o := Option.some.inj (he.symm.trans e)
    exact q vs (by rw [← z]; exact hd)
  have gone : sI.heap.get? a = none := by
    rcases e : sI.heap.get? a with _ | o
    · rfl
    · have z := nb a o e (by rw [hs]; exact off)
      rw [fl.2.1] at z
      cases z
  refine ⟨J.landed nb fl.1 up os ag, ⟨oe, vs, he, hz, hd⟩, na, ?_, fun p hp z => ?_, fun z => off ?_, fun hm => off ?_⟩
  · rcases e : X.s_0.heap.get? a with _ | o
    · rfl
    · obtain ⟨u, z⟩ := J.base.there a o e (by rw [hex]; exact fun z => nomatch z)
      rw [gone] at z
      cases z
  · have q := (J.pin p hp).1
    rw [z, gone] at q
    cases q
  · exact List.mem_filterMap.mpr ⟨X.env, List.mem_cons_self, by rw [hf, z]⟩
  · obtain ⟨e, he, q⟩ := List.mem_filterMap.mp hm
    exact List.mem_filterMap.mpr ⟨e, List.mem_cons_of_mem _ he, q⟩
/-- a body that ran through a try ran -/
theorem through {pins : List (Addr × Obj)} {xe : Value → Shared → Prop} {D : Ends} {s1 : Shared} (ok : X.Ok) : ∀ {f : Flow}, SP (X.tr (X.pn ++ pins) xe) [] D f s1 → SP X pins D f s1
  | .next, ⟨σ, H, J, q⟩ => ⟨σ, H, J.ofTry ok, q⟩
  | .brk, ⟨σ, H, J, q⟩ => ⟨σ, H, J.ofTry ok, q⟩
  | .cont, ⟨σ, H, J, q⟩ => ⟨σ, H, J.ofTry ok, q⟩
  | .ret _, ⟨v, σ, H, J, r, q⟩ => ⟨v, σ, H, J.ofTry ok, r, q⟩
/-- the suite runs, its name goes, the error is tracked from then on -/
theorem kept {pins : List (Addr × Obj)} {a : Addr} {cls : Value} {d : Option Addr} {σ : L2.St} {H : Hp} {s : Shared} {D : Ends} (ok : X.Ok) (hN : X.N.Nodup) (hi : X.N[i]? = some n) (hln : X.env.kindOf n = some .local)
    (hsu : ∀ (oe : Obj) (pn : List (Addr × Obj)), Zc cls d oe → (∃ vs, oe.data = .fields vs) → PSs (X.suite a ((a, oe) :: pn)) (b₀ :: suite) (ts a cls d)) (W : Down X pins a cls d σ H s)
    (h : ts a cls d { nx := fun σ' H' => H' a = none → D.nx (σ'.set i none) (upd H' a (ExT cls d a)), rt := fun _ _ => False, bk := fun _ _ => False, ct := fun _ _ => False } (σ.set i (some (.ref a))) H)
    {R : Flow → Shared → Prop} {E1 E2 : Value → Shared → Prop} (hR : ∀ s6, wpAny (model X.prog X.w) X.A (do bindName X.env n .none; unbindBehindTheSuite X.env n pos') (fun _ s7 => SP X pins D .next s7) X.xe s6 → R .next s6) :
    wpAny (model X.prog X.w) (X.A.mark (some (.ref a))) (storeName X.env n (.ref a)) (fun _ s5 => wpAny (model X.prog X.w) (X.A.mark (some (.ref a))) (execs (b₀ :: suite) X.env) R E2 s5) E1 s := by
  obtain ⟨oe, vs, he, hz, hd⟩ := W.ob
  have S := W.st.suite he hd W.nH W.nL W.nF
  refine store_ok (X := X.suite a ((a, oe) :: (X.pn ++ pins))) (v := .ref a) S hN hi (.inl hln) rfl (fun s5 S5 => ?_) (.inr hln)
  refine wpAny_mono ((hsu oe (X.pn ++ pins) hz ⟨_, hd⟩).run [] s5 _ H _ S5 h) (fun f s6 z => ?_) fun _ _ z => z.elim
  match f, z with
  | .next, ⟨σ6, H6, S6, q6⟩ =>
    refine hR s6 (gone_ok (unsuiteP S6 ok) hN hi hln fun s7 J7 => ?_)
    obtain ⟨p1, p2, _⟩ := J7.pin (a, oe) (List.mem_append.mpr (.inr List.mem_cons_self))
    exact ⟨_, _, tracked J7 W.n0 W.nP (exT_ok p1 hz hd), q6 p2⟩
  | .brk, ⟨_, _, _, q⟩ => exact q.elim
  | .cont, ⟨_, _, _, q⟩ => exact q.elim
  | .ret _, ⟨_, _, _, _, _, q⟩ => exact q.elim
theorem ps_try_keep (hs : X.stack = X.env :: X.outer) (hf : X.env.frame = some X.env.locals) (hex : X.ex = []) (hN : X.N.Nodup) (hi : X.N[i]? = some n) (hln : X.env.kindOf n = some .local) (hc : Names X x c)
    (hb : ∀ (W : WX) (pn : List (Addr × Obj)) (xe : Value → Shared → Prop), Takes (X.tr pn xe) W → PassesOwn (model X.prog X.w) X.A X.env xe → PSs (X.tr pn xe) body (tb W))
    (hsu : ∀ (a : Addr) (oe : Obj) (cls : Value) (d : Option Addr) (pn : List (Addr × Obj)), Zc cls d oe → (∃ vs, oe.data = .fields vs) → PSs (X.suite a ((a, oe) :: pn)) (b₀ :: suite) (ts a cls d)) :
    PS X (.Try body [.ExceptHandler (some (.Name x np)) (some n) (b₀ :: suite) pos'] [] [] pos) (fun D σ H => tb (wKeep X.K c i ts D) D σ H) := by
  refine ⟨fun pins s σ H D I h => wpAny_Try_except ?_⟩
  have hfr : X.A.frames = some (X.env :: X.outer) := I.ok.frames.trans (by rw [hs])
  refine wpAny_mono ((hb (wKeep X.K c i ts D) (X.pn ++ pins) _ (fun u s' xx => ?_) PassesOwn.looking).run [] s σ H D (I.toTry _) h) (fun f s1 z => ?_) (fun _ _ z => z)
  rotate_left
  · have z' := through I.ok z
    match f, z' with
    | .next, ⟨_, _, J, q⟩ => exact wpAny_execs_nil ⟨_, _, J, q⟩
    | .brk, z' => exact z'
    | .cont, z' => exact z'
    | .ret _, z' => exact z'
  · obtain ⟨a, B, sI, _, σ', H', cls, d, rfl, J', nb, up, sky, na, os, ag, hex1, hyes⟩ := xx
    have J : Inv X pins σ' H' sI := J'.ofTry I.ok
    rw [show (X.tr (X.pn ++ pins) _).stack = X.env :: X.outer from hs] at sky
    refine Sky.land Zc.steady hfr hf sky fun h3 fl3 up3 => ?_
    have W3 := down hs hf hex J nb (up.trans up3) os ag na fl3
    obtain ⟨oe, vs, he, hz, hd⟩ := W3.ob
    have S3 := W3.st.suite he hd na W3.nL W3.nF
    refine wpAny_handleBy_cons (codeAny_handlers_test ?_) fun q => nomatch q
    have look : PySem.W.Looks (model X.prog X.w) h3 (typeOf (.ref a)) cls := fun A Q E s k q => wpAny_typeOf_ref (k _ _ he) (by rw [hz.1]; exact q)
    have name : ∀ {Q : Value → Shared → Prop} {E : Value → Shared → Prop}, Q c { s' with heap := h3 } → wpAny (model X.prog X.w) (X.A.mark (some (.ref a))) (eval (.Name x np) X.env) Q E { s' with heap := h3 } := fun q => by
      rcases hc with ⟨k1, k2, k3 | ⟨k3, k4, k5⟩⟩
      · exact ld_glob S3 k1 k3 q k2
      · exact ld_blt S3 k1 k3 k4 q k5 k2
    refine name ((PySem.W.exm_one W3.st.kIn look hex1).here (codeAny_handlers_suite_as (HandSPX.lands_againZ fl3 fun h4 fl4 up4 => ?_)))
    exact kept I.ok hN hi hln (hsu a · cls d ·) (down hs hf hex J nb ((up.trans up3).trans up4) os ag na fl4) (hyes a na) (fun _ z => z)
end
/-! ### isinstance of such -/
section
variable {X : Cx}
/-- the class of such an error is known to be read rightly -/
theorem exT_at {pins : List (Addr × Obj)} {σ : L2.St} {H : Hp} {s : Shared} {a D : Addr} (I : Inv X pins σ H s) (ha : H a = some (ExT (.ref D) none a)) : ∃ oe, PySem.W.InstAt s.heap a oe D none := by
  obtain ⟨⟨oe, vs, he, hz, hd⟩, _⟩ := I.hok a _ ha
  refine ⟨oe, ?_⟩
  obtain ⟨oc, od, oda, osl⟩ := oe
  obtain ⟨h1, h2⟩ := hz
  dsimp only at h1 h2 hd
  subst h1 h2 hd
  exact ⟨he, rfl, rfl, trivial⟩
def rIsX (K : PySem.W.Frag) : List V → Hp → VK → Prop := fun xs H Q => ∃ (a D : Addr) (c : V) (u : Value) (b : Bool), xs = [.ref a, c] ∧ ExcC K D ∧ H a = some (ExT (.ref D) none a) ∧ ClsV c u ∧ PySem.W.kitOne K (.ref D) u = some b ∧ Q (.bl b) H
theorem call_isX : CallR X (.builtin "isinstance") (rIsX X.K) := by
  intro pins s σ H xs us Q I r h
  obtain ⟨a, D, c, u, b, rfl, C, ha, k, e, q⟩ := h
  obtain ⟨u1, u2, rfl, r1, r2⟩ := vals2 r
  have e2 := k.eq r2
  subst e2
  cases (show u1 = Value.ref a from r1)
  obtain ⟨oe, J⟩ := exT_at I ha
  exact PySem.W.kia_one (PySem.W.handS_kitx_exc C.hg C.hk C.hs C.hd C.ha C.hn C.ht C.hm) I.kIn J e (fun z => nomatch z) fun tk => ⟨.bl b, H, I.tok tk, rfl, q⟩
def rIsXT (K : PySem.W.Frag) : List V → Hp → VK → Prop := fun xs H Q => ∃ (a D tp : Addr) (cs : List V) (us : List Value) (b : Bool), xs = [.ref a, .ref tp] ∧ ExcC K D ∧ H a = some (ExT (.ref D) none a) ∧ H tp = some (.tup cs) ∧ Paired ClsV cs us ∧ PySem.W.kitAny K (.ref D) us = some b ∧ Q (.bl b) H
theorem call_isXT : CallR X (.builtin "isinstance") (rIsXT X.K) := by
  intro pins s σ H xs us Q I r h
  obtain ⟨a, D, tp, cs, ws, b, rfl, C, ha, hT, k, e, q⟩ := h
  obtain ⟨u1, u2, rfl, r1, r2⟩ := vals2 r
  cases (show u2 = Value.ref tp from r2)
  cases (show u1 = Value.ref a from r1)
  obtain ⟨oe, J⟩ := exT_at I ha
  obtain ⟨_, its, rv, o, h1, h2, n, h3⟩ := (show ObjOk X.prog X.w H s.heap tp (.tup cs) from I.hok tp _ hT)
  have e3 := ClsV.all k rv
  subst e3
  obtain ⟨oc, od, dt, sl⟩ := o
  simp only at h2 h3
  subst h2 h3
  exact PySem.W.kia_tup (PySem.W.handS_kitx_exc C.hg C.hk C.hs C.hd C.ha C.hn C.ht C.hm) I.kIn J h1 e (fun z => nomatch z) fun tk => ⟨.bl b, H, I.tok tk, rfl, q⟩
end
end Lk
end
section
set_option maxRecDepth 100000
set_option maxHeartbeats 2000000
/-! is_ring of anything, befores, before: what is told. -/
namespace Lk
open PySem PySem.Spec PyProof.Rows L2
theorem depthAll_ints : ∀ l : List Nat, PyData.depthAll (l.map dN) = 0
  | [] => by simp [PyData.depthAll]
  | n :: l => by simp [PyData.depthAll, PyData.depth, depthAll_ints l]
theorem layAll_ints : ∀ l : List Nat, PyData.canLayAll0 (l.map dN) = true
  | [] => by simp [PyData.canLayAll0]
  | n :: l => by simp [PyData.canLayAll0, PyData.canLay0, layAll_ints l]
theorem shaped_ints (l : List Nat) : SeqAt.shaped (.list (l.map dN)) = true := by
  unfold SeqAt.shaped
  rw [Bool.and_eq_true]
  refine ⟨by simp [PyData.canLay0, layAll_ints l], decide_eq_true ?_⟩
  simp only [PyData.depth, depthAll_ints]
  decide
theorem shaped_none : SeqAt.shaped .none = true := by
  unfold SeqAt.shaped
  rw [Bool.and_eq_true]
  exact ⟨by simp [PyData.canLay0], decide_eq_true (by simp [PyData.depth])⟩
theorem eqv_list_none (ds : List PyData) : PyData.eqv (.list ds) .none = false := by simp [PyData.eqv]
theorem eqv_ints (l m : List Nat) : PyData.eqv (.list (l.map dN)) (.list (m.map dN)) = decide (l = m) := by
  have key : ∀ l m : List Nat, PyData.eqvAll (l.map dN) (m.map dN) = decide (l = m) := by
    intro l
    induction l with
    | nil => intro m; cases m <;> simp [PyData.eqvAll]
    | cons a l ih =>
      intro m
      cases m with
      | nil => simp [PyData.eqvAll]
      | cons b m =>
        simp only [List.map_cons, PyData.eqvAll, PyData.eqv, ih]
        by_cases e : a = b
        · subst e
          simp
        · have e2 : ¬ ((a : Int) = (b : Int)) := by omega
          simp [e, e2]
  simp only [PyData.eqv, key]
mutual
/-- data without dicts, as the hand layer tells it -/
theorem Th.dp {K : PySem.W.Frag} {H : Hp} : ∀ (d : PyData) {v : V}, d.canLay0 = true → Th H v d → Dp K H v d
  | .none, _, _, h => by cases h; exact .non
  | .bool b, _, _, h => by cases h; exact .bl b
  | .int i, _, _, h => by cases h; exact .int i
  | .str x, _, _, h => by cases h; exact .str x
  | .list ds, _, n, h => by
    cases h with
    | lst e m => exact .lst (SqL.of e) (ThAll.dp ds (by simpa [PyData.canLay0] using n) m)
  | .tuple ds, _, n, h => by
    cases h with
    | tup e m => exact .tup (SqT.of e) (ThAll.dp ds (by simpa [PyData.canLay0] using n) m)
  | .dict kvs, _, n, _ => by simp [PyData.canLay0] at n
theorem ThAll.dp {K : PySem.W.Frag} {H : Hp} : ∀ (ds : List PyData) {vs : List V}, PyData.canLayAll0 ds = true → ThAll H vs ds → DpAll K H vs ds
  | [], _, _, h => by cases h; exact .nil
  | d :: ds, _, n, h => by
    have n2 : d.canLay0 = true ∧ PyData.canLayAll0 ds = true := by simpa [PyData.canLayAll0] using n
    cases h with
    | cons a b => exact .cons (Th.dp d n2.1 a) (ThAll.dp ds n2.2 b)
end
theorem dp_ints {K : PySem.W.Frag} {H : Hp} {p : Addr} {l : List Nat} (e : H p = some (.lst (l.map vN))) : Dp K H (.ref p) (.list (l.map dN)) :=
  .lst (SqL.of e) (ThAll.dp _ (layAll_ints l) (ints_nat l))
def ringD (c : Cd) (e : PyData) : Prop := ∃ a k, a < c.2.length ∧ RingK c a k ∧ e = .list ((ringL c a k).map dN)
def spIsRing (C : Addr) : Sp := fun vs H Q E => ∃ v u d e, vs = [v, u] ∧ Th H v d ∧ Th H u e ∧ (∀ ds, e = .list ds → ds.length ≤ 100000) ∧ (isCd d = false → ∀ H', Same H H' → E (.ref C) none H') ∧
  (∀ c, d = cdD c → CdOk c → ∀ b H', (b = true ↔ ringD c e) → Same H H' → Q (.bl b) H')
/-- the coder ahead of whose step at k its word wasn't known -/
def prv (c : Cd) (k : Nat) : Cd := (k, c.2.set k (len c k - 1))
def bef (c : Cd) : List Nat := (List.range c.2.length).filter fun i => decide (go c i = c.1) && decide (0 < len c i)
theorem bef_le (c : Cd) : (bef c).length ≤ c.2.length := by
  unfold bef
  exact Nat.le_trans (List.length_filter_le _ _) (by rw [List.length_range]; exact Nat.le_refl _)
theorem bef_mem {c : Cd} {k : Nat} : k ∈ bef c ↔ k < c.2.length ∧ go c k = c.1 ∧ 0 < len c k := by
  unfold bef
  rw [List.mem_filter, List.mem_range, Bool.and_eq_true, decide_eq_true_eq, decide_eq_true_eq]
theorem prv_ok {c : Cd} (h : CdOk c) {k : Nat} (hk : k < c.2.length) : CdOk (prv c k) := by
  refine ⟨?_, ?_⟩
  · show k < (c.2.set k _).length
    rw [List.length_set]
    exact hk
  · show (c.2.set k _).length ≤ 12
    rw [List.length_set]
    exact h.2
def spTaken : Sp := fun vs H Q _ => ∃ (v : V) (c : Cd) (k : Nat), vs = [v, .int (k : Int)] ∧ Cat H v c ∧ CdOk c ∧ k < c.2.length ∧ 0 < len c k ∧ ∀ v' H', Same H H' → Cat H' v' (prv c k) → Q v' H'
def toldBefores (c : Cd) (Q : VK) (H : Hp) : Prop := ∀ p H' ws, H p = none → Same H H' → H' p = some (.lst ws) → ThAll H' ws ((bef c).map fun k => cdD (prv c k)) → Q (.ref p) H'
/-- the first of these that is free, or None -/
def BefV (c : Cd) (H' : Hp) (v : V) : Prop := (v = .non ∧ ∀ k, k ∈ bef c → ¬ Free (prv c k)) ∨ ∃ (i k : Nat), (bef c)[i]? = some k ∧ Free (prv c k) ∧ (∀ (j m : Nat), j < i → (bef c)[j]? = some m → ¬ Free (prv c m)) ∧ Cat H' v (prv c k)
def spBefore (C1 C2 : Addr) : Sp := fun vs H Q E => ∃ v d, vs = [v] ∧ Th H v d ∧ (isCd d = false → ∀ H', Same H H' → E (.ref C1) none H') ∧
  (∀ c, d = cdD c → CdOk c → (¬ Free c → ∀ H', Same H H' → E (.ref C2) none H') ∧ (Free c → ∀ v' H', Same H H' → BefV c H' v' → Q v' H'))
end Lk
end
section
set_option maxRecDepth 100000
set_option maxHeartbeats 4000000
/-! tuple * int, of any small number. -/
namespace Lk
open PySem PySem.Spec PyProof.Rows L2
theorem tup_mul_one (l : Addr) (items : Array Value) (n : Nat) (dd : Option Addr) (sl : Array (Option Value)) (u : Tok) :
    Meets (Builtin.«tuple.__mul__» ⟨[.ref l, .int 1 u], []⟩) (fun _ R s => s.heap.get? l = some { cls := .type "tuple", dict := dd, data := .seq items n, slots := sl } ∧ R (.ok (.ret (Value.ref l))) s) :=
  .of_wp fun prog w A R s h => by
    obtain ⟨hp, g, d, tk, os⟩ := s
    obtain ⟨hl, h⟩ := h
    have f1 := AutoSeq1.idx_int
    wp_walk using wpAny_loadPart' hl
    repeat (first
      | (refine wpAny_ite_false (decide_eq_false (by decide)) ?_; wp_walk using wpAny_loadPart' hl)
      | (refine wpAny_ite_true (decide_eq_true (by simp)) ?_; wp_walk using wpAny_loadPart' hl))
    exact ⟨_, rfl, h⟩
theorem tup_mul_none (l : Addr) (items : Array Value) (n : Nat) (dd : Option Addr) (sl : Array (Option Value)) (x : Int) (u : Tok) (h0 : x ≤ 0) (hb : -(2 ^ 63) ≤ x) (hi : items.isEmpty = false) :
    Meets (Builtin.«tuple.__mul__» ⟨[.ref l, .int x u], []⟩) (fun _ R s => s.heap.get? l = some { cls := .type "tuple", dict := dd, data := .seq items n, slots := sl } ∧
      R (.ok (.ret (Value.ref s.heap.objs.size))) { s with heap := s.heap.push { cls := Value.type "tuple", data := Data.seq #[] } }) :=
  .of_wp fun prog w A R s h => by
    obtain ⟨hp, g, d, tk, os⟩ := s
    obtain ⟨hl, h⟩ := h
    have f1 := AutoSeq1.idx_int
    have c0 : (decide (x < -(2 ^ 63)) || decide (x ≥ 2 ^ 63)) = false := by
      rw [decide_eq_false (by omega), decide_eq_false (by omega)]
      rfl
    have c1 : (items.isEmpty || x == 1) = false := by
      rw [hi, Bool.false_or]
      exact beq_eq_false_iff_ne.mpr (by omega)
    have c2 : (decide (x ≤ 0) || items.isEmpty) = true := by
      rw [decide_eq_true h0]
      rfl
    wp_walk using wpAny_loadPart' hl
    repeat (first
      | (refine wpAny_ite_false (decide_eq_false (by rw [c0]; exact Bool.false_ne_true)) ?_; wp_walk using wpAny_loadPart' hl)
      | (refine wpAny_ite_false (decide_eq_false (by rw [c1]; exact Bool.false_ne_true)) ?_; wp_walk using wpAny_loadPart' hl)
      | (refine wpAny_ite_true (decide_eq_true (by rw [c2])) ?_; wp_walk using wpAny_loadPart' hl))
    exact ⟨_, rfl, h⟩
/-- xs * k, new or not -/
def rMulT (K : PySem.W.Frag) : R2 := fun x y H Q => ∃ l k xs, x = .ref l ∧ y = .int k ∧ SqT K H l xs ∧ xs ≠ [] ∧ -1000 ≤ k ∧ k ≤ 1000 ∧ xs.length ≤ 1000 ∧ ∀ p H', Same H H' → (SqT K H' p (List.replicate k.toNat xs).flatten) → (H' p = some (.tup (List.replicate k.toNat xs).flatten) ∨ k = 1 ∧ p = l) → Q (.ref p) H'
theorem op_mulT {X : Cx} : OpR X (binaryOp .Mult) (rMulT X.K) := by
  intro pins s σ H x y v u Q I rx ry h
  obtain ⟨l, k, xs, rfl, rfl, hT, hne, h1, h2, hz, q⟩ := h
  by_cases g2 : 2 ≤ k
  · exact op_repT pins s σ H _ _ v u Q I rx ry ⟨l, k, xs, rfl, rfl, hT, hne, g2, h2, hz, fun p hp => q p _ (same_new hp) (.inl (.inl upd_same)) (.inl upd_same)⟩
  · cases rx
    obtain ⟨t, rfl⟩ := ry
    obtain ⟨its, r, ⟨⟨cls, dd, data, sl⟩, ho, hc, n, hd⟩, hs⟩ := I.tuple hT
    simp only at hc hd
    subst hc hd
    have hi : its.toArray.isEmpty = false := by
      cases its with
      | nil =>
        cases r
        exact absurd rfl hne
      | cons a b => rfl
    by_cases g1 : k = 1
    · subst g1
      refine wpAny_binaryOp_repeat_ref (T := "tuple") (U := "int") (by decide) ⟨_, ho, rfl⟩ (fun s' => typeIs_int s' 1 t) noFill_tuple_mul PySem.F.fills_int_mul PySem.F.slot_int_rmul repeat_tuple PySem.F.slot_int_index.lookup
        (call_meets PySem.F.slot_int_rmul (typeIs_int s 1 t) PySem.F.entry_int_rmul (PySem.F.args_int_rmul_2 _ _) (int_rmul_tuple 1 t l its.toArray n dd sl)
          ⟨ho, rfl, ⟨_, ho, rfl⟩, call_meets PySem.F.slot_tuple_mul ⟨_, ho, rfl⟩ PySem.F.entry_tuple_mul (PySem.F.args_tuple_mul_2 _ _) (tup_mul_one l its.toArray n dd sl t) ⟨ho, ?_⟩⟩)
      refine ⟨.ref l, H, I, rfl, q l H (Same.refl H) ?_ (.inr ⟨rfl, rfl⟩)⟩
      rw [show (List.replicate (1 : Int).toNat xs).flatten = xs by simp]
      exact hT
    · have g0 : k ≤ 0 := by omega
      refine wpAny_binaryOp_repeat_ref (T := "tuple") (U := "int") (by decide) ⟨_, ho, rfl⟩ (fun s' => typeIs_int s' k t) noFill_tuple_mul PySem.F.fills_int_mul PySem.F.slot_int_rmul repeat_tuple PySem.F.slot_int_index.lookup
        (call_meets PySem.F.slot_int_rmul (typeIs_int s k t) PySem.F.entry_int_rmul (PySem.F.args_int_rmul_2 _ _) (int_rmul_tuple k t l its.toArray n dd sl)
          ⟨ho, rfl, ⟨_, ho, rfl⟩, call_meets PySem.F.slot_tuple_mul ⟨_, ho, rfl⟩ PySem.F.entry_tuple_mul (PySem.F.args_tuple_mul_2 _ _) (tup_mul_none l its.toArray n dd sl k t g0 (by omega) hi) ⟨ho, ?_⟩⟩)
      have e0 : (List.replicate k.toNat xs).flatten = [] := by rw [show k.toNat = 0 by omega]; rfl
      have hf : H s.heap.objs.size = none := I.hok.fresh (Nat.le_refl _)
      refine ⟨.ref s.heap.objs.size, upd H s.heap.objs.size (.tup []), I.laid (t' := s.toks) (o := .tup []) (fun b ob q => Heap.get?_push_of_some _ q) (Nat.le_refl _) ?_, rfl, q _ _ (same_new hf) ?_ ?_⟩
      · exact ⟨by show 0 ≤ sizeLine; exact Nat.zero_le _, [], .nil, IsTup.new _ _⟩
      · rw [e0]
        exact .inl (.inl upd_same)
      · rw [e0]
        exact .inl upd_same
/-! ### tuples that were made in the run -/
def rCutT : V → Option Int → Option Int → Hp → VK → Prop := fun x lo hi H Q => ∃ a xs, x = .ref a ∧ H a = some (.tup xs) ∧ ∀ b H', Same H H' → H' b = some (.tup (cutV xs lo hi)) → Q (.ref b) H'
theorem sl_cutT {X : Cx} : SlR X rCutT := by
  intro pins s σ H x v vl vu lo hi sl Q I rx hs pl pu h
  obtain ⟨a, xs, rfl, hx, q⟩ := h
  refine sl_tupA pins s σ H _ v vl vu _ _ sl Q I rx hs pl pu ⟨a, xs, rfl, SqT.of hx, fun z => ?_, fun z p hp => ?_⟩
  · refine q a H (Same.refl H) ?_
    have e : cutV xs lo hi = xs := by
      unfold cutV
      rw [z.1, z.2, List.drop_zero, Nat.sub_zero, List.take_length]
    rw [e]
    exact hx
  · exact q p _ (same_new hp) upd_same
def rAddT : R2 := fun x y H Q => ∃ a b xs ys, x = .ref a ∧ y = .ref b ∧ H a = some (.tup xs) ∧ H b = some (.tup ys) ∧ xs.length + ys.length ≤ sizeLine ∧ ∀ p H', Same H H' → H' p = some (.tup (xs ++ ys)) → Q (.ref p) H'
theorem op_addT {X : Cx} : OpR X (binaryOp .Add) rAddT := by
  intro pins s σ H x y v u Q I rx ry h
  obtain ⟨a, b, xs, ys, rfl, rfl, ha, hb, hl, q⟩ := h
  refine op_catA pins s σ H _ _ v u Q I rx ry ⟨a, b, xs, ys, rfl, rfl, SqT.of ha, SqT.of hb, hl, fun e => ?_, fun _ e => ?_, fun _ _ p hp => q p _ (same_new hp) upd_same⟩
  · subst e
    exact q b H (Same.refl H) hb
  · subst e
    exact q a H (Same.refl H) (by rw [List.append_nil]; exact ha)
def rRepTT : R2 := fun x y H Q => ∃ l k xs, x = .ref l ∧ y = .int k ∧ H l = some (.tup xs) ∧ xs ≠ [] ∧ -1000 ≤ k ∧ k ≤ 1000 ∧ xs.length ≤ 1000 ∧ ∀ p H', Same H H' → H' p = some (.tup (List.replicate k.toNat xs).flatten) → Q (.ref p) H'
theorem op_repTT {X : Cx} : OpR X (binaryOp .Mult) rRepTT := by
  intro pins s σ H x y v u Q I rx ry h
  obtain ⟨l, k, xs, rfl, rfl, hT, hne, h1, h2, hz, q⟩ := h
  refine op_mulT pins s σ H _ _ v u Q I rx ry ⟨l, k, xs, rfl, rfl, SqT.of hT, hne, h1, h2, hz, fun p H' s1 _ z => q p H' s1 ?_⟩
  rcases z with z | ⟨rfl, rfl⟩
  · exact z
  · rw [show (List.replicate (1 : Int).toNat xs).flatten = xs by simp]
    exact s1 _ _ hT
end Lk
end
section
set_option maxRecDepth 100000
set_option maxHeartbeats 2000000
namespace Lk
open PySem PySem.Spec PyProof.Rows L2
/-! ### xs.count(b), a list of truths -/
def eqB (k : Bool) (v : Value) : Bool := match v with
  | .bool n => n == k
  | _ => false
theorem bools_of : ∀ {bs : List Bool} {us : List Value}, Vals (bs.map V.bl) us → us = bs.map Value.bool
  | [], _, r => by cases r; rfl
  | b :: bs, _, r => by
    cases r with
    | cons r1 r2 =>
      rw [bools_of r2]
      cases (show _ = Value.bool b from r1)
      rfl
theorem eqB_count (k : Bool) : ∀ bs : List Bool, (bs.map Value.bool).countP (eqB k) = bs.count k
  | [] => rfl
  | b :: bs => by
    rw [List.map_cons, List.countP_cons, List.count_cons, eqB_count k bs]
    rfl
section
variable {X : Cx}
def rCntB (K : PySem.W.Frag) : V → List V → Hp → VK → Prop := fun x xs H Q => ∃ (p : Addr) (bs : List Bool) (k : Bool), x = .ref p ∧ xs = [.bl k] ∧ SqL K H p (bs.map V.bl) ∧ Q (.int (bs.count k : Nat)) H
theorem mt_lcountB : MtR X "list.count" (rCntB X.K) := by
  intro pins s σ H x xs v us Q I rx rxs h
  obtain ⟨p, bs, k, rfl, rfl, hs, q⟩ := h
  cases rx
  obtain ⟨u, rfl, ru⟩ := rxs.one
  cases (show u = Value.bool k from ru)
  obtain ⟨its, rv, ⟨⟨cls, dd, data, sl⟩, n, ho, hc, hdn, hd⟩, hlen⟩ := I.list hs
  simp only at hc hd
  subst hc hd
  have hi := bools_of rv
  subst hi
  refine call_meets PySem.F.slot_list_count ⟨_, ho, rfl⟩ PySem.F.entry_list_count (PySem.F.args_list_count_2 _ _)
    (SeqAt.list_countAt p (bs.map Value.bool).toArray n dd sl (.bool k) (eqB k)) ⟨ho, fun y hy => ?_, ?_⟩
  · have hy' : y ∈ bs.map Value.bool := by simpa using hy
    obtain ⟨b, _, rfl⟩ := List.mem_map.mp hy'
    exact SeqAt.EqAt.bool_bool b k
  · refine ⟨.int (bs.count k : Nat), H, I.tok _, ⟨s.toks, ?_⟩, q⟩
    show Value.int (((bs.map Value.bool).toArray.toList.countP (eqB k) : Nat) : Int) s.toks = Value.int ((bs.count k : Nat) : Int) s.toks
    rw [show (bs.map Value.bool).toArray.toList = bs.map Value.bool from rfl, eqB_count]
end
theorem kit_self {K : PySem.W.Frag} (C : Addr) : PySem.W.kitOne K (.ref C) (.ref C) = some true := by
  unfold PySem.W.kitOne
  rw [if_pos (beq_self_eq_true _)]
/-- isinstance(caught, x), x a class of the program's own; caught in slot 0 -/
def tIsG (K : PySem.W.Frag) (C : Addr) : TE := fun σ H Q => ∃ a D b, σ[0]? = some (some (.ref a)) ∧ ExcC K D ∧ H a = some (ExT (.ref D) none a) ∧ PySem.W.kitOne K (.ref D) (.ref C) = some b ∧ Q (.bl b) H
theorem pe_isG {X : Cx} {x : Str} {C : Addr} {p p1 p2 pos : Pos} (mi : X.mg "isinstance" = none) (g : X.mg x = some (.ref C)) (hi : Gl X "isinstance") (hg : Gl X x) (hN : X.N[0]? = some ("caught" : Str)) (hv : Vis X.env.scope ("caught" : Str)) (hd : (x == ("__debug__" : Str)) = false := by decide)
    (hs1 : starEach [Expr.Name "caught" p1, Expr.Name x p2] X.env = (false, eval (.Name "caught" p1) X.env) :: starEach [Expr.Name x p2] X.env := by rfl) (hs2 : starEach [Expr.Name x p2] X.env = (false, eval (.Name x p2) X.env) :: starEach [] X.env := by rfl) :
    PE X (.Call (.Name "isinstance" p) [.Name "caught" p1, .Name x p2] [] pos) (tIsG X.K C) := by
  have h : PE X (.Call (.Name "isinstance" p) [.Name "caught" p1, .Name x p2] [] pos) _ := pe_callB call_isX hi mi (by decide +kernel) (pa_cons (pv 0 hN hv) (pa_cons (pe_glob (v := .ref C) hg g rfl hd) pa_nil))
  refine ⟨fun pins s σ H Q I q => h.run pins s σ H Q I ?_⟩
  obtain ⟨a, D, b, e, c, ha, k, q⟩ := q
  exact ⟨.ref a, e, a, D, .ref C, _, b, rfl, c, ha, .own C, k, q⟩
/-- x names a class that the class at CL is under or not -/
def IsB (K : PySem.W.Frag) (mg : Str → Option Value) (CL : Addr) (x : Str) (b : Bool) : Prop := ∃ C, mg x = some (.ref C) ∧ PySem.W.kitOne K (.ref CL) (.ref C) = some b
/-- the classes of errors, seen from the one at CL -/
structure Errs (K : PySem.W.Frag) (mg : Str → Option Value) (CL : Addr) (b1 b2 b3 b4 b5 b6 b7 : Bool) : Prop where
  C : ExcC K CL
  ve : mg "ValueError" = none
  yes : PySem.W.kitOne K (.ref CL) (.type "ValueError") = some true
  iso : mg "isinstance" = none
  e1 : IsB K mg CL "NoKnown" b1
  e2 : IsB K mg CL "NoText" b2
  e3 : IsB K mg CL "NoPairs" b3
  e4 : IsB K mg CL "NoLoop" b4
  e5 : IsB K mg CL "NoCoder" b5
  e6 : IsB K mg CL "NoCount" b6
  e7 : IsB K mg CL "NotRound" b7
  f1 : IsB K mg CL "NoCounts" false
  f2 : IsB K mg CL "NoLog" false
  f3 : IsB K mg CL "NoPlace" false
  f4 : IsB K mg CL "NoRow" false
  f5 : IsB K mg CL "NoSign" false
  f6 : IsB K mg CL "NoTree" false
  f7 : IsB K mg CL "NoWord" false
  f8 : IsB K mg CL "NotLike" false
  f9 : IsB K mg CL "Nothing" false
def OneHot (b1 b2 b3 b4 b5 b6 b7 : Bool) : Prop := (b1 = true ∧ b2 = false ∧ b3 = false ∧ b4 = false ∧ b5 = false ∧ b6 = false ∧ b7 = false) ∨ (b1 = false ∧ b2 = true ∧ b3 = false ∧ b4 = false ∧ b5 = false ∧ b6 = false ∧ b7 = false) ∨ (b1 = false ∧ b2 = false ∧ b3 = true ∧ b4 = false ∧ b5 = false ∧ b6 = false ∧ b7 = false) ∨ (b1 = false ∧ b2 = false ∧ b3 = false ∧ b4 = true ∧ b5 = false ∧ b6 = false ∧ b7 = false) ∨ (b1 = false ∧ b2 = false ∧ b3 = false ∧ b4 = false ∧ b5 = true ∧ b6 = false ∧ b7 = false) ∨ (b1 = false ∧ b2 = false ∧ b3 = false ∧ b4 = false ∧ b5 = false ∧ b6 = true ∧ b7 = false) ∨ (b1 = false ∧ b2 = false ∧ b3 = false ∧ b4 = false ∧ b5 = false ∧ b6 = false ∧ b7 = true)
/-- the name by which the law knows it -/
def clsName (b1 b2 b3 b4 b5 b6 b7 : Bool) : Str := if b1 then "NoKnown" else if b2 then "NoText" else if b3 then "NoPairs" else if b4 then "NoLoop" else if b5 then "NoCoder" else if b6 then "NoCount" else if b7 then "NotRound" else "odd"
def spClass (CL : Addr) (nm : Str) : Sp := fun vs H Q _ => ∃ a, vs = [.ref a] ∧ H a = some (ExT (.ref CL) none a) ∧ ∀ H', Same H H' → Q (.str nm) H'
end Lk
end
section
set_option maxRecDepth 100000
set_option maxHeartbeats 2000000
/-! A def called in an except suite on the error that is handled: isinstance of it, a list made over a range there. -/
namespace Lk
open PySem PySem.Spec PyProof.Rows L2 L2H HotX
section
variable {X : Cx} {pins : List (Addr × Obj)} {σ : L2.St} {H : Hp} {s : Shared}
/-- isinstance(e, c), e a pinned error -/
def rIsP (K : PySem.W.Frag) (p : Addr × Obj) : List V → Hp → VK → Prop := fun xs H Q => ∃ (D : Addr) (c : V) (u : Value) (b : Bool), xs = [.ref p.1, c] ∧ ExcC K D ∧ Zc (.ref D) none p.2 ∧ (∃ vs, p.2.data = .fields vs) ∧ ClsV c u ∧ PySem.W.kitOne K (.ref D) u = some b ∧ Q (.bl b) H
theorem call_isP {p : Addr × Obj} (hp : p ∈ X.pn) : CallR X (.builtin "isinstance") (rIsP X.K p) := by
  intro pins s σ H xs us Q I r h
  obtain ⟨D, c, u, b, rfl, C, hz, ⟨vs, hv⟩, k, e, q⟩ := h
  obtain ⟨u1, u2, rfl, r1, r2⟩ := vals2 r
  have e2 := k.eq r2
  subst e2
  cases (show u1 = Value.ref p.1 from r1)
  have hget := (I.pin p (List.mem_append_left _ hp)).1
  have J : PySem.W.InstAt s.heap p.1 p.2 D none := by
    obtain ⟨a, oc, od, oda, osl⟩ := p
    obtain ⟨h1, h2⟩ := hz
    dsimp only at h1 h2 hv hget
    subst h1 h2 hv
    exact ⟨hget, rfl, rfl, trivial⟩
  exact PySem.W.kia_one (PySem.W.handS_kitx_exc C.hg C.hk C.hs C.hd C.ha C.hn C.ht C.hm) I.kIn J e (fun z => nomatch z) fun tk => ⟨.bl b, H, I.tok tk, rfl, q⟩
end
/-! ### such a def -/
structure FnE (P : Program) (w : World) (K : PySem.W.Frag) (mg : Str → Option Value) (base : Heap) (k : Nat) (f : Addr) (fd : FuncData) (x : Str) (D : Addr) (told : VK → Hp → Prop) : Prop where
  run : ∀ (A : Around) (outer : List Env) (s : Shared) (H : Hp) (args : Args) (Q : VK) (p : Addr × Obj), RoomH k A → Hot1 A p → Zc (.ref D) none p.2 → PinOk outer H s p → Env0 P w K mg base A outer s H → BindsTo s fd args ([x].zip [.ref p.1]) → told Q H →
    codeAny (model P w) A (.call (.ref f) args) (CR C8.CX0 outer P w H s Q C8.E0) s
section
variable {P : Program} {w : World} {K : PySem.W.Frag} {mg : Str → Option Value} {base : Heap}
theorem fnE_of {x n qual : Str} {st : Stmt} {f D : Addr} {fd : FuncData} {N : List Str} {k : Nat} {told : VK → Hp → Prop} (F : Fun K n qual st f fd) (S : FnScope N [x] (defScope st))
    (body : ∀ (cdv : Value) (A : Around) (outer : List Env) (s : Shared) (H : Hp) (Q : VK) (p : Addr × Obj), Hot1 A p → Zc (.ref D) none p.2 → RoomH k (A.deeper (envOfC qual (defScope st) s.heap.objs.size f cdv)) → told Q H →
      ∃ t, PSs (cxH C8.CX0 P w K mg base N qual (defScope st) f cdv A outer s H C8.E0 p) (defBody st) t ∧ t { nx := fun _ H2 => Q .non H2, rt := Q } (L2.start N [.ref p.1]) H) : FnE P w K mg base (k + 1) f fd x D told := by
  obtain ⟨oc, od, kV, doc, pm, an, cdv, ct, osl, rfl, lk, code⟩ := F.ex
  refine ⟨fun A outer s H args Q p hr hot hz pin e0 hb ht => ?_⟩
  have inK : K.In s.heap := e0.mod.kin.keeps fun b o q => (e0.bs b o q).1
  have free : s.heap.NoLimit := e0.mod.nolimit.keeps fun b o q => (e0.bs b o q).1
  refine codeAny_call_function hr.depth (inK _ _ lk) rfl S.co S.gen rfl (PySem.W.codeRec_of inK code) (hb _ _ _ _ (wpAny_newFunctionEnv_cells S.kind (fun ⟨n, v⟩ hy => ?_) fun env he s1 x1 => ?_))
  · exact (S.par n (List.of_mem_zip hy).1).imp id fun q => ⟨q, PySem.W.cellsFrom_some _ _ _ (.inl q)⟩
  · subst he
    obtain ⟨t, hs, q⟩ := body cdv A outer s H Q p hot hz (hr.deeper _) ht
    have I0 : Inv (cxH C8.CX0 P w K mg base N qual (defScope st) f cdv A outer s H C8.E0 p) [] (L2.start N [.ref p.1]) H s1 := inv_startH (us := [.ref p.1]) S pin e0 rfl (.cons rfl .nil) x1
    refine ⟨free.keeps x1.toInCall.keep, codeAny_func (wpAny_mono (hs.run [] s1 _ H _ I0 q) (fun fl s2 z => ?_) fun _ _ z => z)⟩
    match fl, z with
    | .ret u, ⟨v, _, H2, J, rv, q2⟩ => exact ⟨v, H2, J.os, J.bare, J.base, J.hok, rv, q2⟩
    | .next, ⟨_, H2, J, q2⟩ => exact ⟨V.non, H2, J.os, J.bare, J.base, J.hok, (rfl : RelV .non Value.none), q2⟩
    | .brk, ⟨_, _, _, no⟩ => exact no.elim
    | .cont, ⟨_, _, _, no⟩ => exact no.elim
end
section
variable {X : Cx} {k i : Nat} {f D : Addr} {fd : FuncData} {x y n : Str} {told : VK → Hp → Prop} {p q pos : Pos} {pe : Addr × Obj}
/-- x(e) in the suite, e the error -/
theorem pe_callE (F : FnE X.prog X.w X.K X.mg X.base k f fd y D told) (hr : RoomH k X.A) (hot : Hot1 X.A pe) (hp : pe ∈ X.pn) (hz : Zc (.ref D) none pe.2) (hg : Gl X x) (hm : X.mg x = some (.ref f)) (hk : PySem.W.keepIn X.K (.ref f) = true) (hb : Binds X.K fd [y] [])
    (hN : X.N[i]? = some n) (hv : Vis X.env.scope n) (hdb : (x == ("__debug__" : Str)) = false := by decide) (hd2 : (n == ("__debug__" : Str)) = false := by decide) (hcd : (n == ("__classdict__" : Str)) = false := by decide)
    (he : starEach [Expr.Name n q] X.env = (false, eval (.Name n q) X.env) :: starEach [] X.env := by rfl) (hpl : (backTo pos (starEach [] X.env)).any (·.1) = false := by rfl) :
    PE X (.Call (.Name x p) [.Name n q] [] pos) (fun σ H Q => σ[i]? = some (some (.ref pe.1)) ∧ told Q H) := by
  refine ⟨fun pins s σ H Q I ⟨hs, ht⟩ => ?_⟩
  refine wpAny_Call_Name_kw (ld_glob I hg hm ?_ hdb)
  have ha : PA X [Expr.Name n q] (tCons (tVar i) tNil) := pa_cons (pe_var hN hv hd2 hcd) pa_nil
  refine PySem.W.callWith_K (h₀ := X.base) I.ok.mod.kin hk (thn (ha.run pos pins s σ H (fun vs H1 => vs = [.ref pe.1] ∧ H1 = H) I ⟨_, hs, rfl, rfl⟩) fun us s1 ⟨vs, H1, I1, r, ev, eH⟩ => ⟨I1.kIn, ?_⟩) he hpl
  subst ev eH
  obtain ⟨u, rfl, ru⟩ := vals1 r
  cases (show u = Value.ref pe.1 from ru)
  have b := hb s1 [.ref pe.1] I1.kIn rfl
  rw [List.append_nil] at b
  have P1 := I1.pin pe (List.mem_append_left _ hp)
  have pin : PinOk X.stack H1 s1 pe := ⟨P1.1, P1.2.1, fun hm => (List.mem_cons.mp (I1.stkSub pe.1 hm)).elim P1.2.2.1 P1.2.2.2.1, P1.2.2.2.2⟩
  refine wpAny_call (codeAny_mono (F.run X.A X.stack s1 H1 _ Q pe hr hot hz pin I1.env0 b ht) fun r2 s2 z => ?_)
  match r2, z with
  | .ok (.ret u), z => exact I1.after z
  | .ok .next, z => exact z.elim
  | .ok .brk, z => exact z.elim
  | .ok .cont, z => exact z.elim
  | .error _, z => exact z.elim
end
end Lk
end
section
set_option maxRecDepth 100000
set_option maxHeartbeats 2000000
/-! [elt for target in iter if ..] while an error is handled. -/
namespace Lk
open PySem PySem.Spec PyProof.Rows L2 L2H HotX
section
variable {X : Cx}
/-- a block's context that bears the pinned thing p -/
abbrev blkP (X : Cx) (s : Shared) (H : Hp) (scope : Scope) (ce : Env) (fp : List Addr) (p : Addr × Obj) : Cx := { X.blk s H scope ce fp with pn := [p] }
structure PinB (X : Cx) (H0 : Hp) (h0 : Heap) (fp : List Addr) (ce : Env) (p : Addr × Obj) : Prop where
  get : h0.get? p.1 = some p.2
  none : H0 p.1 = none
  nfs : p.1 ∉ frs X.stack
  nfp : p.1 ∉ fp
  nl : p.1 ≠ ce.locals
  nc : ∀ v, p.2.data ≠ .cell v
theorem to_pin {s0 s : Shared} {H0 H : Hp} {scope : Scope} {ce : Env} {fp : List Addr} {p : Addr × Obj} {pins : List (Addr × Obj)} {σ : L2.St} (b : PinB X H0 s0.heap fp ce p) (I : Inv (X.blk s0 H0 scope ce fp) pins σ H s) : Inv (blkP X s0 H0 scope ce fp p) pins σ H s :=
  ⟨⟨I.ok.1, I.ok.2, I.ok.3, I.ok.4, I.ok.5, I.ok.6, I.ok.7, I.ok.8, I.ok.9, I.ok.10, I.ok.11, I.ok.12, I.ok.13, I.ok.14, I.ok.15, I.ok.16, I.ok.17, I.ok.18⟩, I.os, I.bare, I.base, I.loc, I.cell, I.free, I.freeC, fun q hq => by
    rcases List.mem_append.mp hq with h | h
    · rw [List.mem_singleton.mp h]
      exact ⟨I.base.keep p.1 p.2 b.get b.none b.nfs b.nfp, I.base.free p.1 p.2 b.get b.none b.nfp, b.nl, b.nfs, b.nc⟩
    · exact I.pin q (List.mem_append_right _ h), I.hok, I.len⟩
theorem from_pin {s0 s : Shared} {H0 H : Hp} {scope : Scope} {ce : Env} {fp : List Addr} {p : Addr × Obj} {pins : List (Addr × Obj)} {σ : L2.St} (I : Inv (blkP X s0 H0 scope ce fp p) pins σ H s) : Inv (X.blk s0 H0 scope ce fp) pins σ H s :=
  ⟨⟨I.ok.1, I.ok.2, I.ok.3, I.ok.4, I.ok.5, I.ok.6, I.ok.7, I.ok.8, I.ok.9, I.ok.10, I.ok.11, I.ok.12, I.ok.13, I.ok.14, I.ok.15, I.ok.16, I.ok.17, I.ok.18⟩, I.os, I.bare, I.base, I.loc, I.cell, I.free, I.freeC, fun q hq => I.pin q (List.mem_append_right _ hq), I.hok, I.len⟩
/-- over a range, the list as a value -/
theorem pe_lcH {elt tg iter : Expr} {ifs : List Expr} {scope : Scope} {own : List (Str × Nat)} {pos : Pos} {wi : TI} {g : TG} {tt : TT} {te : TE} {p : Addr × Obj} (hot : Hot1 X.A p) (hp : p ∈ X.pn) (nd : X.N.Nodup) (src : PIH X tg iter wi) (blk : BlkOk X.N X.env.scope scope own)
    (pg : ∀ (s : Shared) (H : Hp) (C : Addr) (cl : List (Str × Addr)) (fp : List Addr), PG (X.blk s H scope (compEnvC scope cl C X.env) fp) tg g)
    (pt : ∀ (s : Shared) (H : Hp) (C : Addr) (cl : List (Str × Addr)) (fp : List Addr), PTs (X.blk s H scope (compEnvC scope cl C X.env) fp) ifs tt)
    (pe : ∀ (s : Shared) (H : Hp) (C : Addr) (cl : List (Str × Addr)) (fp : List Addr), PE (X.blk s H scope (compEnvC scope cl C X.env) fp) elt te) (plain : ∀ x, foldedSetIterable iter X.env x = pure x := by intro _; rfl) :
    PE X (.ListComp elt [⟨tg, iter, ifs, 0⟩] scope pos) (tLc wi g tt te (own.map (·.2))) := by
  refine ⟨fun pins s σ H Q I wish => ?_⟩
  rw [eval_ListComp]
  have seen : ∀ y ∈ scope.names, y.2 = .free → ∃ c, X.env.cells.lookup y.1 = some c := fun y hy e => (blk.free y hy e).elim (fun z => I.ok.has _ (.inl z)) fun z => I.ok.has _ (.inr z)
  refine wpAny_comprehension_free (use := none) rfl plain (closure_ok seen) blk.kind (fun y hy e => by rw [blk.uniq y hy, e]) (thn (src.run pins s σ H _ I wish) fun v1 s1 z1 => thn z1 fun v2 s2 z2 => ?_)
  obtain ⟨it, fp, tn, J, H2, rfl, I2, T, at0, off, more⟩ := z2
  refine wpAny_newObj_type (newEnv_comp ?_) (by show 0 ≤ sizeLine; decide)
  obtain ⟨D, eD⟩ : ∃ D, s2.heap.objs.size = D := ⟨_, rfl⟩
  have freshD : H2 D = none := I2.hok.fresh (Nat.le_of_eq eD)
  obtain ⟨W, ⟨m0, w0⟩, turn⟩ := more D freshD
  obtain ⟨s3, e3⟩ : ∃ s3 : Shared, ({ s2 with heap := s2.heap.push { cls := .type "list", data := .seq ([] : List Value).toArray } } : Shared) = s3 := ⟨_, rfl⟩
  have h3 : s3.heap = s2.heap.push { cls := .type "list", data := .seq ([] : List Value).toArray } := by rw [← e3]
  have up3 : ∀ b o, s2.heap.get? b = some o → s3.heap.get? b = some o := fun b o e => by rw [h3]; exact Heap.get?_push_of_some _ e
  have I3 : Inv X pins σ (upd H2 D (.lst [])) s3 := by
    have z := I2.laid (a := D) (o := .lst []) (h' := s3.heap) (t' := s2.toks) up3 (Nat.le_of_eq eD) ⟨Nat.zero_le _, [], 0, .nil, by rw [h3, ← eD]; exact Heap.get?_push_size _ rfl⟩
    rw [← e3] at z ⊢
    exact z
  have small : ∀ b ∈ fp, b < s2.heap.objs.size := fun b hb => by
    obtain ⟨o, e, _⟩ := T.obj _ _ at0 b hb
    exact Heap.lt_size e
  have off3 : ∀ b ∈ fp, FpOk X pins (upd H2 D (.lst [])) b ∧ b < s3.heap.objs.size := fun b hb => by
    have lt := small b hb
    refine ⟨⟨?_, (off b hb).2⟩, ?_⟩
    · rw [upd_ne (by rw [← eD]; exact Nat.ne_of_lt lt)]
      exact (off b hb).1
    · rw [h3, Heap.size_push]
      exact Nat.lt_succ_of_lt lt
  have I4 := block_start I3 blk nd off3
  have g4 := pg s3 (upd H2 D (.lst [])) s3.heap.objs.size (cellsFrom (s3.heap.objs.size + 1) scope.names (cloFrom X.env.cells scope.names [])) fp
  have t4 := pt s3 (upd H2 D (.lst [])) s3.heap.objs.size (cellsFrom (s3.heap.objs.size + 1) scope.names (cloFrom X.env.cells scope.names [])) fp
  have e4 := pe s3 (upd H2 D (.lst [])) s3.heap.objs.size (cellsFrom (s3.heap.objs.size + 1) scope.names (cloFrom X.env.cells scope.names [])) fp
  rw [e3]
  show codeAny _ _ (.compStart (.ListComp elt [⟨tg, iter, ifs, 0⟩] scope pos) 0 (.ref it) (.ref s2.heap.objs.size) (compEnvC scope (cellsFrom (s3.heap.objs.size + 1) scope.names (cloFrom X.env.cells scope.names [])) s3.heap.objs.size X.env)) (compPost (model X.prog X.w) X.A X.xe none (EP X pins σ Q) (.ref s2.heap.objs.size) s3.heap.objs.size) { s3 with heap := pushCells (s3.heap.push { cls := .type "dict", data := .dict #[] }) scope.names }
  rw [eD]
  have noW : ∀ b ∈ fp, (upd H2 D (.lst [])) b = none := fun b hb => (off3 b hb).1.1
  have pinB : PinB X (upd H2 D (.lst [])) s3.heap fp (compEnvC scope (cellsFrom (s3.heap.objs.size + 1) scope.names (cloFrom X.env.cells scope.names [])) s3.heap.objs.size X.env) p := by
    have q := I3.pin p (List.mem_append_left _ hp)
    exact ⟨q.1, q.2.1, fun hm => (List.mem_cons.mp (I3.stkSub p.1 hm)).elim q.2.2.1 q.2.2.2.1, fun hm => (off3 p.1 hm).1.2.2.2.2.2 p (List.mem_append_left _ hp) rfl, Nat.ne_of_lt (Heap.lt_size q.1), q.2.2.2.2⟩
  obtain ⟨ce, ece⟩ : ∃ ce, compEnvC scope (cellsFrom (s3.heap.objs.size + 1) scope.names (cloFrom X.env.cells scope.names [])) s3.heap.objs.size X.env = ce := ⟨_, rfl⟩
  have cL : ce.locals = s3.heap.objs.size := by rw [← ece]; rfl
  rw [ece] at I4 g4 t4 e4 pinB ⊢
  generalize upd H2 D (.lst []) = HA at I3 I4 g4 t4 e4 w0 noW off3 pinB
  obtain ⟨s4, e5⟩ : ∃ s4 : Shared, ({ s3 with heap := pushCells (s3.heap.push { cls := .type "dict", data := .dict #[] }) scope.names } : Shared) = s4 := ⟨_, rfl⟩
  rw [e5] at I4 ⊢
  have at4 : tn 0 s4.heap := T.keep _ _ _ at0 fun b _ o e => by rw [← e5]; exact pushCells_keeps _ _ _ _ (Heap.get?_push_of_some _ (up3 b o e))
  have hotB : ∀ {s' : Shared} {H' : Hp} {ps : List (Addr × Obj)} {τ : L2.St}, Inv (blkP X s3 HA scope ce fp p) ps τ H' s' → HotC (blkP X s3 HA scope ce fp p) := fun _ => ⟨p, hot, List.mem_singleton.mpr rfl⟩
  have offB : ∀ {τ : L2.St} {H' : Hp} {s' : Shared}, Inv (blkP X s3 HA scope ce fp p) [] τ H' s' → (∀ b ∈ fp, H' b = none) → ∀ b ∈ fp, FpOk (blkP X s3 HA scope ce fp p) [] H' b := fun {τ H' s'} J' hn b hb =>
    ⟨hn b hb, (J'.ok.exf b hb).1, J'.ok.exfs b hb, .inl hb, fun x c e => (J'.ok.exf b hb).2 x c e, fun q hq z => pinB.nfp (by
      have hq2 : q ∈ [p] := by simpa using hq
      rw [List.mem_singleton.mp hq2] at z
      rw [z]
      exact hb)⟩
  have loop : codeAny (model X.prog X.w) X.A (.compLoop (.ListComp elt [⟨tg, iter, ifs, 0⟩] scope pos) 0 (.ref it) (.ref D) ce) (compPost (model X.prog X.w) X.A X.xe none (EP X pins σ Q) (.ref D) s3.heap.objs.size) s4 := by
    refine compLoop_any (fun n s' => ∃ i H', Inv (X.blk s3 HA scope ce fp) [] (wipe σ (own.map (·.2))) H' s' ∧ tn i s'.heap ∧ (∀ b ∈ fp, H' b = none) ∧ W i n H') ?_ m0 ⟨0, HA, I4, at4, noW, w0⟩
    rintro n s5 ⟨i, H5, I5, at5, no5, w5⟩
    have I5p := to_pin pinB I5
    rcases turn i n H5 w5 with ⟨stop, done⟩ | ⟨go, Nx, fall, step⟩
    · refine thnF (T.done (blkP X s3 HA scope ce fp p) rfl rfl rfl (hotB I5p) i [] s5 _ H5 (fun _ _ => False) I5p (offB I5p no5) at5 stop) fun r s6 ⟨hr, I6p⟩ => ?_
      subst hr
      have I6 := from_pin I6p
      have I7 : Inv X pins σ H5 s6 := I3.call' (ch := fp) I6.os I6.base I6.hok I6.bare fun b hb => by
        have q := (off3 b hb).1
        exact ⟨q.2.2.2.1, q.2.1, q.2.2.2.2.1, q.2.2.2.2.2⟩
      have nC : H5 s3.heap.objs.size = none := by
        have z : H5 ce.locals = none := I6.free
        rw [← cL]
        exact z
      obtain ⟨m, hn, _⟩ := I6.loc
      have hn2 : s6.heap.Ns s3.heap.objs.size m := by
        have z : s6.heap.Ns ce.locals m := hn
        rw [← cL]
        exact z
      obtain ⟨f0, f1, f2, f3, f4, f5⟩ := I3.fpOk (H' := H5) (b := s3.heap.objs.size) (Nat.le_refl _) nC
      exact ⟨m, hn2, fun h9 sb => ⟨.ref D, H5, I7.turned (t' := s6.toks) (fun b o hb e => (sb.2 b hb).trans e) f0 f1 f3 f4 f5, rfl, done⟩⟩
    · refine thnF (T.item (blkP X s3 HA scope ce fp p) rfl rfl rfl (hotB I5p) i [] s5 _ H5 (fun _ _ => False) I5p (offB I5p no5) at5 go) fun r s6 ⟨u, hr, z6⟩ => ?_
      subst hr
      refine thnF z6 fun _ s7 ⟨x, H7, I7p, r7, y7, at7, no7⟩ => ?_
      have I7 := from_pin I7p
      have offA : ∀ b ∈ fp, FpOk (X.blk s3 HA scope ce fp) [] H7 b := fun b hb => ⟨no7 b hb, (I7.ok.exf b hb).1, I7.ok.exfs b hb, .inl hb, fun x c e => (I7.ok.exf b hb).2 x c e, fun q hq => absurd (show q ∈ ([] : List (Addr × Obj)) ++ [] from hq) (by simp)⟩
      have I7q := I7.pinned offA (T.obj _ _ at7)
      refine thnF (g4.run _ s7 _ H7 x u _ I7q r7 (step x H7 y7)) fun _ s8 ⟨τ, H8, I8, same8, q8⟩ => ?_
      refine thnF (t4.run _ s8 τ H8 _ I8 q8) fun yes s9 ⟨H9, I9, q9⟩ => ?_
      have next : ∀ {s' : Shared} {H' : Hp}, Inv (X.blk s3 HA scope ce fp) ([] ++ pinsAt fp s7.heap) τ H' s' → Nx H' → ∃ m, m < n ∧ ∃ i H', Inv (X.blk s3 HA scope ce fp) [] (wipe σ (own.map (·.2))) H' s' ∧ tn i s'.heap ∧ (∀ b ∈ fp, H' b = none) ∧ W i m H' := fun {s' H'} J' nx => by
        obtain ⟨m2, lt, w2⟩ := fall H' nx
        have keep7 : ∀ b ∈ fp, ∀ o, s7.heap.get? b = some o → s'.heap.get? b = some o ∧ H' b = none := fun b hb o e => by
          have z := J'.pin (b, o) (List.mem_append_right _ (List.mem_append_right _ (mem_pinsAt hb e)))
          exact ⟨z.1, z.2.1⟩
        refine ⟨m2, lt, i + 1, H', (J'.unpinned (pins := [])).weak (by rw [← same8, wipe_length]) (fun j v e => ?_), T.keep _ _ _ at7 fun b hb o e => (keep7 b hb o e).1, fun b hb => ?_, w2⟩
        · rw [← same8] at e
          exact (wipe_some e).1
        · obtain ⟨o, e, _⟩ := T.obj _ _ at7 b hb
          exact (keep7 b hb o e).2
      cases yes with
      | false => exact next I9 q9
      | true => exact thnF (e4.run _ s9 τ H9 _ I9 q9) fun z s10 ⟨yv, H10, I10, r10, acc, a1, a2, nx⟩ => app_ok (X := X.blk s3 HA scope ce fp) I10 a1 a2 r10 fun s11 I11 => next I11 nx
  exact codeAny_compStart_list loop (T.self X.A 0 _ _ _ at4 loop)
end
end Lk
end
section
set_option maxRecDepth 100000
set_option maxHeartbeats 2000000
/-! Defs that raise where nothing is handled, told with that; what calls them. -/
namespace Lk
open PySem PySem.Spec PyProof.Rows L2
section
variable {P : Program} {w : World} {K : PySem.W.Frag} {mg : Str → Option Value} {base : Heap}
theorem okN {x qual : Str} {st : Stmt} {f : Addr} {fd : FuncData} {N ps : List Str} {k : Nat} {sp : Sp} (F : Fun K x qual st f fd) (S : FnScope N ps (defScope st)) (len : ∀ vs H Q E, sp vs H Q E → vs.length = ps.length)
    (hbody : ∀ (cdv : Value) (A : Around) (outer : List Env) (s : Shared) (H : Hp) (vs : List V) (Q : VK) (E : XK), Room k (A.deeper (envOfC qual (defScope st) s.heap.objs.size f cdv)) → sp vs H Q E →
      ∃ t, PSs (cxOf (L2N.CX P w) P w K mg base N qual (defScope st) f cdv A outer s H E) (defBody st) t ∧ t { nx := fun _ H' => Q .non H', rt := Q } (L2.start N vs) H) : FnOk P w K mg base (L2N.CX P w) (k + 1) f fd ps sp := by
  obtain ⟨oc, od, kV, doc, pm, an, cdv, ct, osl, rfl, lk, hcd⟩ := F.ex
  exact fn_of lk hcd S len fun A outer s H vs Q E hr hsp => hbody cdv A outer s H vs Q E hr hsp
end
structure CalN (P : Program) (w : World) (K : PySem.W.Frag) (mg : Str → Option Value) (base : Heap) (k : Nat) (x : Str) (sp : Sp) : Prop where
  ex : ∃ (f : Addr) (fd : FuncData) (ps : List Str), FnOk P w K mg base (L2N.CX P w) k f fd ps sp ∧ mg x = some (.ref f) ∧ PySem.W.keepIn K (.ref f) = true ∧ Binds K fd ps []
section
variable {X : Cx} {k j : Nat} {x : Str} {sp : Sp} {p pos : Pos} {e : Expr} {es : List Expr} {t : TA} {W : WX}
theorem pe_cN (c : CalN X.prog X.w X.K X.mg X.base k x sp) (tk : L2N.Takes X W) (hr : Room j X.A) (hk : k ≤ j) (hg : Gl X x) (ha : PA X (e :: es) t)
    (hdb : (x == ("__debug__" : Str)) = false := by decide) (he : starEach (e :: es) X.env = (false, eval e X.env) :: starEach es X.env := by rfl) (hpl : (backTo pos (starEach es X.env)).any (·.1) = false := by rfl) :
    PE X (.Call (.Name x p) (e :: es) [] pos) (tCallS sp (WE W) t) := by
  obtain ⟨f, fd, ps, F, hm, kp, b⟩ := c.ex
  exact pe_callS F (hr.mono hk) hg hm kp b (fun σ => L2N.passAt tk σ) ha hdb he hpl
/-- .. where it raises nothing -/
theorem pe_cN0 (c : CalN X.prog X.w X.K X.mg X.base k x sp) (hr : Room j X.A) (hk : k ≤ j) (hg : Gl X x) (ha : PA X (e :: es) t)
    (hdb : (x == ("__debug__" : Str)) = false := by decide) (he : starEach (e :: es) X.env = (false, eval e X.env) :: starEach es X.env := by rfl) (hpl : (backTo pos (starEach es X.env)).any (·.1) = false := by rfl) :
    PE X (.Call (.Name x p) (e :: es) [] pos) (tCall sp [] E0 t) := by
  obtain ⟨f, fd, ps, F, hm, kp, b⟩ := c.ex
  exact pe_call F (hr.mono hk) hg hm kp b .nil (fun _ _ _ _ _ _ _ h => by obtain ⟨_, _, _, _, _, _, _, _, _, _, _, _, z⟩ := h; exact z.elim) ha hdb he hpl
/-- x(f"..") that is raised -/
theorem pmkN1 {C : Addr} {bm : List Value} {B n1 n2 : String} {a : Expr} {ta : TE} (F : ExcBaseFacts B n1 n2 bm) (q : PySem.W.excIn X.K C bm n1 = true) (g : X.mg x = some (.ref C)) (kC : PySem.W.keepIn X.K (.ref C) = true) (r : Raises X (.ref C)) (hg : Gl X x)
    (he : PE X a ta) (hs : starEach [a] X.env = (false, eval a X.env) :: starEach [] X.env := by rfl) (hdb : (x == ("__debug__" : Str)) = false := by decide) :
    L2N.PMk X (.Call (.Name x p) [a] [] pos) (fun σ H Q => ta σ H fun _ H1 => Q (.ref C) none H1) := by
  intro pins s σ H Q I h
  refine wpAny_Call_Name_kw (ld_glob I hg g ?_ hdb)
  refine PySem.W.callWith_K (h₀ := X.base) I.ok.mod.kin kC ?_ hs rfl
  rw [hs]
  show wpAny (model X.prog X.w) X.A (spliced ((false, eval a X.env) :: backTo pos (starEach [] X.env))) _ X.xe s
  refine Calls.spliced_cons (thn (he.run pins s σ H _ I h) fun u1 t1 ⟨w1, G1, J1, z1, y1⟩ => Calls.spliced_nil ⟨J1.kIn, ?_⟩)
  obtain ⟨bm', n', nm', qn', bs', hd', sn', sub', ab', col', dd', k0', k1', k2', k3', k5', mN', hC', hN', hni', T'⟩ := exc_obj J1.kIn q
  show wpAny (model X.prog X.w) X.A (call (.ref C) [u1]) _ X.xe t1
  refine wpAny_call_exc_subT F T' hC' hN' hni' (fun h' e hm => L2N.mk_of J1 hm r y1 (J1.hok.gone hm.new)) ?_
  show 1 ≤ sizeLine
  decide
end
end Lk
end
section
set_option maxRecDepth 100000
set_option maxHeartbeats 2000000
namespace Lk
open PySem PySem.Spec PyProof.Rows L2
section
variable {P : Program} {w : World} {K : PySem.W.Frag} {mg : Str → Option Value} {base : Heap}
theorem scN_count : FnScope ["thing", "least", "most"] ["thing", "least", "most"] (defScope s_refuse_no_count) := ⟨rfl, rfl, rfl, by decide +kernel, rfl, by decide +kernel, by decide +kernel⟩
theorem okN_count {f C : Addr} {fd : FuncData} (F : Fun K "refuse_no_count" "refuse_no_count" s_refuse_no_count f fd) (cw : C8.Cal P w K mg base 2 "is_within" spWithin []) (T : ErrC K mg "NoCount" C) : FnOk P w K mg base (L2N.CX P w) 3 f fd ["thing", "least", "most"] (spCount C) := by
  refine okN F scN_count (fun vs H Q E h => ?_) (fun cdv A outer s H vs Q E hr h => ?_)
  · obtain ⟨v, d, a, b, rfl, _⟩ := h
    rfl
  · obtain ⟨v, d, a, b, rfl, hab, hv, q0, q1⟩ := h
    refine ⟨_, pss_one (by exact (ps_if (pt_not (pt_val (C8.pe_c cw hr (Nat.le_refl _) rfl (pa_cons (pv 0) (pa_cons (pv 1) (pa_cons (pv 2) pa_nil))))))
      (pss_one (L2N.ps_raise rfl (L2N.takes_of rfl rfl rfl rfl) (pmkN1 PySem.F.excBase_ValueError T.x T.g T.k (raises_own T.b T.t) rfl
        (pe_joined (.cons pe_str (.cons (pe_fmt (pv 1)) (.cons pe_str (.cons (pe_fmt (pv 2)) (.cons pe_str .nil))))))))) pss_nil)), ?_⟩
    refine ⟨_, rfl, _, rfl, _, rfl, v, d, a, b, rfl, hv, _, rfl, ?_⟩
    cases e : inR d a b with
    | true => exact q0 e
    | false =>
      rcases hab with ⟨rfl, rfl⟩ | ⟨rfl, rfl⟩ | ⟨rfl, rfl⟩ | ⟨rfl, rfl⟩ | ⟨rfl, rfl⟩ | ⟨rfl, rfl⟩ <;>
      · refine ⟨_, rfl, (by decide +kernel), _, rfl, .inr ⟨_, rfl, (by decide +kernel), _, rfl, (by decide +kernel), _, rfl, (by decide +kernel), _, rfl, .inr ⟨_, rfl, (by decide +kernel), _, rfl, (by decide +kernel), _, rfl, (by decide +kernel), ?_⟩⟩⟩
        exact q1 e
end
end Lk
end
section
set_option maxRecDepth 100000
set_option maxHeartbeats 2000000
namespace Lk
open PySem PySem.Spec PyProof.Rows L2
section
variable {P : Program} {w : World} {K : PySem.W.Frag} {mg : Str → Option Value} {base : Heap}
abbrev nIC : List Str := ["thing", "place", "lengths", "length"]
theorem sc_isCoder : FnScope nIC ["thing"] (defScope s_is_coder) := ⟨rfl, rfl, rfl, by decide +kernel, rfl, by decide +kernel, by decide +kernel⟩
theorem ok_isCoder {f : Addr} {fd : FuncData} (F : Fun K "is_coder" "is_coder" s_is_coder f fd) (cw : C8.Cal P w K mg base 1 "is_whole" spWhole []) (ci : C8.Cal P w K mg base 2 "is_within" spWithin [])
    (mi : mg "isinstance" = none) (mt : mg "tuple" = none) (ml : mg "len" = none) (ma : mg "all" = none) {tp : Tok} (mp : mg "MOST_PLACES" = some (.int 12 tp)) : FnOk P w K mg base CX0 3 f fd ["thing"] spIsCoder := by
  refine F.ok sc_isCoder (fun vs H Q E h => ?_) (fun cdv A outer s H vs Q E hr h => ?_)
  · obtain ⟨v, d, rfl, _⟩ := h
    rfl
  · obtain ⟨v, d, rfl, hv, q⟩ := h
    have nd := sc_isCoder.nd
    refine ⟨_, pss_cons (by exact (ps_if (PW.pt (pw_or (pt_not (pt_val (pe_callB call_isi (by rfl) mi (by decide +kernel) (pa_cons (pv 0) (pa_cons (pe_bltn (v := .ty "tuple") (by rfl) mt (by decide +kernel) rfl) pa_nil)))))
        (pw_or1 (pt_cmpR op_ne (pe_callB call_len_seq (by rfl) ml PySem.boot_len (pa_cons (pv 0) pa_nil)) pe_int (nomark _))))) (pss_one (ps_ret pe_bl)) pss_nil))
      (pss_cons (by exact (ps_asg (pv 0) (pg_tup rfl (pgs_cons (pg_name (i := 1) nd rfl (Or.inl rfl)) (pgs_cons (pg_name (i := 2) nd rfl (Or.inl rfl)) pgs_nil)))))
      (pss_cons (by exact (ps_if (PW.pt (pw_or (pt_not (pt_val (pe_callB call_isi (by rfl) mi (by decide +kernel) (pa_cons (pv 2) (pa_cons (pe_bltn (v := .ty "tuple") (by rfl) mt (by decide +kernel) rfl) pa_nil)))))
        (pw_or1 (pt_not (pt_chain op_le op_le pe_int (pe_callB call_len_seq (by rfl) ml PySem.boot_len (pa_cons (pv 2) pa_nil)) (pe_glob (v := .int 12) rfl mp ⟨_, rfl⟩)))))) (pss_one (ps_ret pe_bl)) pss_nil))
      (pss_cons (by exact (ps_if (pt_not (pt_val (C8.pe_c ci hr (by decide) rfl (pa_cons (pv 1) (pa_cons pe_int (pa_cons (pe_op op_sub (pe_callB call_len_seq (by rfl) ml PySem.boot_len (pa_cons (pv 2) pa_nil)) pe_int) pa_nil)))))) (pss_one (ps_ret pe_bl)) pss_nil))
      (pss_one (by exact (ps_ret (pe_callB (cr_all rfl) (by rfl) ma (by decide +kernel) (pa_cons (pe_lc (own := [("length", 3)]) (g := gName 3) (tt := tYes) rfl nd (pi_tup (pv 2)) (blkOk_by (N := nIC) (sc := defScope s_is_coder) (by decide +kernel))
          (fun _ _ _ _ _ => pg_name (i := 3) nd rfl (Or.inl rfl)) (fun _ _ _ _ _ => pts_nil) (fun _ _ _ _ _ => pe_and (C8.pe_c cw hr (by decide) rfl (pa_cons (pv 3) pa_nil)) (pe_one (pe_cmpR op_ge (pv 3) pe_int (nomark _))))) pa_nil)))))))), ?_⟩
    refine ⟨_, rfl, v, .ty "tuple", _, _, isT d, rfl, .ty _, hv.ty, kit_tuple d, _, rfl, ?_⟩
    cases hT : isT d with
    | false =>
      have e : isCd d = false := by cases d <;> first | rfl | (cases hT)
      rw [e] at q
      exact q H (Same.refl H)
    | true =>
      cases hv with
      | tup ea ma =>
        rename_i a xs ds
        refine ⟨_, rfl, a, xs, rfl, .inr (SqT.of ea), rfl, _, rfl, ite2 (fun g => ?_) (fun g => ?_)⟩
        · have z : xs.length ≠ 2 := fun z => by
            rw [z] at g
            cases g
          have e : isCd (.tuple ds) = false := isCd_two fun z2 => z (by rw [ma.length, z2])
          rw [e] at q
          exact q H (Same.refl H)
        · have z : xs.length = 2 := Classical.byContradiction fun z => g (by
            rw [Bool.not_eq_true', decide_eq_false_iff_not]
            intro y
            exact z (by have := V.int.inj y; omega))
          cases ma with
          | nil => cases z
          | cons hp m1 =>
            rename_i xp xs1 dp ds1
            cases m1 with
            | nil => cases z
            | cons hl m2 =>
              rename_i xl xs2 dl ds2
              cases m2 with
              | cons _ m3 => exact absurd z (by simp only [List.length_cons]; omega)
              | nil =>
                refine ⟨_, rfl, a, [xp, xl], rfl, SqT.of ea, rfl, _, _, rfl, _, _, rfl, rfl, ?_⟩
                refine ⟨_, rfl, xl, .ty "tuple", _, _, isT dl, rfl, .ty _, hl.ty, kit_tuple dl, _, rfl, ?_⟩
                cases hT2 : isT dl with
                | false =>
                  rw [isCd_no hT2] at q
                  exact q H (Same.refl H)
                | true =>
                  cases hl with
                  | tup eb mb =>
                    rename_i b ls dls
                    have hll := mb.length
                    refine ⟨_, rfl, b, ls, rfl, .inr (SqT.of eb), _, _, rfl, rfl, _, rfl, ?_⟩
                    have eC : isCd (.tuple [dp, .tuple dls]) = ((decide (1 ≤ dls.length) && decide (dls.length ≤ 12)) && (inR dp 0 ((dls.length : Int) - 1) && dls.all natD)) := rfl
                    rw [eC, ← hll] at q
                    refine ite2 (fun g1 => ?_) (fun g1 => ?_)
                    · have g1' : 1 ≤ ls.length := by have y := of_decide_eq_true g1; omega
                      refine ⟨_, _, rfl, rfl, _, rfl, ?_⟩
                      rw [decide_eq_true g1', Bool.true_and] at q
                      have e12 : decide ((ls.length : Int) ≤ 12) = decide (ls.length ≤ 12) := by
                        by_cases c : ls.length ≤ 12
                        · rw [decide_eq_true c, decide_eq_true (by omega)]
                        · rw [decide_eq_false c, decide_eq_false (by omega)]
                      rw [e12]
                      cases c12 : decide (ls.length ≤ 12) with
                      | false =>
                        rw [c12, Bool.false_and] at q
                        exact q H (Same.refl H)
                      | true =>
                        rw [c12, Bool.true_and] at q
                        have c12' := of_decide_eq_true c12
                        refine ⟨_, rfl, _, rfl, b, ls, rfl, .inr (SqT.of eb), _, _, rfl, rfl, xp, dp, 0, _, rfl, hp, _, rfl, ?_⟩
                        cases ci : inR dp 0 ((ls.length : Int) - 1) with
                        | false =>
                          rw [ci, Bool.false_and] at q
                          exact q H (Same.refl H)
                        | true =>
                          rw [ci, Bool.true_and] at q
                          refine ⟨_, rfl, b, rfl, ⟨ls, SqT.of eb⟩, fun D nD => ?_⟩
                          have ml2 : (dls.map natD).length ≤ 100000 := by rw [List.length_map, ← hll]; omega
                          refine lc_it walk_tup (fun i H3 => Same H H3 ∧ H3 D = some (.lst (((dls.map natD).take i).map V.bl))) ⟨same_new nD, upd_same⟩ (fun i H3 _ p => SqT.of (p.1 _ _ eb)) ?_ ?_
                          · rintro i x H3 H4 hi ⟨s3, e3⟩ ⟨rfl, hx⟩
                            obtain ⟨dx, hdx, tx⟩ := mb.get hx
                            have hc : (dls.map natD)[i]? = some (natD dx) := by rw [List.getElem?_map, hdx]; rfl
                            refine ⟨rfl, _, rfl, x, dx, rfl, Th.same s3 dx tx, _, rfl, ?_⟩
                            have fin : ∀ y : Bool, y = natD dx → ∃ acc, H4 D = some (HO.lst acc) ∧ acc.length < sizeLine ∧ Same H (upd H4 D (HO.lst (acc ++ [V.bl y]))) ∧ upd H4 D (HO.lst (acc ++ [V.bl y])) D = some (HO.lst (((dls.map natD).take (i + 1)).map V.bl)) := by
                              rintro y rfl
                              obtain ⟨acc, a1, a2, a3, a4⟩ := snoc_bl (H4 := H4) (D := D) e3 hc ml2
                              exact ⟨acc, a1, a2, same_push s3 nD, a3⟩
                            cases tx with
                            | int n => exact ⟨_, rfl, _, _, rfl, rfl, fin _ rfl⟩
                            | _ => exact fin _ rfl
                          · rintro H3 ⟨s3, e3⟩
                            rw [show ls.length = (dls.map natD).length by rw [List.length_map, hll], List.take_length] at e3
                            refine ⟨D, _, rfl, SqL.of e3, ?_⟩
                            rw [List.all_map]
                            exact q H3 s3
                    · have g1' : ¬ 1 ≤ ls.length := fun y => g1 (decide_eq_true (by omega))
                      refine ⟨_, rfl, ?_⟩
                      rw [decide_eq_false g1', Bool.false_and, Bool.false_and] at q
                      exact q H (Same.refl H)
                  | _ => cases hT2
      | _ => cases hT
end
end Lk
end
section
set_option maxRecDepth 100000
set_option maxHeartbeats 2000000
namespace Lk
open PySem PySem.Spec PyProof.Rows L2
section
variable {P : Program} {w : World} {K : PySem.W.Frag} {mg : Str → Option Value} {base : Heap}
theorem scN_refCoder : FnScope ["coder"] ["coder"] (defScope s_refuse_no_coder) := ⟨rfl, rfl, rfl, by decide +kernel, rfl, by decide +kernel, by decide +kernel⟩
theorem okN_refCoder {f C : Addr} {fd : FuncData} (F : Fun K "refuse_no_coder" "refuse_no_coder" s_refuse_no_coder f fd) (cl : C8.Cal P w K mg base 3 "is_coder" spIsCoder []) (T : ErrC K mg "NoCoder" C) {tp : Tok} (mp : mg "MOST_PLACES" = some (.int 12 tp)) : FnOk P w K mg base (L2N.CX P w) 4 f fd ["coder"] (spRefCoder C) := by
  refine okN F scN_refCoder (fun vs H Q E h => ?_) (fun cdv A outer s H vs Q E hr h => ?_)
  · obtain ⟨v, d, rfl, _⟩ := h
    rfl
  · obtain ⟨v, d, rfl, hv, q0, q1⟩ := h
    refine ⟨_, pss_one (by exact (ps_if (pt_not (pt_val (C8.pe_c cl hr (Nat.le_refl _) rfl (pa_cons (pv 0) pa_nil))))
      (pss_one (L2N.ps_raise rfl (L2N.takes_of rfl rfl rfl rfl) (pmkN1 PySem.F.excBase_ValueError T.x T.g T.k (raises_own T.b T.t) rfl
        (pe_joined (.cons pe_str (.cons (pe_fmt (pe_glob (v := .int 12) rfl mp ⟨_, rfl⟩)) (.cons pe_str .nil))))))) pss_nil)), ?_⟩
    refine ⟨_, rfl, v, d, rfl, hv, fun H1 s1 => ⟨_, rfl, ?_⟩⟩
    cases e : isCd d with
    | true => exact q0 e H1 s1
    | false =>
      refine ⟨_, rfl, (by decide +kernel), .inr ⟨12, rfl, (by decide +kernel), _, rfl, (by decide +kernel), _, rfl, (by decide +kernel), ?_⟩⟩
      exact q1 e H1 s1
end
end Lk
end
section
set_option maxRecDepth 100000
set_option maxHeartbeats 2000000
namespace Lk
open PySem PySem.Spec PyProof.Rows L2
section
variable {P : Program} {w : World} {K : PySem.W.Frag} {mg : Str → Option Value} {base : Heap}
abbrev nOL : List Str := ["lengths", "place"]
theorem sc_oneLonger : FnScope nOL ["lengths", "place"] (defScope s_one_longer) := ⟨rfl, rfl, rfl, by decide +kernel, rfl, by decide +kernel, by decide +kernel⟩
theorem ok_oneLonger {f : Addr} {fd : FuncData} (F : Fun K "one_longer" "one_longer" s_one_longer f fd) : FnOk P w K mg base CX0 1 f fd ["lengths", "place"] spLonger := by
  refine F.ok sc_oneLonger (fun vs H Q E h => ?_) (fun cdv A outer s H vs Q E hr h => ?_)
  · obtain ⟨b, ls, k, rfl, _⟩ := h
    rfl
  · obtain ⟨b, ls, k, rfl, hb, hk, h12, q⟩ := h
    have nd := sc_oneLonger.nd
    refine ⟨_, pss_one (by exact (ps_ret (pe_tup (StX.pa_star (pe_slice sl_cut (pv 0) po_none (po_some (pv 1))) (pa_cons (pe_op op_add (pe_ix ix_tup (pv 0) (pv 1) (fun _ _ => rfl)) pe_int) (StX.pa_star (pe_slice sl_cut (pv 0) (po_some (pe_op op_add (pv 1) pe_int)) po_none) pa_nil)))))), ?_⟩
    refine ⟨_, rfl, _, rfl, _, rfl, b, _, rfl, SqT.of hb, fun b1 H1 s1 t1 _ => ⟨b1, _, rfl, .inl t1, ?_⟩⟩
    refine ⟨_, rfl, _, rfl, b, _, (k : Int), _, rfl, rfl, SqT.of (s1 _ _ hb), atI_nat (nat_at hk), _, _, rfl, rfl, ?_⟩
    refine ⟨_, rfl, _, rfl, _, _, rfl, rfl, _, rfl, b, _, rfl, SqT.of (s1 _ _ hb), fun b2 H2 s2 t2 _ => ⟨b2, _, rfl, .inl t2, ?_⟩⟩
    have e1 : cutV (ls.map vN) Option.none (some (k : Int)) = (ls.map vN).take k := cut_to (by rw [List.length_map]; omega)
    have e2 : cutV (ls.map vN) (some ((k : Int) + 1)) Option.none = (ls.map vN).drop (k + 1) := cut_from (n := k + 1)
    have e0 : V.int ((ls.getD k 0 : Int) + 1) = vN (ls.getD k 0 + 1) := rfl
    have eL : cutV (ls.map vN) Option.none (some (k : Int)) ++ (V.int ((ls.getD k 0 : Int) + 1) :: (cutV (ls.map vN) (some ((k : Int) + 1)) Option.none ++ [])) = (ls.set k (ls.getD k 0 + 1)).map vN := by
      rw [e1, e2, List.append_nil, ← List.map_take, ← List.map_drop, e0, ← List.map_cons, ← List.map_append, set_cut _ _ _ hk]
    refine ⟨?_, fun p np => ?_⟩
    · show (cutV (ls.map vN) Option.none (some (k : Int)) ++ (V.int ((ls.getD k 0 : Int) + 1) :: (cutV (ls.map vN) (some ((k : Int) + 1)) Option.none ++ []))).length ≤ sizeLine
      rw [eL, List.length_map, sizeLine_eq, List.length_set]
      omega
    · refine q p _ ((s1.trans s2).trans (same_new np)) ?_
      rw [upd_same]
      exact congrArg (fun z => some (HO.tup z)) eL
end
end Lk
end
section
set_option maxRecDepth 100000
set_option maxHeartbeats 2000000
namespace Lk
open PySem PySem.Spec PyProof.Rows L2
section
variable {P : Program} {w : World} {K : PySem.W.Frag} {mg : Str → Option Value} {base : Heap}
abbrev nNext : List Str := ["coder", "place", "lengths", "longer"]
theorem sc_next : FnScope nNext ["coder"] (defScope s_next_coder) := ⟨rfl, rfl, rfl, by decide +kernel, rfl, by decide +kernel, by decide +kernel⟩
theorem ok_next {f : Addr} {fd : FuncData} (F : Fun K "next_coder" "next_coder" s_next_coder f fd) (cl : C8.Cal P w K mg base 1 "one_longer" spLonger []) (ml : mg "len" = none) : FnOk P w K mg base CX0 2 f fd ["coder"] spNext := by
  refine F.ok sc_next (fun vs H Q E h => ?_) (fun cdv A outer s H vs Q E hr h => ?_)
  · obtain ⟨v, c, rfl, _⟩ := h
    rfl
  · obtain ⟨v, c, rfl, ⟨a, b, rfl, ha, hb⟩, hc, q⟩ := h
    have nd := sc_next.nd
    have hl : c.1 < c.2.length := hc.1
    have hm : c.2.length ≤ 12 := hc.2
    refine ⟨_, (pss_cons (by exact (ps_asg (pv 0) (pg_tup rfl (pgs_cons (pg_name (i := 1) nd rfl (Or.inl rfl)) (pgs_cons (pg_name (i := 2) nd rfl (Or.inl rfl)) pgs_nil)))))
      (pss_cons (by exact (ps_set (i := 3) nd rfl (Or.inl rfl) (C8.pe_c cl hr (by decide) rfl (pa_cons (pv 2) (pa_cons (pv 1) pa_nil)))))
      (pss_one (by exact (ps_ret (pe_tup (pa_cons (pe_op op_mod (pe_op op_add (pv 1) (pe_ix ix_tup (pv 3) (pv 1) (fun _ _ => rfl))) (pe_callB call_len_seq (by rfl) ml PySem.boot_len (pa_cons (pv 2) pa_nil))) (pa_cons (pv 3) pa_nil)))))))), ?_⟩
    refine ⟨_, rfl, a, _, rfl, SqT.of ha, rfl, _, _, rfl, _, _, rfl, rfl, ?_⟩
    refine ⟨_, rfl, _, rfl, b, c.2, c.1, rfl, hb, hl, hm, fun b1 H1 s1 t1 => ?_⟩
    have hl1 : c.1 < (nx c).2.length := by rw [nx_len]; exact hl
    have t1' : H1 b1 = some (.tup ((nx c).2.map vN)) := t1
    have sN : ∀ {p : Addr} {o : HO}, H1 p = none → Same H (upd H1 p o) := fun np => s1.trans (same_new np)
    have e3 : ((c.1 : Int) + (((nx c).2.getD c.1 0 : Nat) : Int)) % (c.2.length : Int) = ((nx c).1 : Int) := by
      rw [show (nx c).2.getD c.1 0 = len c c.1 + 1 from len_nx_same hl]
      show _ = (((c.1 + (len c c.1 + 1)) % c.2.length : Nat) : Int)
      rw [Int.natCast_emod]
      rfl
    refine ⟨_, rfl, _, rfl, _, rfl, b1, _, (c.1 : Int), _, rfl, rfl, SqT.of t1', atI_nat (nat_at hl1), _, _, rfl, rfl, _, rfl, b, _, rfl, .inr (SqT.of (s1 _ _ hb)), _, _, rfl, rfl, (by rw [List.length_map]; omega), _, rfl, (by show 2 ≤ sizeLine; decide), fun p np => ?_⟩
    refine q (.ref p) _ (sN np) ⟨p, b1, rfl, ?_, ?_⟩
    · rw [upd_same]
      show some (HO.tup [V.int (((c.1 : Int) + (((nx c).2.getD c.1 0 : Nat) : Int)) % ((c.2.map vN).length : Int)), V.ref b1]) = _
      rw [List.length_map, e3]
    · rw [upd_ne (ne_of_none t1' np)]
      exact t1'
end
end Lk
end
section
set_option maxRecDepth 100000
set_option maxHeartbeats 2000000
namespace Lk
open PySem PySem.Spec PyProof.Rows L2
section
variable {P : Program} {w : World} {K : PySem.W.Frag} {mg : Str → Option Value} {base : Heap}
abbrev nLG : List Str := ["coder", "_", "lengths", "place", "length"]
theorem sc_last : FnScope nLG ["coder"] (defScope s_last_goings) := ⟨rfl, rfl, rfl, by decide +kernel, rfl, by decide +kernel, by decide +kernel⟩
theorem ok_last {f : Addr} {fd : FuncData} (F : Fun K "last_goings" "last_goings" s_last_goings f fd) (ml : mg "len" = none) (me : mg "enumerate" = none) : FnOk P w K mg base CX0 1 f fd ["coder"] spLast := by
  refine F.ok sc_last (fun vs H Q E h => ?_) (fun cdv A outer s H vs Q E hr h => ?_)
  · obtain ⟨v, c, rfl, _⟩ := h
    rfl
  · obtain ⟨v, c, rfl, ⟨a, b, rfl, ha, hb⟩, hc, q⟩ := h
    have nd := sc_last.nd
    have h12 := hc.2
    have hp := hc.pos
    refine ⟨_, pss_cons (by exact (ps_asg (pv 0) (pg_tup rfl (pgs_cons (pg_name (i := 1) nd rfl (Or.inl rfl)) (pgs_cons (pg_name (i := 2) nd rfl (Or.inr rfl)) pgs_nil)))))
      (pss_one (by exact (ps_ret (pe_lc (own := [("place", 3), ("length", 4)]) (g := gTup K 2 (gCons (gName 3) (gCons (gName 4) gNil))) (tt := tYes) rfl nd (pi_enumT (by rfl) me (pa_cons (pv 2) pa_nil)) (blkOk_by (N := nLG) (sc := defScope s_last_goings) (by decide +kernel))
          (fun _ _ _ _ _ => pg_tup rfl (pgs_cons (pg_name (i := 3) nd rfl (Or.inl rfl)) (pgs_cons (pg_name (i := 4) nd rfl (Or.inl rfl)) pgs_nil))) (fun _ _ _ _ _ => pts_nil)
          (fun _ _ _ _ _ => pe_op op_mod (pe_op op_add (pv 3) (pv 4)) (pe_callB (call_lenK (K := K) rfl) (by rfl) ml PySem.boot_len (pa_cons (pv 2) pa_nil))))))), ?_⟩
    refine ⟨_, rfl, a, _, rfl, SqT.of ha, rfl, _, _, rfl, _, _, rfl, rfl, ?_⟩
    refine ⟨_, rfl, b, _, rfl, SqT.of hb, fun D nD => ?_⟩
    refine lc_it walk_enumT (fun i H3 => Same H H3 ∧ H3 D = some (.lst (((gos c).take i).map vN))) ⟨same_new nD, upd_same⟩ (fun i H3 _ p => SqT.of (p.1 _ _ hb)) ?_ ?_
    · rintro i x H3 H4 hi ⟨s3, e3⟩ ⟨T, x1, x2, rfl, nT, rfl, hx1, hx2⟩
      rw [List.length_map] at hi
      dsimp only at hx1 hx2
      have hx1' : x1 = .int (0 + (i : Int)) := (Option.some.inj hx1).symm
      rw [nat_at hi] at hx2
      cases hx2
      subst hx1'
      have sT : Same H (upd H3 T (.tup [.int (0 + (i : Int)), .int ((c.2.getD i 0 : Nat) : Int)])) := s3.trans (same_new nT)
      refine ⟨T, [.int (0 + (i : Int)), .int ((c.2.getD i 0 : Nat) : Int)], rfl, SqT.of upd_same, rfl, _, _, rfl, _, _, rfl, rfl, rfl, _, rfl, _, rfl, _, _, rfl, rfl, _, rfl, b, _, rfl, .inr (SqT.of (sT _ _ hb)), _, _, rfl, rfl, (by rw [List.length_map]; omega), ?_⟩
      have e4 : upd H3 T (.tup [.int (0 + (i : Int)), .int ((c.2.getD i 0 : Nat) : Int)]) D = some (.lst (((gos c).take i).map vN)) := by rw [upd_ne (ne_of_none e3 nT)]; exact e3
      obtain ⟨acc, a1, a2, a3⟩ := snoc_map (f := vN) e4 (gos_at hi) (by rw [gos_len]; omega)
      refine ⟨acc, a1, a2, same_push sT nD, ?_⟩
      rw [show vN (go c i) = V.int ((0 + (i : Int) + ((c.2.getD i 0 : Nat) : Int)) % ((c.2.map vN).length : Int)) from ?_] at a3
      · exact a3
      · rw [List.length_map, Int.zero_add]
        show V.int (((i + len c i) % c.2.length : Nat) : Int) = _
        rw [Int.natCast_emod]
        rfl
    · rintro H3 ⟨s3, e3⟩
      rw [show (c.2.map vN).length = (gos c).length by rw [List.length_map, gos_len], List.take_length] at e3
      exact q D H3 nD s3 e3
end
end Lk
end
section
set_option maxRecDepth 100000
set_option maxHeartbeats 2000000
namespace Lk
open PySem PySem.Spec PyProof.Rows L2
section
variable {P : Program} {w : World} {K : PySem.W.Frag} {mg : Str → Option Value} {base : Heap}
abbrev nRF : List Str := ["coder", "least", "home", "_", "goings", "places", "place"]
theorem sc_ringFrom : FnScope nRF ["coder", "least"] (defScope s_ring_from) := ⟨rfl, rfl, rfl, by decide +kernel, rfl, by decide +kernel, by decide +kernel⟩
theorem ok_ringFrom {f : Addr} {fd : FuncData} (F : Fun K "ring_from" "ring_from" s_ring_from f fd) (cl : C8.Cal P w K mg base 1 "last_goings" spLast []) : FnOk P w K mg base CX0 2 f fd ["coder", "least"] spRingFrom := by
  refine F.ok sc_ringFrom (fun vs H Q E h => ?_) (fun cdv A outer s H vs Q E hr h => ?_)
  · obtain ⟨v, c, a, rfl, _⟩ := h
    rfl
  · obtain ⟨v, c, a, rfl, ⟨av, bv, rfl, ha, hb⟩, hc, hlt, q⟩ := h
    have nd := sc_ringFrom.nd
    have h12 := hc.2
    refine ⟨_, pss_cons (by exact (ps_asg (pv 0) (pg_tup rfl (pgs_cons (pg_name (i := 2) nd rfl (Or.inl rfl)) (pgs_cons (pg_name (i := 3) nd rfl (Or.inl rfl)) pgs_nil)))))
      (pss_cons (by exact (ps_if (pt_cmpR op_eq (pv 1) (pv 2) (nomark _)) (pss_one (ps_ret pe_non)) pss_nil))
      (pss_cons (by exact (ps_set (i := 4) nd rfl (Or.inl rfl) (C8.pe_c cl hr (Nat.le_refl _) rfl (pa_cons (pv 0) pa_nil))))
      (pss_cons (by exact (ps_set (i := 5) nd rfl (Or.inl rfl) (pe_lst (pa_cons (pv 1) pa_nil))))
      (pss_cons (by exact (ps_set (i := 6) nd rfl (Or.inl rfl) (pe_ix ix_list (pv 4) (pv 1) (fun _ _ => rfl))))
      (pss_cons (by exact (ps_while PassesOwn.never (PW.pt (pw_and (pt_cmpR op_gt (pv 6) (pv 1) (nomark _)) (pw_and (pt_cmpR op_ne (pv 6) (pv 2) (nomark _)) (pw_and1 (pt_cmpR op_notIn_seq (pv 6) (pv 5) rfl)))))
        (by exact (pss_cons (by exact (ps_expr (pe_bm PySem.F.plainAttrs_list PySem.F.slot_list_append PySem.F.type_list_append mt_append (pv 5) (pa_cons (pv 6) pa_nil))))
          (pss_one (by exact (ps_set (i := 6) nd rfl (Or.inl rfl) (pe_ix ix_list (pv 4) (pv 6) (fun _ _ => rfl)))))))))
      (pss_one (by exact (ps_ret (pe_ifExp (pt_cmpR op_eq (pv 6) (pv 1) (nomark _)) (pv 5) pe_non))))))))), ?_⟩
    refine ⟨_, rfl, av, _, rfl, SqT.of ha, rfl, _, _, rfl, _, _, rfl, rfl, ?_⟩
    refine ⟨_, rfl, _, rfl, rfl, _, rfl, ite2 (fun g => ?_) (fun g => ?_)⟩
    · have g1 : a = c.1 := by have z := V.int.inj (of_decide_eq_true g); omega
      refine q none .non H (.inr ⟨fun ⟨k, r⟩ => r.home 0 r.pos ?_, rfl⟩) (Same.refl H) rfl
      exact g1
    · have g1 : a ≠ c.1 := fun z => g (decide_eq_true (by rw [z]))
      refine ⟨_, rfl, .ref av, c, rfl, ⟨av, bv, rfl, ha, hb⟩, hc, fun G H1 nG s1 eG => ⟨_, rfl, (by show 1 ≤ sizeLine; decide), fun W nW => ?_⟩⟩
      have nGW : G ≠ W := ne_of_none eG nW
      have eG2 : upd H1 W (.lst [V.int (a : Int)]) G = some (.lst ((gos c).map vN)) := by rw [upd_ne nGW]; exact eG
      have at_ : ∀ {i : Nat}, i < c.2.length → ((gos c).map vN)[i]? = some (vN (go c i)) := fun {i} hi => by rw [List.getElem?_map, gos_at hi]; rfl
      refine ⟨_, rfl, _, rfl, G, _, (a : Int), _, rfl, rfl, SqL.of eG2, atI_nat (at_ hlt), ?_⟩
      have sW : Same H (upd H1 W (.lst [V.int (a : Int)])) := s1.trans (same_new nW)
      have nWH : H W = none := s1.free nW
      refine ⟨fun m σ H2 => ∃ k, σ = [some (.ref av), some (.int (a : Int)), some (.int (c.1 : Int)), some (.ref bv), some (.ref G), some (.ref W), some (vN (gon c k a))] ∧ m = c.2.length - k ∧ PathK c a k ∧ Same H H2 ∧ H2 G = some (.lst ((gos c).map vN)) ∧ H2 W = some (.lst ((ringL c a k).map vN)),
        ⟨_, 1, rfl, rfl, path_one g1, sW, eG2, upd_same⟩, ?_⟩
      rintro m σ H2 ⟨k, rfl, rfl, pk, s2, eG3, eW⟩
      have kle := path_len hc.1 hlt pk
      have xlt := gon_lt hc.1 hlt k
      generalize hx : gon c k a = x at *
      have fin : ∀ v', (x = a → v' = .ref W) → (x ≠ a → v' = .non) → ¬ (a < x ∧ x ≠ c.1 ∧ x ∉ ringL c a k) → Q v' H2 := by
        intro v' y n no
        by_cases e : x = a
        · refine q (some (ringL c a k)) v' H2 (.inl ⟨k, path_ring pk (by rw [hx, e]), rfl⟩) s2 ⟨W, y e, nWH, eW⟩
        · refine q none v' H2 (.inr ⟨path_none pk ?_ (by rw [hx]; exact e), rfl⟩) s2 (n e)
          rw [hx]
          exact no
      refine ⟨_, rfl, _, rfl, _, _, rfl, rfl, _, rfl, ite2 (fun t1 => ?_) (fun t1 => ?_)⟩
      · have t1' : a < x := by have z := of_decide_eq_true t1; omega
        refine ⟨_, rfl, _, rfl, rfl, _, rfl, ite2 (fun t2 => ?_) (fun t2 => ?_)⟩
        · have t2' : x ≠ c.1 := fun z => by rw [z, decide_eq_true rfl] at t2; cases t2
          refine ⟨_, rfl, _, rfl, W, _, rfl, .inl (SqL.of eW), rfl, flat_nat _, _, rfl, ?_⟩
          rw [if_pos rfl, inV_nat]
          refine ite2 (fun t3 => ?_) (fun t3 => ?_)
          · have t3' : x ∉ ringL c a k := by rw [Bool.not_eq_true', decide_eq_false_iff_not] at t3; exact t3
            have pk2 := path_more pk (by rw [hx]; exact t1') (by rw [hx]; exact t2') (by rw [hx]; exact t3')
            have k2 := path_len hc.1 hlt pk2
            refine ⟨fun σ' H' => σ' = [some (.ref av), some (.int (a : Int)), some (.int (c.1 : Int)), some (.ref bv), some (.ref G), some (.ref W), some (vN (gon c (k + 1) a))] ∧ Same H H' ∧ H' G = some (.lst ((gos c).map vN)) ∧ H' W = some (.lst ((ringL c a (k + 1)).map vN)), fun σ' H' p => ?_, ?_⟩
            · obtain ⟨rfl, p2, p3, p4⟩ := p
              exact ⟨c.2.length - (k + 1), by omega, k + 1, rfl, rfl, pk2, p2, p3, p4⟩
            · refine ⟨_, rfl, .inl ⟨rfl, _, SqL.of eW⟩, _, rfl, W, _, _, rfl, rfl, eW, ?_, ?_⟩
              · rw [List.length_map, ringL_len]
                exact Nat.lt_of_le_of_lt (show k ≤ 12 by omega) (by decide)
              · have nWG : G ≠ W := nGW
                refine ⟨_, rfl, _, rfl, G, _, (x : Int), _, rfl, rfl, SqL.of (by rw [upd_ne nWG]; exact eG3), atI_nat (at_ xlt), ?_⟩
                refine ⟨?_, ?_, by rw [upd_ne nWG]; exact eG3, ?_⟩
                · rw [gon_succ, hx]
                  rfl
                · exact same_push s2 nWH
                · rw [upd_same, ringL_succ, List.map_append, hx]
                  rfl
          · have no : ¬ (a < x ∧ x ≠ c.1 ∧ x ∉ ringL c a k) := fun z => t3 (by rw [decide_eq_false z.2.2]; rfl)
            refine ⟨_, rfl, _, rfl, rfl, _, rfl, ite2 (fun e => ?_) (fun e => ?_)⟩
            · exact ⟨_, rfl, fin _ (fun _ => rfl) (fun n => absurd (by have z := V.int.inj (of_decide_eq_true e); omega) n) no⟩
            · exact fin _ (fun y => absurd (decide_eq_true (by rw [y])) e) (fun _ => rfl) no
        · have no : ¬ (a < x ∧ x ≠ c.1 ∧ x ∉ ringL c a k) := fun z => t2 (by rw [decide_eq_false fun y => z.2.1 (by have := V.int.inj y; omega)]; rfl)
          refine ⟨_, rfl, _, rfl, rfl, _, rfl, ite2 (fun e => ?_) (fun e => ?_)⟩
          · exact ⟨_, rfl, fin _ (fun _ => rfl) (fun n => absurd (by have z := V.int.inj (of_decide_eq_true e); omega) n) no⟩
          · exact fin _ (fun y => absurd (decide_eq_true (by rw [y])) e) (fun _ => rfl) no
      · have no : ¬ (a < x ∧ x ≠ c.1 ∧ x ∉ ringL c a k) := fun z => t1 (decide_eq_true (by omega))
        refine ⟨_, rfl, _, rfl, rfl, _, rfl, ite2 (fun e => ?_) (fun e => ?_)⟩
        · exact ⟨_, rfl, fin _ (fun _ => rfl) (fun n => absurd (by have z := V.int.inj (of_decide_eq_true e); omega) n) no⟩
        · exact fin _ (fun y => absurd (decide_eq_true (by rw [y])) e) (fun _ => rfl) no
end
end Lk
end
section
set_option maxRecDepth 100000
set_option maxHeartbeats 2000000
namespace Lk
open PySem PySem.Spec PyProof.Rows L2
section
variable {P : Program} {w : World} {K : PySem.W.Frag} {mg : Str → Option Value} {base : Heap}
abbrev NnRi : List Str := ["coder", "least", "found"]
theorem scN_ring : FnScope NnRi ["coder"] (defScope s_ring) := ⟨rfl, rfl, rfl, by decide +kernel, rfl, by decide +kernel, by decide +kernel⟩
theorem okN_ring {f C : Addr} {fd : FuncData} (F : Fun K "ring" "ring" s_ring f fd) (cr : CalN P w K mg base 4 "refuse_no_coder" (spRefCoder C)) (cf : C8.Cal P w K mg base 2 "ring_from" spRingFrom [])
    (mr : mg "range" = none) (ml : mg "len" = none) : FnOk P w K mg base (L2N.CX P w) 5 f fd ["coder"] (spOne C toldRing) := by
  refine okN F scN_ring (fun vs H Q E h => ?_) (fun cdv A outer s H vs Q E hr h => ?_)
  · obtain ⟨v, d, rfl, _⟩ := h
    rfl
  · obtain ⟨v, d, rfl, hv, q1, q⟩ := h
    have nd := scN_ring.nd
    refine ⟨_, pss_cons (by exact (ps_expr (pe_cN cr (L2N.takes_of rfl rfl rfl rfl) hr (by decide) rfl (pa_cons (pv 0) pa_nil))))
      (pss_cons (by exact (ps_for (passes_of rfl) rfl (pi_range1 (by rfl) mr (pa_cons (pe_callB call_len_seq (by rfl) ml PySem.boot_len (pa_cons (pe_ix ix_tup (pv 0) pe_int (fun _ _ => rfl)) pa_nil)) pa_nil)) (pg_name (i := 1) nd rfl (Or.inl rfl))
        (by exact (pss_cons (by exact (ps_set (i := 2) nd rfl (Or.inl rfl) (C8.pe_c cf hr (by decide) rfl (pa_cons (pv 0) (pa_cons (pv 1) pa_nil)))))
          (pss_one (by exact (ps_if (pt_cmpR op_notN (pv 2) pe_non (nomark _)) (pss_one (ps_ret (pv 2))) pss_nil)))))))
      (pss_one (by exact (ps_ret pe_non)))), ?_⟩
    refine ⟨_, rfl, v, d, rfl, hv, fun hd H1 s1 => ?_, fun hd H1 s1 => q1 hd H1 s1⟩
    obtain ⟨c, rfl, hc⟩ := isCd_of hd
    have qq := q c rfl hc
    clear q q1
    have c1 : Cat H1 v c := (Th.same s1 _ hv).cat
    obtain ⟨a, b, rfl, ha, hb⟩ := id c1
    have h12 := hc.2
    refine ⟨_, rfl, a, _, 1, _, rfl, rfl, SqT.of ha, rfl, b, _, rfl, .inr (SqT.of hb), _, rfl, by rw [List.length_map]; omega, by rw [List.length_map]; omega, ?_⟩
    rw [List.length_map, Int.toNat_natCast]
    refine for_range (lo := 0) (n := c.2.length) (fun i σ H2 => ∃ y1 y2, σ = [some (.ref a), y1, y2] ∧ Same H1 H2 ∧ ∀ m, m < i → ¬ RingAt c m) ⟨none, none, rfl, Same.refl _, fun m h => absurd h (Nat.not_lt_zero _)⟩ ?_ ?_
    · rintro i σ H2 hi ⟨y1, y2, rfl, s2, no⟩
      have e0 : (0 : Int) + (i : Int) = (i : Int) := Int.zero_add _
      refine ⟨_, rfl, _, rfl, .ref a, c, i, congrArg (fun z => [V.ref a, V.int z]) e0, c1.same s2, hc, hi, fun r v2 H3 rf s3 lv => ?_⟩
      cases r with
      | none =>
        rcases rf with ⟨k, rk, z⟩ | ⟨nr, _⟩
        · cases z
        · have e3 : v2 = .non := lv
          subst e3
          refine ⟨_, rfl, rfl, _, rfl, ?_⟩
          exact ⟨_, _, rfl, s2.trans s3, fun m hm => by
            by_cases g : m = i
            · rw [g]; exact nr
            · exact no m (by omega)⟩
      | some l =>
        rcases rf with ⟨k, rk, z⟩ | ⟨nr, z⟩
        · cases z
          obtain ⟨p, rfl, np, ep⟩ := id lv
          refine ⟨_, rfl, rfl, _, rfl, ?_⟩
          refine ⟨_, rfl, ?_⟩
          exact qq (some (ringL c i k)) (.ref p) H3 (.inl ⟨i, k, hi, rk, no, rfl⟩) ((s1.trans s2).trans s3) (lv.from (s1.trans s2))
        · cases z
    · rintro σ H2 ⟨y1, y2, rfl, s2, no⟩
      exact qq none .non H2 (.inr ⟨no, rfl⟩) (s1.trans s2) rfl
end
end Lk
end
section
set_option maxRecDepth 100000
set_option maxHeartbeats 2000000
namespace Lk
open PySem PySem.Spec PyProof.Rows L2
section
variable {P : Program} {w : World} {K : PySem.W.Frag} {mg : Str → Option Value} {base : Heap}
theorem scN_inRound : FnScope ["coder"] ["coder"] (defScope s_in_round) := ⟨rfl, rfl, rfl, by decide +kernel, rfl, by decide +kernel, by decide +kernel⟩
theorem okN_inRound {f C : Addr} {fd : FuncData} (F : Fun K "in_round" "in_round" s_in_round f fd) (cr : CalN P w K mg base 5 "ring" (spOne C toldRing)) : FnOk P w K mg base (L2N.CX P w) 6 f fd ["coder"] (spOne C toldIn) := by
  refine okN F scN_inRound (fun vs H Q E h => ?_) (fun cdv A outer s H vs Q E hr h => ?_)
  · obtain ⟨v, d, rfl, _⟩ := h
    rfl
  · obtain ⟨v, d, rfl, hv, q1, q⟩ := h
    refine ⟨_, pss_one (by exact (ps_ret (pe_cmpR op_isN (pe_cN cr (L2N.takes_of rfl rfl rfl rfl) hr (Nat.le_refl _) rfl (pa_cons (pv 0) pa_nil)) pe_non (nomark _)))), ?_⟩
    refine ⟨_, rfl, v, d, rfl, hv, fun hd H1 s1 => q1 hd H1 s1, fun c ed hc r v2 H1 ro s1 lv => ⟨rfl, ?_⟩⟩
    refine q c ed hc _ H1 ?_ s1
    rw [decide_eq_true_eq, ← ringOf_free hc.1 ro]
    cases r with
    | none => exact ⟨fun _ => rfl, fun _ => lv⟩
    | some l =>
      obtain ⟨p, rfl, _⟩ := lv
      exact ⟨fun z => (by cases z), fun z => (by cases z)⟩
end
end Lk
end
section
set_option maxRecDepth 100000
set_option maxHeartbeats 2000000
/-! The law's bag and what it draws: what is promised. -/
namespace Lk
open PySem PySem.Spec PyProof.Rows L2
theorem but_of {a : Addr} {H H' : Hp} (h : Same H H') : SameBut a H H' := fun b o _ e => h b o e
def bagO (b : Int × Int × Int) : HO := .lst [.int b.1, .int b.2.1, .int b.2.2]
def Bag (H : Hp) (a : Addr) : Prop := ∃ b, H a = some (bagO b)
def spBag : Sp := fun vs H Q _ => ∃ c : Int, vs = [.int c] ∧ ∀ p b, H p = none → Q (.ref p) (upd H p (bagO b))
def spPick : Sp := fun vs H Q _ => ∃ (a : Addr) (m : Int), vs = [.ref a, .int m] ∧ Bag H a ∧ 0 < m ∧ m ≤ 10 ^ 40 ∧ ∀ v H', 0 ≤ v → v < m → Bag H' a → SameBut a H H' → Q (.int v) H'
theorem pick_div {i j : Int} (h0 : 0 < j) (h1 : j ≤ 10 ^ 40) : CDivW i j := wide_div h0 (b := 200) (by
  have e : (2 : Nat) ^ 200 > 10 ^ 40 := by decide +kernel
  omega) (by decide) (by decide)
def spCoder : Sp := fun vs H Q _ => ∃ (a : Addr) (m : Int), vs = [.ref a, .int m] ∧ Bag H a ∧ 1 ≤ m ∧ m ≤ 12 ∧
  ∀ v c H', CdOk c → (c.2.length : Int) ≤ m → (∀ n ∈ c.2, n < 10 ^ 29) → Bag H' a → SameBut a H H' → Cat H' v c → Q v H'
theorem Bag.ne {H : Hp} {a p : Addr} (h : Bag H a) (n : H p = none) : a ≠ p := by
  obtain ⟨b, e⟩ := h
  exact ne_of_none e n
theorem Bag.same {H H' : Hp} {a : Addr} (h : Bag H a) (s : Same H H') : Bag H' a := by
  obtain ⟨b, e⟩ := h
  exact ⟨b, s _ _ e⟩
/-- the classes that are known by these names -/
def spCls (L : List (Addr × Str)) : Sp := fun vs H Q _ => ∃ a CL nm, vs = [.ref a] ∧ (CL, nm) ∈ L ∧ H a = some (ExT (.ref CL) none a) ∧ ∀ H', Same H H' → Q (.str nm) H'
theorem fnOk_nil {P : Program} {w : World} {K : PySem.W.Frag} {mg : Str → Option Value} {base : Heap} {k : Nat} {f : Addr} {fd : FuncData} : FnOk P w K mg base CX0 k f fd ["caught"] (spCls []) :=
  ⟨fun _ _ _ _ h => (by obtain ⟨_, _, _, _, m, _⟩ := h; cases m), fun _ _ _ _ _ _ _ _ _ _ _ _ _ h => (by obtain ⟨_, _, _, _, m, _⟩ := h; cases m)⟩
theorem fnOk_cls {P : Program} {w : World} {K : PySem.W.Frag} {mg : Str → Option Value} {base : Heap} {k : Nat} {f CL : Addr} {fd : FuncData} {nm : Str} {L : List (Addr × Str)} (h1 : FnOk P w K mg base CX0 k f fd ["caught"] (spClass CL nm)) (h2 : FnOk P w K mg base CX0 k f fd ["caught"] (spCls L)) :
    FnOk P w K mg base CX0 k f fd ["caught"] (spCls ((CL, nm) :: L)) := by
  refine ⟨fun vs H Q E h => ?_, fun A outer s H args us vs Q E hr e0 hb r h => ?_⟩
  · obtain ⟨a, _, _, rfl, _⟩ := h
    rfl
  · obtain ⟨a, C, n, e, m, ha, q⟩ := h
    rcases List.mem_cons.mp m with z | z
    · cases z
      exact h1.run A outer s H args us vs Q E hr e0 hb r ⟨a, e, ha, q⟩
    · exact h2.run A outer s H args us vs Q E hr e0 hb r ⟨a, C, n, e, z, ha, q⟩
end Lk
end
section
set_option maxRecDepth 100000
set_option maxHeartbeats 2000000
/-! The rules that lay a new object, told without the heap's text: what was stays, the object is there. -/
namespace Lk
open PySem PySem.Spec PyProof.Rows L2
section
variable {X : Cx} {es : List Expr} {t : TA} {pos : Pos}
def tTupS (t : TA) : TE := fun σ H Q => t σ H fun xs H1 => xs.length ≤ sizeLine ∧ ∀ p H2, H1 p = none → Same H1 H2 → H2 p = some (.tup xs) → Q (.ref p) H2
def tLstS (t : TA) : TE := fun σ H Q => t σ H fun xs H1 => xs.length ≤ sizeLine ∧ ∀ p H2, H1 p = none → Same H1 H2 → H2 p = some (.lst xs) → Q (.ref p) H2
theorem pe_tupS {x1} (h : PA X es t) : PE X (.Tuple es x1 pos) (tTupS t) := by
  refine ⟨fun pins s σ H Q I hq => wpAny_Tuple_spliced (thn (h.run pos pins s σ H _ I hq) fun us s1 ⟨xs, H1, I1, r, z, q⟩ => ⟨by rw [← r.length]; exact z, ?_⟩)⟩
  have free : H1 s1.heap.objs.size = none := I1.hok.fresh (Nat.le_refl _)
  refine ⟨.ref s1.heap.objs.size, _, I1.laid (o := .tup xs) (t' := s1.toks) (fun b u e => Heap.get?_push_of_some _ e) (Nat.le_refl _) ?_, rfl, q _ _ free (same_new free) upd_same⟩
  exact ⟨z, us, r, ⟨_, Heap.get?_push_size _ rfl, rfl, _, rfl⟩⟩
theorem pe_lstS (h : PA X es t) : PE X (.List es pos) (tLstS t) := by
  refine ⟨fun pins s σ H Q I hq => wpAny_List_spliced (thn (h.run pos pins s σ H _ I hq) fun us s1 ⟨xs, H1, I1, r, z, q⟩ => ⟨by rw [← r.length]; exact z, ?_⟩)⟩
  have free : H1 s1.heap.objs.size = none := I1.hok.fresh (Nat.le_refl _)
  refine ⟨.ref s1.heap.objs.size, _, I1.laid (o := .lst xs) (t' := s1.toks) (fun b u e => Heap.get?_push_of_some _ e) (Nat.le_refl _) ?_, rfl, q _ _ free (same_new free) upd_same⟩
  exact ⟨z, us, 0, r, Heap.get?_push_size _ rfl⟩
def rCatS : R2 := fun x y H Q => ∃ a b xs ys, x = .ref a ∧ y = .ref b ∧ H a = some (.lst xs) ∧ H b = some (.lst ys) ∧ xs.length + ys.length ≤ sizeLine ∧ ∀ p H2, H p = none → Same H H2 → H2 p = some (.lst (xs ++ ys)) → Q (.ref p) H2
theorem op_catS : OpR X (binaryOp .Add) rCatS := by
  intro pins s σ H x y v u Q I rx ry h
  obtain ⟨a, b, xs, ys, rfl, rfl, ha, hb, hl, q⟩ := h
  exact op_cat pins s σ H _ _ v u Q I rx ry ⟨a, b, xs, ys, rfl, rfl, ha, hb, hl, fun p hp => q p _ hp (same_new hp) upd_same⟩
/-- tuple(xs) of a list, tuple(t) of a tuple -/
def rTupS : List V → Hp → VK → Prop := fun vs H Q => ∃ p xs, vs = [.ref p] ∧ ((H p = some (.lst xs) ∧ ∀ l H2, H l = none → Same H H2 → H2 l = some (.tup xs) → Q (.ref l) H2) ∨ (H p = some (.tup xs) ∧ Q (.ref p) H))
theorem call_tupS : CallR X (.type "tuple") rTupS := by
  intro pins s σ H xs us Q I r h
  obtain ⟨p, ys, rfl, h⟩ := h
  rcases h with ⟨h, q⟩ | ⟨h, q⟩
  · exact call_tuple_of pins s σ H _ us Q I r ⟨p, ys, rfl, .inl ⟨SqL.of h, fun l hl => q l _ hl (same_new hl) upd_same⟩⟩
  · exact call_tuple_of pins s σ H _ us Q I r ⟨p, ys, rfl, .inr ⟨SqT.of h, q⟩⟩
/-- list(xs), list(t) -/
def rLisS : List V → Hp → VK → Prop := fun vs H Q => ∃ p xs, vs = [.ref p] ∧ (H p = some (.lst xs) ∨ H p = some (.tup xs)) ∧ ∀ l H2, H l = none → Same H H2 → H2 l = some (.lst xs) → Q (.ref l) H2
theorem call_lisS : CallR X (.type "list") rLisS := by
  intro pins s σ H xs us Q I r h
  obtain ⟨p, ys, rfl, h, q⟩ := h
  refine call_list_of pins s σ H _ us Q I r ⟨p, ys, rfl, ?_, fun l hl => q l _ hl (same_new hl) upd_same⟩
  exact h.imp SqL.of SqT.of
end
/-- the cells: the script's first ones, and 0 -/
theorem cells_ints {ns : List Int} {k : Int} : ∀ x ∈ cutV (ns.map V.int) none (some k) ++ [V.int 0], ∃ z, x = V.int z := by
  intro x hx
  rcases List.mem_append.mp hx with h | h
  · unfold cutV at h
    obtain ⟨z, _, e⟩ := List.mem_map.mp (List.mem_of_mem_drop (List.mem_of_mem_take h))
    exact ⟨z, e.symm⟩
  · exact ⟨0, List.mem_singleton.mp h⟩
theorem cells_len {ns : List Int} {k : Int} (h : ns.length ≤ 63) : (cutV (ns.map V.int) none (some k)).length ≤ 63 := by
  unfold cutV
  rw [List.length_take, List.length_drop, List.length_map]
  omega
end Lk
end
section
set_option maxRecDepth 100000
set_option maxHeartbeats 2000000
/-! The law's urn. -/
namespace Lk
open PySem PySem.Spec PyProof.Rows L2
def CPowW (i j : Int) : Prop := 0 ≤ j ∧ j ≤ 8 ∧ i.natAbs < 2 ^ 1000
theorem op_powW {X : Cx} : OpR X (binaryOp .Pow) (rI CPowW fun i j => .int (i ^ j.toNat)) := opI fun i j _ _ _ _ _ hc q => by
  obtain ⟨h0, h8, hi⟩ := hc
  refine pow_int h0 ?_ q
  have l := PySem.Flt.log2_lt_of (by decide : 0 < 1000) hi
  have b : Builtin.Int.intBits i ≤ 1000 := by
    unfold Builtin.Int.intBits
    split <;> omega
  have h1 : (Builtin.Int.intBits i : Int) * j ≤ 1000 * j := Int.mul_le_mul_of_nonneg_right (by omega) h0
  omega
def Urn (H : Hp) (a : Addr) (n : Int) : Prop := ∃ u0 u1 u2 : Int, H a = some (.lst [.int u0, .int u1, .int u2]) ∧ 0 ≤ u1 ∧ u1 < 10 ^ 36 ∧ 0 ≤ u2 ∧ u2 ≤ n
theorem Urn.ne {H : Hp} {a p : Addr} {n : Int} (h : Urn H a n) (e : H p = none) : a ≠ p := by
  obtain ⟨_, _, _, e2, _⟩ := h
  exact ne_of_none e2 e
theorem Urn.same {H H' : Hp} {a : Addr} {n : Int} (h : Urn H a n) (s : Same H H') : Urn H' a n := by
  obtain ⟨u0, u1, u2, e, r⟩ := h
  exact ⟨u0, u1, u2, s _ _ e, r⟩
theorem Urn.le {H : Hp} {a : Addr} {n m : Int} (h : Urn H a n) (l : n ≤ m) : Urn H a m := by
  obtain ⟨u0, u1, u2, e, h1, h2, h3, h4⟩ := h
  exact ⟨u0, u1, u2, e, h1, h2, h3, Int.le_trans h4 l⟩
theorem Urn.cat {H H2 : Hp} {a : Addr} {n : Int} {v : V} {c : Cd} (h : Urn H a n) (s : SameBut a H H2) (k : Cat H v c) : Cat H2 v c := by
  obtain ⟨_, _, _, e, _⟩ := h
  exact k.but e s
def spUrn : Sp := fun vs H Q _ => ∃ c : Int, vs = [.int c] ∧ ∀ p H', H p = none → Same H H' → Urn H' p 0 → Q (.ref p) H'
def spPull : Sp := fun vs H Q _ => ∃ (a : Addr) (m n : Int), vs = [.ref a, .int m] ∧ Urn H a n ∧ n ≤ 100000 ∧ 0 < m ∧ m ≤ 10 ^ 40 ∧ ∀ v H', 0 ≤ v → v < m → Urn H' a (n + 1) → SameBut a H H' → Q (.int v) H'
end Lk
end
section
set_option maxRecDepth 100000
set_option maxHeartbeats 2000000
/-! Going home; the tree of a round. -/
namespace Lk
open PySem PySem.Spec PyProof.Rows L2
/-- where one stands behind so many turns, who stays at home -/
def hw (c : Cd) : Nat → Nat → Nat
  | 0, i => i
  | k + 1, i => if hw c k i = c.1 then hw c k i else go c (hw c k i)
theorem hw_run (c : Cd) (i : Nat) : ∀ k, ((∃ j, j ≤ k ∧ gon c j i = c.1) ∧ hw c k i = c.1) ∨ ((∀ j, j ≤ k → gon c j i ≠ c.1) ∧ hw c k i = gon c k i)
  | 0 => by
    by_cases e : i = c.1
    · exact .inl ⟨⟨0, Nat.le_refl _, e⟩, e⟩
    · refine .inr ⟨fun j hj => ?_, rfl⟩
      rw [Nat.le_zero.mp hj]
      exact e
  | k + 1 => by
    rcases hw_run c i k with ⟨⟨j, hj, e⟩, h⟩ | ⟨h1, h2⟩
    · refine .inl ⟨⟨j, by omega, e⟩, ?_⟩
      show (if hw c k i = c.1 then hw c k i else go c (hw c k i)) = c.1
      rw [if_pos h]
      exact h
    · have e : hw c (k + 1) i = gon c (k + 1) i := by
        show (if hw c k i = c.1 then hw c k i else go c (hw c k i)) = gon c (k + 1) i
        rw [h2, if_neg (h1 k (Nat.le_refl _)), gon_succ]
      by_cases z : gon c (k + 1) i = c.1
      · exact .inl ⟨⟨k + 1, Nat.le_refl _, z⟩, e.trans z⟩
      · refine .inr ⟨fun j hj => ?_, e⟩
        rcases Nat.lt_or_ge j (k + 1) with l | g
        · exact h1 j (by omega)
        · rw [show j = k + 1 by omega]
          exact z
theorem rch_near {c : Cd} (h : COk c) {i : Nat} (hi : i < c.2.length) (r : Rch c i) : ∃ j, j < c.2.length ∧ gon c j i = c.1 := by
  obtain ⟨j, hj, hl⟩ := least_of (Q := fun k => gon c k i = c.1) r.choose_spec
  refine ⟨j, ?_, hj⟩
  have nd : ((List.range (j + 1)).map fun k => gon c k i).Nodup := by
    refine List.pairwise_map.mpr (List.Pairwise.imp_of_mem (R := fun a b => a < b) (fun {a b} ha hb l e => ?_) List.pairwise_lt_range)
    rw [List.mem_range] at ha hb
    refine hl (a + (j - b)) (by omega) ?_
    rw [gon_add, e, ← gon_add, show b + (j - b) = j by omega]
    exact hj
  have z := nodup_below nd fun x hx => by
    obtain ⟨k, _, rfl⟩ := List.mem_map.mp hx
    exact gon_lt h hi k
  rw [List.length_map, List.length_range] at z
  omega
theorem hw_home {c : Cd} (h : COk c) {i : Nat} (hi : i < c.2.length) {k : Nat} (hk : c.2.length ≤ k + 1) : hw c k i = c.1 ↔ Rch c i := by
  rcases hw_run c i k with ⟨⟨j, _, e⟩, e2⟩ | ⟨h1, h2⟩
  · exact ⟨fun _ => ⟨j, e⟩, fun _ => e2⟩
  · refine ⟨fun z => ⟨k, h2.symm.trans z⟩, fun r => ?_⟩
    obtain ⟨j, hj, e⟩ := rch_near h hi r
    exact absurd e (h1 j (by omega))
theorem hw_lt {c : Cd} (h : COk c) {i : Nat} (hi : i < c.2.length) : ∀ k, hw c k i < c.2.length
  | 0 => hi
  | k + 1 => by
    show (if hw c k i = c.1 then hw c k i else go c (hw c k i)) < c.2.length
    split
    · exact hw_lt h hi k
    · exact go_lt h _
def Home0 (c : Cd) : Prop := c.1 = 0 ∧ len c 0 % c.2.length = 0
instance (c : Cd) : Decidable (Home0 c) := inferInstanceAs (Decidable (_ ∧ _))
theorem visit : ∀ (n : Nat) {c : Cd} (i v : Nat), COk c → len c i ≤ v → v < len (it n c) i → ∃ t, t < n ∧ (it t c).1 = i ∧ len (it t c) i = v
  | 0, c, i, v, _, h1, h2 => by
    have z : len (it 0 c) i = len c i := rfl
    omega
  | n + 1, c, i, v, hc, h1, h2 => by
    by_cases e : c.1 = i ∧ len c i = v
    · exact ⟨0, by omega, e.1, e.2⟩
    · have l : len (nx c) i ≤ v := by
        by_cases e2 : c.1 = i
        · have ne : len c i ≠ v := fun z => e ⟨e2, z⟩
          have z := len_nx_same hc
          rw [e2] at z
          omega
        · rw [len_nx_ne (fun z => e2 z.symm)]
          exact h1
      obtain ⟨t, ht, e1, e2⟩ := visit n i v (nx_ok hc) l h2
      exact ⟨t + 1, by omega, e1, e2⟩
def Hm (d : Cd) (j : Nat) : Prop := Home0 (it j d) ∧ ∀ k, k < j → ¬ Home0 (it k d)
theorem hm_is {d : Cd} (h : COk d) (f : Free d) : ∃ j, Hm d j := by
  have hp : 0 < d.2.length := Nat.lt_of_le_of_lt (Nat.zero_le _) h
  have e : len (it (d.2.length * d.2.length) d) 0 = len d 0 + d.2.length := by
    rw [it_round h f]
    exact getD_map_add _ _ hp
  obtain ⟨v, v1, v2, v3⟩ : ∃ v, len d 0 ≤ v ∧ v < len d 0 + d.2.length ∧ v % d.2.length = 0 := by
    by_cases z : len d 0 = 0
    · exact ⟨0, by omega, by omega, Nat.zero_mod _⟩
    · obtain ⟨v, a1, a2, a3⟩ := some_to (p := d.2.length) 0 (len d 0 - 1) 0 hp
      rw [Nat.zero_add] at a3
      exact ⟨v, by omega, by omega, a3⟩
  obtain ⟨t, _, t1, t2⟩ := visit (d.2.length * d.2.length) 0 v h v1 (by rw [e]; exact v2)
  have hm : Home0 (it t d) := ⟨t1, by rw [it_len, t2]; exact v3⟩
  exact least_of (Q := fun k => Home0 (it k d)) hm
theorem hm_one {d : Cd} {j k : Nat} (a : Hm d j) (b : Hm d k) : j = k := by
  rcases Nat.lt_trichotomy j k with l | e | l
  · exact absurd a.1 (b.2 j l)
  · exact e
  · exact absurd b.1 (a.2 k l)
/-- the tree of the round to which c comes -/
def TreeOf (c : Cd) (t : List Nat) : Prop := ∃ n j, Ahead c n ∧ Hm (it n c) j ∧ t = (gos (it (n + j) c)).drop 1
theorem treeOf_one {c : Cd} {t u : List Nat} (a : TreeOf c t) (b : TreeOf c u) : t = u := by
  obtain ⟨n, j, a1, a2, rfl⟩ := a
  obtain ⟨m, k, b1, b2, rfl⟩ := b
  have e := ahead_one a1 b1
  subst e
  rw [hm_one a2 b2]
theorem treeOf_len {c : Cd} {t : List Nat} (a : TreeOf c t) : t.length = c.2.length - 1 := by
  obtain ⟨n, j, _, _, rfl⟩ := a
  rw [List.length_drop, gos_len, it_len]
theorem treeOf_lt {c : Cd} (h : COk c) {t : List Nat} (a : TreeOf c t) : ∀ x ∈ t, x < c.2.length := by
  obtain ⟨n, j, _, _, rfl⟩ := a
  intro x hx
  have hx2 := List.mem_of_mem_drop hx
  unfold gos at hx2
  obtain ⟨i, _, rfl⟩ := List.mem_map.mp hx2
  have z := go_lt (it_ok (n + j) h) i
  rw [it_len] at z
  exact z
theorem ne_no {A B : Prop} {x y : V} (e : x = y) (h : B) : if (!decide (x = y)) = true then A else B := by
  rw [decide_eq_true e]
  exact iteF h
theorem ne_yes {A B : Prop} {x y : V} (e : ¬ x = y) (h : A) : if (!decide (x = y)) = true then A else B := by
  rw [decide_eq_false e]
  exact iteT h
def toldTree (c : Cd) (Q : VK) (H : Hp) : Prop := ∀ t p H', TreeOf c t → Same H H' → H' p = some (.tup (t.map vN)) → Q (.ref p) H'
def spGoals : Sp := fun vs H Q _ => ∃ v c, vs = [v] ∧ Cat H v c ∧ CdOk c ∧ ∀ p H', H p = none → Same H H' → H' p = some (.lst ((gos c).map vN)) → Q (.ref p) H'
def spHome : Sp := fun vs H Q _ => ∃ g c, vs = [.ref g, .int ((c.1 : Nat) : Int)] ∧ H g = some (.lst ((gos c).map vN)) ∧ COk c ∧ c.2.length ≤ 12 ∧ ∀ b, (b = true ↔ Free c) → Q (.bl b) H
def spEnter : Sp := fun vs H Q _ => ∃ v c, vs = [v] ∧ Cat H v c ∧ CdOk c ∧ toldEnter c Q H
def spTree : Sp := fun vs H Q _ => ∃ v c, vs = [v] ∧ Cat H v c ∧ CdOk c ∧ toldTree c Q H
def spUCoder : Sp := fun vs H Q _ => ∃ (a : Addr) (m n : Int), vs = [.ref a, .int m] ∧ Urn H a n ∧ n ≤ 90000 ∧ 1 ≤ m ∧ m ≤ 12 ∧
  ∀ v c H', CdOk c → (c.2.length : Int) ≤ m → (∀ n ∈ c.2, n < 10 ^ 31) → Urn H' a (n + 100) → SameBut a H H' → Cat H' v c → Q v H'
end Lk
end
section
set_option maxRecDepth 100000
set_option maxHeartbeats 2000000
/-! How long the text of data is. -/
namespace Lk
open PySem PySem.Spec PyProof.Rows L2
theorem textFrom_le : ∀ (ts : List Str) (k : Nat) (acc : Str), (textFrom k acc ts).length ≤ acc.length + piled ts
  | [], _, acc => Nat.le_add_right _ _
  | t :: r, k, acc => by
    have ih := textFrom_le r (k + 1) (acc ++ (if k > 0 then ", " else "" : String) ++ t)
    have e : (acc ++ (if k > 0 then ", " else "" : String) ++ t).length ≤ acc.length + 2 + t.length := by
      rw [strLen_append, strLen_append]
      split
      · exact Nat.le_refl _
      · show acc.length + 0 + t.length ≤ _
        omega
    rw [piled_cons]
    show (textFrom (k + 1) _ r).length ≤ _
    omega
theorem listText_le (ts : List Str) : (listText ts).length ≤ 2 + piled ts := by
  unfold listText
  rw [strLen_append]
  have h := textFrom_le ts 0 "["
  have e1 : (("[" : String) : Str).length = 1 := rfl
  have e2 : (("]" : String) : Str).length = 1 := rfl
  omega
theorem tupleText_le (ts : List Str) : (tupleText ts).length ≤ 3 + piled ts := by
  unfold tupleText
  rw [strLen_append, strLen_append]
  have e1 : ((("(" : String) : Str)).length = 1 := rfl
  have e3 : (((if ts.length == 1 then ",)" else ")" : String) : Str)).length ≤ 2 := by split <;> decide
  by_cases h : ts = []
  · subst h
    have e4 : (Str.join ", " []).length = 0 := rfl
    omega
  · have j := join_length_add ts h
    omega
mutual
/-- a bound of the length of the text -/
def wt : PyData → Nat
  | .none => 4
  | .bool _ => 5
  | .int i => (toString i).length
  | .str x => (reprText x).length
  | .list ds => 2 + wts ds
  | .tuple ds => 3 + wts ds
  | .dict kvs => (dictText (PyData.shownKv kvs)).length
def wts : List PyData → Nat
  | [] => 0
  | d :: ds => wt d + 2 + wts ds
end
mutual
theorem shown_wt : ∀ d : PyData, d.shown.length ≤ wt d
  | .none => by simp only [PyData.shown, wt]; decide
  | .bool b => by cases b <;> (simp only [PyData.shown, wt]; decide)
  | .int i => by simp only [PyData.shown, wt]; rw [PySem.ofString_length]; exact Nat.le_refl _
  | .str x => by simp only [PyData.shown, wt]; exact Nat.le_refl _
  | .list ds => by
    simp only [PyData.shown, wt]
    have h := listText_le (PyData.shownAll ds)
    have g := piled_wts ds
    omega
  | .tuple ds => by
    simp only [PyData.shown, wt]
    have h := tupleText_le (PyData.shownAll ds)
    have g := piled_wts ds
    omega
  | .dict kvs => by simp only [PyData.shown, wt]; exact Nat.le_refl _
theorem piled_wts : ∀ ds : List PyData, piled (PyData.shownAll ds) ≤ wts ds
  | [] => by simp [PyData.shownAll, wts, piled]
  | d :: ds => by
    have h := shown_wt d
    have g := piled_wts ds
    simp only [PyData.shownAll, wts, piled_cons]
    omega
end
theorem wts_append : ∀ ds es : List PyData, wts (ds ++ es) = wts ds + wts es
  | [], es => by simp [wts]
  | d :: ds, es => by
    show wt d + 2 + wts (ds ++ es) = wt d + 2 + wts ds + wts es
    rw [wts_append ds es]
    omega
theorem wts_le {B : Nat} : ∀ {ds : List PyData}, (∀ d ∈ ds, wt d ≤ B) → wts ds ≤ ds.length * (B + 2)
  | [], _ => Nat.zero_le _
  | d :: ds, h => by
    have ih := wts_le (ds := ds) fun x hx => h x (List.mem_cons_of_mem _ hx)
    have h1 := h d List.mem_cons_self
    show wt d + 2 + wts ds ≤ (ds.length + 1) * (B + 2)
    rw [Nat.add_mul, Nat.one_mul]
    omega
theorem wt_int {i : Int} (h : i.natAbs < 10 ^ 45) : wt (.int i) ≤ 46 := int_text_length_le10 (by decide) h
theorem wt_nat {n : Nat} (h : n < 10 ^ 45) : wt (dN n) ≤ 46 := wt_int (by omega)
theorem wts_nats {ls : List Nat} (h : ∀ n ∈ ls, n < 10 ^ 45) : wts (ls.map dN) ≤ ls.length * 48 := by
  have z := wts_le (B := 46) (ds := ls.map dN) fun d hd => by
    obtain ⟨n, hn, rfl⟩ := List.mem_map.mp hd
    exact wt_nat (h n hn)
  rw [List.length_map] at z
  exact z
theorem showAll_nats : ∀ {ls : List Nat}, (∀ n ∈ ls, n < 10 ^ 45) → PyData.showableAll (ls.map dN) = true
  | [], _ => by simp [PyData.showableAll]
  | n :: ls, h => by
    have h1 := h n List.mem_cons_self
    have lt : ((n : Int).natAbs).log2 < 1920 := by
      have e : ((n : Int).natAbs) = n := by omega
      rw [e]
      by_cases z : n = 0
      · subst z
        decide
      · exact (Nat.log2_lt z).mpr (Nat.lt_trans h1 (by decide +kernel))
    simp only [List.map_cons, PyData.showableAll, PyData.showable, showAll_nats (fun x hx => h x (List.mem_cons_of_mem _ hx)), decide_eq_true lt, Bool.and_self]
theorem show_cd {c : Cd} (h0 : c.1 < 10 ^ 45) (h : ∀ n ∈ c.2, n < 10 ^ 45) : (cdD c).showable = true := by
  have a := showAll_nats h
  have b := showAll_nats (ls := [c.1]) fun n hn => by rw [List.mem_singleton.mp hn]; exact h0
  simp only [List.map_cons, List.map_nil, PyData.showableAll, Bool.and_true] at b
  simp only [cdD, PyData.showable, PyData.showableAll, a, Bool.and_true]
  simpa only [PyData.showable] using b
theorem wt_cd {c : Cd} (h0 : c.1 < 10 ^ 45) (h : ∀ n ∈ c.2, n < 10 ^ 45) (h12 : c.2.length ≤ 12) : wt (cdD c) ≤ 1000 := by
  have a := wts_nats h
  have b := wt_nat h0
  have e : wt (cdD c) = 3 + (wt (dN c.1) + 2 + (3 + wts (c.2.map dN) + 2 + 0)) := rfl
  omega
theorem depth_cd (c : Cd) : (cdD c).depth ≤ 64 := by
  simp only [cdD, PyData.depth, PyData.depthAll, depthAll_ints]
  decide
/-- what the repr of a coder asks, and tells -/
theorem rep_cd {K : PySem.W.Frag} {H : Hp} {Q : VK} {v : V} {c : Cd} (cat : Cat H v c) (ok : CdOk c) (h : ∀ n ∈ c.2, n < 10 ^ 45) (q : Q (.str (cdD c).shown) H) : rRep K [v] H Q := by
  have h0 : c.1 < 10 ^ 45 := Nat.lt_trans ok.1 (Nat.lt_of_le_of_lt ok.2 (by decide +kernel))
  refine ⟨v, cdD c, rfl, Th.dq _ cat.th, (fun kvs z => nomatch z), show_cd h0 h, depth_cd c, ?_, q⟩
  have a := shown_wt (cdD c)
  have b := wt_cd h0 h ok.2
  rw [sizeLine_eq]
  omega
end Lk
end
section
set_option maxRecDepth 100000
set_option maxHeartbeats 2000000
/-! == of coders. -/
namespace Lk
open PySem PySem.Spec PyProof.Rows L2
theorem eqvAll_ints : ∀ l m : List Nat, PyData.eqvAll (l.map dN) (m.map dN) = decide (l = m) := by
  intro l
  induction l with
  | nil => intro m; cases m <;> simp [PyData.eqvAll]
  | cons a l ih =>
    intro m
    cases m with
    | nil => simp [PyData.eqvAll]
    | cons b m =>
      simp only [List.map_cons, PyData.eqvAll, PyData.eqv, ih]
      by_cases e : a = b
      · subst e
        simp
      · have e2 : ¬ ((a : Int) = (b : Int)) := by omega
        simp [e, e2]
theorem eqv_cd (c d : Cd) : PyData.eqv (cdD c) (cdD d) = decide (c = d) := by
  obtain ⟨a, l⟩ := c
  obtain ⟨b, m⟩ := d
  simp only [cdD, PyData.eqv, PyData.eqvAll, eqvAll_ints]
  by_cases e : a = b
  · subst e
    by_cases e2 : l = m
    · subst e2
      simp
    · simp [e2]
  · have e3 : ¬ ((a : Int) = (b : Int)) := by omega
    simp [e, e3]
theorem lay_cd (c : Cd) : (cdD c).canLay0 = true := by
  simp [cdD, PyData.canLay0, PyData.canLayAll0, layAll_ints]
theorem shaped_cd (c : Cd) : SeqAt.shaped (cdD c) = true := by
  unfold SeqAt.shaped
  rw [Bool.and_eq_true]
  refine ⟨lay_cd c, decide_eq_true ?_⟩
  simp only [cdD, PyData.depth, PyData.depthAll, depthAll_ints]
  decide
end Lk
end
section
set_option maxRecDepth 100000
set_option maxHeartbeats 2000000
/-! Tuples of places as texts, held against one another. -/
namespace Lk
open PySem PySem.Spec PyProof.Rows L2
theorem free_hw {c : Cd} (h : COk c) : Free c ↔ ∀ i, i < c.2.length → hw c c.2.length i = c.1 :=
  ⟨fun f i hi => (hw_home h hi (by omega)).mpr (f i hi), fun f i hi => (hw_home h hi (by omega)).mp (f i hi)⟩
def tD (t : List Nat) : PyData := .tuple (t.map dN)
theorem th_tD {H : Hp} {p : Addr} {t : List Nat} (e : H p = some (.tup (t.map vN))) : Th H (.ref p) (tD t) := .tup e (ints_nat t)
theorem lay_tD (t : List Nat) : (tD t).canLay0 = true := by
  simp [tD, PyData.canLay0, layAll_ints]
theorem shaped_tD (t : List Nat) : SeqAt.shaped (tD t) = true := by
  unfold SeqAt.shaped
  rw [Bool.and_eq_true]
  refine ⟨lay_tD t, decide_eq_true ?_⟩
  simp only [tD, PyData.depth, depthAll_ints]
  decide
theorem eqv_tD (t u : List Nat) : PyData.eqv (tD t) (tD u) = decide (t = u) := by
  simp only [tD, PyData.eqv, eqvAll_ints]
theorem rep_tD {K : PySem.W.Frag} {H : Hp} {Q : VK} {p : Addr} {t : List Nat} (e : H p = some (.tup (t.map vN))) (h12 : t.length ≤ 12) (h : ∀ n ∈ t, n < 10 ^ 45) (q : Q (.str (tD t).shown) H) : rRep K [.ref p] H Q := by
  refine ⟨.ref p, tD t, rfl, Th.dq _ (th_tD e), (fun kvs z => nomatch z), ?_, ?_, ?_, q⟩
  · simp only [tD, PyData.showable, showAll_nats h]
  · simp only [tD, PyData.depth, depthAll_ints]
    decide
  · have a := shown_wt (tD t)
    have b := wts_nats h
    have c : wt (tD t) = 3 + wts (t.map dN) := rfl
    rw [sizeLine_eq]
    omega
theorem tree_three : TreeOf (0, [0, 0, 0]) [0, 1] := by
  have ok : ∀ n, COk (it n (0, [0, 0, 0])) := fun n => it_ok n (show (0 : Nat) < 3 by decide)
  refine ⟨2, 5, ⟨(free_hw (ok 2)).mpr (by decide), fun m hm => ?_⟩, ⟨by decide, fun k hk => ?_⟩, by decide⟩
  · match m, hm with
    | 0, _ => exact fun f => absurd ((free_hw (ok 0)).mp f) (by decide)
    | 1, _ => exact fun f => absurd ((free_hw (ok 1)).mp f) (by decide)
  · revert k
    decide
end Lk
end
section
set_option maxRecDepth 100000
set_option maxHeartbeats 2000000
/-! Rows of goals as coders; trees. -/
namespace Lk
open PySem PySem.Spec PyProof.Rows L2
/-- a coder at place 0 whose last goings are these -/
def cdOf (g : List Nat) : Cd := (0, (List.range g.length).map fun i => (g.getD i 0 + (g.length - i)) % g.length)
theorem cdOf_len (g : List Nat) : (cdOf g).2.length = g.length := by
  show ((List.range g.length).map _).length = _
  rw [List.length_map, List.length_range]
theorem cdOf_ok {g : List Nat} (h : 0 < g.length) : COk (cdOf g) := by
  show 0 < (cdOf g).2.length
  rw [cdOf_len]
  exact h
theorem cdOf_lenAt {g : List Nat} {i : Nat} (h : i < g.length) : len (cdOf g) i = (g.getD i 0 + (g.length - i)) % g.length := by
  show ((List.range g.length).map _).getD i 0 = _
  rw [List.getD_eq_getElem?_getD, List.getElem?_map, List.getElem?_range h]
  rfl
theorem cdOf_go {g : List Nat} (hg : ∀ x ∈ g, x < g.length) {i : Nat} (h : i < g.length) : go (cdOf g) i = g.getD i 0 := by
  have e : g.getD i 0 < g.length := hg _ (by
    rw [List.getD_eq_getElem?_getD, List.getElem?_eq_getElem h]
    exact List.getElem_mem h)
  show (i + len (cdOf g) i) % (cdOf g).2.length = _
  rw [cdOf_len, cdOf_lenAt h, Nat.add_mod_mod, show i + (g.getD i 0 + (g.length - i)) = g.getD i 0 + g.length by omega, Nat.add_mod_right, Nat.mod_eq_of_lt e]
theorem cdOf_gos {g : List Nat} (hg : ∀ x ∈ g, x < g.length) : gos (cdOf g) = g := by
  refine List.ext_getElem? fun i => ?_
  by_cases h : i < g.length
  · rw [gos_at (by rw [cdOf_len]; exact h), cdOf_go hg h, List.getD_eq_getElem?_getD, List.getElem?_eq_getElem h]
    rfl
  · rw [List.getElem?_eq_none (by rw [gos_len, cdOf_len]; omega), List.getElem?_eq_none (by omega)]
theorem gon_home {c : Cd} (h0 : c.1 = 0) (hg : go c 0 = 0) : ∀ k, gon c k 0 = 0
  | 0 => rfl
  | k + 1 => by rw [gon_succ, gon_home h0 hg k, hg]
/-- all come first who have come behind so many turns -/
theorem come_all {c : Cd} (h : COk c) (h0 : c.1 = 0) (hg : go c 0 = 0) : (∀ i, i < c.2.length → gon c c.2.length i = 0) ↔ Free c := by
  refine ⟨fun f i hi => ⟨c.2.length, (f i hi).trans h0.symm⟩, fun f i hi => ?_⟩
  obtain ⟨j, hj, e⟩ := rch_near h hi (f i hi)
  rw [show c.2.length = j + (c.2.length - j) by omega, gon_add, e, h0]
  exact gon_home h0 hg _
/-- what is a tree of p places -/
def IsTr (p : Nat) (d : PyData) : Prop := ∃ t : List Nat, d = tD t ∧ t.length + 1 = p ∧ (∀ x ∈ t, x < p) ∧ Free (cdOf (0 :: t))
theorem tD_inj {t u : List Nat} (e : tD t = tD u) : t = u := by
  have z : t.map dN = u.map dN := PyData.tuple.inj e
  have inj : ∀ a b : Nat, dN a = dN b → a = b := fun a b e => by injection e with e; omega
  exact List.map_inj_right (fun a b e => inj a b e) |>.mp z
def spCome : Sp := fun vs H Q _ => ∃ a t, vs = [.ref a] ∧ H a = some (.tup (t.map vN)) ∧ t.length ≤ 11 ∧ (∀ x ∈ t, x < t.length + 1) ∧ ∀ b H', (b = true ↔ Free (cdOf (0 :: t))) → Same H H' → Q (.bl b) H'
def spIsTree (C : Addr) : Sp := fun vs H Q E => ∃ u v e d, vs = [u, v] ∧ Th H u e ∧ Th H v d ∧ (inR e 1 12 = false → ∀ H', Same H H' → E (.ref C) none H') ∧
  (∀ p : Nat, e = .int (p : Int) → 1 ≤ p → p ≤ 12 → ∀ b H', (b = true ↔ IsTr p d) → Same H H' → Q (.bl b) H')
def spDue : Sp := fun vs H Q _ => ∃ (p : Nat) (v : V) (d : PyData), vs = [.int (p : Int), v] ∧ Th H v d ∧ 1 ≤ p ∧ p ≤ 12 ∧ ∀ b H', (b = true ↔ IsTr p d) → Same H H' → Q (.bl b) H'
theorem all_take {bs : List Bool} {n : Nat} (h : n = bs.length) : bs.take n = bs := by rw [h, List.take_length]
end Lk
end
section
set_option maxRecDepth 100000
set_option maxHeartbeats 2000000
namespace Lk
open PySem PySem.Spec PyProof.Rows L2
section
variable {P : Program} {w : World} {K : PySem.W.Frag} {mg : Str → Option Value} {base : Heap}
abbrev nAc : List Str := ["tree", "goings", "places", "_", "place"]
theorem sc_come : FnScope nAc ["tree"] (defScope s_all_come_first) := ⟨rfl, rfl, rfl, by decide +kernel, rfl, by decide +kernel, by decide +kernel⟩
theorem ok_come {f : Addr} {fd : FuncData} (F : Fun K "all_come_first" "all_come_first" s_all_come_first f fd) (mi : mg "list" = none) (ma : mg "all" = none) : FnOk P w K mg base CX0 1 f fd ["tree"] spCome := by
  refine F.ok sc_come (fun vs H Q E h => ?_) (fun cdv A outer s H vs Q E hr h => ?_)
  · obtain ⟨a, t, rfl, _⟩ := h
    rfl
  · obtain ⟨a, t, rfl, ha, h11, hlt, q⟩ := h
    have nd := sc_come.nd
    refine ⟨_, (pss_cons (by exact (ps_set (i := 1) nd rfl (Or.inr rfl) (pe_tupS (pa_cons pe_int (StX.pa_star (pv 0) pa_nil)))))
      (pss_cons (by exact (ps_set (i := 2) nd rfl (Or.inl rfl) (pe_callTy call_lisS (by rfl) mi (by decide +kernel) (pa_cons (pv 1) pa_nil))))
      (pss_cons (by exact (ps_for PassesOwn.never rfl (pi_tup (pv 0)) (pg_name (i := 3) nd rfl (Or.inl rfl)) (pss_one (by exact (ps_setLc (i := 2) (own := [("place", 4)]) (g := (gName 4)) (by rfl) nd rfl rfl (sw_true rfl rfl rfl (by decide +kernel)) (pi_list (pv 2)) (blkOk_by (N := nAc) (sc := defScope s_all_come_first) (by decide +kernel)) (fun _ _ _ _ _ => (pg_name (i := 4) nd rfl (Or.inl rfl))) (fun _ _ _ _ _ => pts_nil) (fun _ _ _ _ _ => (pe_ix (ix_tupK (K := K) rfl) (pv 1) (pv 4) (fun _ _ => rfl))))))))
      (pss_one (by exact (ps_ret (pe_callB (cr_all rfl) (by rfl) ma (by decide +kernel) (pa_cons (pe_lc (own := [("place", 4)]) (g := (gName 4)) (tt := tYes) rfl nd (pi_list (pv 2)) (blkOk_by (N := nAc) (sc := defScope s_all_come_first) (by decide +kernel)) (fun _ _ _ _ _ => (pg_name (i := 4) nd rfl (Or.inl rfl))) (fun _ _ _ _ _ => pts_nil) (fun _ _ _ _ _ => (pe_cmpR op_eq (pv 4) pe_int (nomark _)))) pa_nil)))))))), ?_⟩
    have hg : ∀ x ∈ 0 :: t, x < (0 :: t).length := fun x hx => by
      rcases List.mem_cons.mp hx with e | m
      · rw [e]
        exact Nat.succ_pos _
      · exact hlt x m
    have hlen : (cdOf (0 :: t)).2.length = t.length + 1 := cdOf_len _
    have ok : COk (cdOf (0 :: t)) := cdOf_ok (Nat.succ_pos _)
    have eg : gos (cdOf (0 :: t)) = 0 :: t := cdOf_gos hg
    have hgo : go (cdOf (0 :: t)) 0 = 0 := cdOf_go hg (Nat.succ_pos _)
    have all := come_all ok rfl hgo
    generalize hc : cdOf (0 :: t) = c at *
    refine ⟨_, rfl, ?_⟩
    refine ⟨a, _, rfl, .inl (SqT.of ha), (by rw [List.append_nil, List.length_cons, List.length_map, sizeLine_eq]; omega), fun T H1 nT s1 eT => ?_⟩
    have eT' : H1 T = some (.tup ((gos c).map vN)) := by
      rw [eT, eg, List.append_nil]
      rfl
    refine ⟨_, rfl, T, _, rfl, .inr eT', fun L H2 nL s2 eL => ?_⟩
    refine ⟨_, rfl, a, rfl, ⟨_, SqT.of (s2 _ _ (s1 _ _ ha))⟩, ?_⟩
    refine for_tup (K := K) (a := a) (xs := t.map vN) (fun k σ H3 => ∃ L' y3 y4, σ = [some (.ref a), some (.ref T), some (.ref L'), y3, y4] ∧ Same H2 H3 ∧ H3 L' = some (.lst (((List.range c.2.length).map (gon c (k + 1))).map vN)))
      ⟨L, none, none, rfl, Same.refl _, eL⟩ (fun k σ H3 _ p => by
        obtain ⟨_, _, _, _, s3, _⟩ := p
        exact SqT.of (s3 _ _ (s2 _ _ (s1 _ _ ha)))) ?_ ?_
    · rintro k x σ H3 hx ⟨L', y3, y4, rfl, s3, e3⟩
      have s13 : Same H1 H3 := Same.trans s2 s3
      refine ⟨_, rfl, L', rfl, ⟨_, SqL.of e3⟩, fun D nD => ?_⟩
      refine lc_it walk_list (fun i H4 => Same H3 H4 ∧ H4 D = some (.lst ((((List.range c.2.length).map (gon c (k + 2))).take i).map vN))) ⟨same_new nD, upd_same⟩ (fun i H4 _ p => SqL.of (p.1 _ _ e3)) ?_ ?_
      · rintro i x4 H4 H5 hi ⟨s4, e4⟩ ⟨rfl, hx4⟩
        rw [List.length_map, List.length_map, List.length_range] at hi
        rw [List.getElem?_map, List.getElem?_map, List.getElem?_range hi] at hx4
        have hx5 : x4 = vN (gon c (k + 1) i) := (Option.some.inj hx4).symm
        subst hx5
        have atT : ((gos c).map vN)[gon c (k + 1) i]? = some (vN (go c (gon c (k + 1) i))) := by
          rw [List.getElem?_map, gos_at (gon_lt ok hi _)]
          rfl
        obtain ⟨acc, a1, a2, a3⟩ := snoc_map (f := vN) e4 (show ((List.range c.2.length).map (gon c (k + 2)))[i]? = some (gon c (k + 2) i) by rw [List.getElem?_map, List.getElem?_range hi]; rfl) (by rw [List.length_map, List.length_range]; omega)
        refine ⟨rfl, _, rfl, _, rfl, T, _, _, _, rfl, rfl, SqT.of (s4 _ _ (s13 _ _ eT')), atI_nat atT, acc, a1, a2, same_push s4 nD, ?_⟩
        rw [gon_succ] at a3
        exact a3
      · rintro H4 ⟨s4, e4⟩
        rw [show (((List.range c.2.length).map (gon c (k + 1))).map vN).length = ((List.range c.2.length).map (gon c (k + 2))).length by simp, List.take_length] at e4
        exact ⟨D, _, _, rfl, Same.trans s3 s4, e4⟩
    · rintro σ H3 ⟨L', y3, y4, rfl, s3, e3⟩
      have s03 : Same H H3 := Same.trans s1 (Same.trans s2 s3)
      rw [List.length_map, show t.length + 1 = c.2.length by omega] at e3
      refine ⟨_, rfl, L', rfl, ⟨_, SqL.of e3⟩, fun D nD => ?_⟩
      have bl : ((List.range c.2.length).map fun i => decide (gon c c.2.length i = 0)).length ≤ 100000 := by
        rw [List.length_map, List.length_range]
        omega
      refine lc_it walk_list (fun i H4 => Same H3 H4 ∧ H4 D = some (.lst ((((List.range c.2.length).map fun i => decide (gon c c.2.length i = 0)).take i).map V.bl))) ⟨same_new nD, upd_same⟩ (fun i H4 _ p => SqL.of (p.1 _ _ e3)) ?_ ?_
      · rintro i x4 H4 H5 hi ⟨s4, e4⟩ ⟨rfl, hx4⟩
        rw [List.length_map, List.length_map, List.length_range] at hi
        rw [List.getElem?_map, List.getElem?_map, List.getElem?_range hi] at hx4
        have hx5 : x4 = vN (gon c c.2.length i) := (Option.some.inj hx4).symm
        subst hx5
        obtain ⟨acc, a1, a2, a3, a4⟩ := snoc_bl e4 (show ((List.range c.2.length).map fun i => decide (gon c c.2.length i = 0))[i]? = some (decide (gon c c.2.length i = 0)) by rw [List.getElem?_map, List.getElem?_range hi]; rfl) bl
        refine ⟨rfl, _, rfl, rfl, acc, a1, a2, same_push s4 nD, ?_⟩
        rw [show decide (gon c c.2.length i = 0) = decide (vN (gon c c.2.length i) = V.int 0) from ?_] at a3
        · exact a3
        · by_cases e : gon c c.2.length i = 0
          · rw [decide_eq_true e, e]
            rfl
          · rw [decide_eq_false e, decide_eq_false (fun z => e (by injection z with z; omega))]
      · rintro H4 ⟨s4, e4⟩
        rw [show (((List.range c.2.length).map (gon c c.2.length)).map vN).length = ((List.range c.2.length).map fun i => decide (gon c c.2.length i = 0)).length by simp, List.take_length] at e4
        refine ⟨D, _, rfl, SqL.of e4, q _ H4 ?_ (Same.trans s03 s4)⟩
        rw [← all, List.all_eq_true]
        constructor
        · intro z i hi
          exact of_decide_eq_true (z _ (List.mem_map.mpr ⟨i, List.mem_range.mpr hi, rfl⟩))
        · intro z b hb
          obtain ⟨i, hi, rfl⟩ := List.mem_map.mp hb
          exact decide_eq_true (z i (List.mem_range.mp hi))
end
end Lk
end
section
set_option maxRecDepth 100000
set_option maxHeartbeats 2000000
namespace Lk
open PySem PySem.Spec PyProof.Rows L2
section
variable {P : Program} {w : World} {K : PySem.W.Frag} {mg : Str → Option Value} {base : Heap}
abbrev NnIt : List Str := ["p", "thing", "place"]
theorem scN_isTree : FnScope NnIt ["p", "thing"] (defScope s_is_tree) := ⟨rfl, rfl, rfl, by decide +kernel, rfl, by decide +kernel, by decide +kernel⟩
theorem okN_isTree {f C : Addr} {fd : FuncData} (F : Fun K "is_tree" "is_tree" s_is_tree f fd) (cc : CalN P w K mg base 3 "refuse_no_count" (spCount C)) (cw : C8.Cal P w K mg base 2 "is_within" spWithin []) (ca : C8.Cal P w K mg base 1 "all_come_first" spCome []) (mi : mg "isinstance" = none) (mt : mg "tuple" = none) (ml : mg "len" = none) (ma : mg "all" = none) {tp : Tok} (mp : mg "MOST_PLACES" = some (.int 12 tp)) : FnOk P w K mg base (L2N.CX P w) 4 f fd ["p", "thing"] (spIsTree C) := by
  refine okN F scN_isTree (fun vs H Q E h => ?_) (fun cdv A outer s H vs Q E hr h => ?_)
  · obtain ⟨u, v, e, d, rfl, _⟩ := h
    rfl
  · obtain ⟨u, v, e, d, rfl, he, hv, q1, q⟩ := h
    have nd := scN_isTree.nd
    refine ⟨_, (pss_cons (by exact (ps_expr (pe_cN cc (L2N.takes_of rfl rfl rfl rfl) hr (by decide) rfl (pa_cons (pv 0) (pa_cons pe_int (pa_cons (pe_glob (v := .int 12) rfl mp ⟨_, rfl⟩) pa_nil))))))
      (pss_cons (by exact (ps_if (PW.pt (pw_or (pt_not (pt_val (pe_callB call_isi (by rfl) mi (by decide +kernel) (pa_cons (pv 1) (pa_cons (pe_bltn (v := .ty "tuple") (by rfl) mt (by decide +kernel) rfl) pa_nil))))) (pw_or1 (pt_cmpR op_ne (pe_callB call_len_seq (by rfl) ml PySem.boot_len (pa_cons (pv 1) pa_nil)) (pe_op op_sub (pv 0) pe_int) (nomark _))))) (pss_one (by exact (ps_ret pe_bl))) pss_nil))
      (pss_one (by exact (ps_ret (pe_and (pe_callB (cr_all rfl) (by rfl) ma (by decide +kernel) (pa_cons (pe_lc (own := [("place", 2)]) (g := (gName 2)) (tt := tYes) rfl nd (pi_tup (pv 1)) (blkOk_by (N := NnIt) (sc := defScope s_is_tree) (by decide +kernel)) (fun _ _ _ _ _ => (pg_name (i := 2) nd rfl (Or.inl rfl))) (fun _ _ _ _ _ => pts_nil) (fun _ _ _ _ _ => (C8.pe_c cw hr (by decide) rfl (pa_cons (pv 2) (pa_cons pe_int (pa_cons (pe_op op_sub (pv 0) pe_int) pa_nil)))))) pa_nil)) (pe_one (C8.pe_c ca hr (by decide) rfl (pa_cons (pv 1) pa_nil))))))))), ?_⟩
    refine ⟨_, rfl, u, e, 1, 12, rfl, .inr (.inr (.inl ⟨rfl, rfl⟩)), he, fun hi => ?_, fun hi => q1 hi H (Same.refl _)⟩
    obtain ⟨p, rfl, p1, p12⟩ : ∃ p : Nat, e = .int (p : Int) ∧ 1 ≤ p ∧ p ≤ 12 := by
      cases e with
      | int i =>
        have z : (decide ((1 : Int) ≤ i) && decide (i ≤ 12)) = true := hi
        rw [Bool.and_eq_true, decide_eq_true_eq, decide_eq_true_eq] at z
        exact ⟨i.toNat, by rw [Int.toNat_of_nonneg (by omega)], by omega, by omega⟩
      | _ => cases hi
    have qq := q p rfl p1 p12
    clear q q1
    have eu : u = .int (p : Int) := by cases he; rfl
    subst eu
    refine ⟨_, rfl, v, .ty "tuple", _, _, isT d, rfl, .ty _, hv.ty, kit_tuple d, _, rfl, ?_⟩
    cases hT : isT d with
    | false =>
      refine qq false H ⟨fun z => (by cases z), fun z => ?_⟩ (Same.refl _)
      obtain ⟨t, rfl, _⟩ := z
      cases hT
    | true =>
      cases hv with
      | tup ea ma =>
        rename_i a xs ds
        have hlen := ma.length
        refine ⟨_, rfl, a, xs, rfl, .inr (SqT.of ea), _, rfl, _, _, rfl, rfl, rfl, _, rfl, ?_⟩
        by_cases hl : xs.length + 1 = p
        · refine ne_no (congrArg V.int (by omega)) ?_
          refine ⟨_, rfl, a, rfl, ⟨xs, SqT.of ea⟩, fun D nD => ?_⟩
          have ml2 : (ds.map fun x => inR x 0 ((p : Int) - 1)).length ≤ 100000 := by rw [List.length_map, ← hlen]; omega
          refine lc_it walk_tup (fun i H3 => Same H H3 ∧ H3 D = some (.lst (((ds.map fun x => inR x 0 ((p : Int) - 1)).take i).map V.bl))) ⟨same_new nD, upd_same⟩ (fun i H3 _ p => SqT.of (p.1 _ _ ea)) ?_ ?_
          · rintro i x H3 H4 hi ⟨s3, e3⟩ ⟨rfl, hx⟩
            obtain ⟨dx, hdx, tx⟩ := ma.get hx
            have hc : (ds.map fun x => inR x 0 ((p : Int) - 1))[i]? = some (inR dx 0 ((p : Int) - 1)) := by rw [List.getElem?_map, hdx]; rfl
            obtain ⟨acc, a1, a2, a3, a4⟩ := snoc_bl e3 hc ml2
            exact ⟨rfl, _, rfl, _, rfl, _, _, rfl, rfl, x, dx, 0, _, rfl, Th.same s3 dx tx, acc, a1, a2, same_push s3 nD, a3⟩
          · rintro H3 ⟨s3, e3⟩
            rw [show xs.length = (ds.map fun x => inR x 0 ((p : Int) - 1)).length by rw [List.length_map, hlen], List.take_length] at e3
            refine ⟨D, _, rfl, SqL.of e3, ?_⟩
            refine ⟨_, rfl, ?_⟩
            rw [List.all_map]
            cases hall : ds.all (id ∘ fun x => inR x 0 ((p : Int) - 1)) with
            | false =>
              refine iteF (qq false H3 ⟨fun z => (by cases z), fun z => ?_⟩ s3)
              obtain ⟨t, et, l, b, _⟩ := z
              have e2 : ds = t.map dN := PyData.tuple.inj et
              have z2 : ds.all (id ∘ fun x => inR x 0 ((p : Int) - 1)) = true := by
                rw [List.all_eq_true]
                intro x hx
                rw [e2] at hx
                obtain ⟨y, hy, rfl⟩ := List.mem_map.mp hx
                have := b y hy
                show (decide ((0 : Int) ≤ (y : Int)) && decide ((y : Int) ≤ (p : Int) - 1)) = true
                rw [decide_eq_true (by omega), decide_eq_true (by omega)]
                rfl
              rw [hall] at z2
              cases z2
            | true =>
              refine iteT ?_
              have key : ∀ x ∈ ds, inR x 0 ((p : Int) - 1) = true := List.all_eq_true.mp hall
              obtain ⟨t, rfl⟩ := nats_of (ds := ds) (by
                rw [List.all_eq_true]
                intro x hx
                have z := key x hx
                cases x with
                | int i =>
                  have z2 : (decide ((0 : Int) ≤ i) && decide (i ≤ (p : Int) - 1)) = true := z
                  rw [Bool.and_eq_true, decide_eq_true_eq] at z2
                  exact decide_eq_true z2.1
                | _ => cases z)
              have ex := nat_ints ma
              subst ex
              rw [List.length_map] at hl
              have bd : ∀ x ∈ t, x < p := fun x hx => by
                have z := key _ (List.mem_map.mpr ⟨x, hx, rfl⟩)
                have z2 : (decide ((0 : Int) ≤ (x : Int)) && decide ((x : Int) ≤ (p : Int) - 1)) = true := z
                rw [Bool.and_eq_true, decide_eq_true_eq, decide_eq_true_eq] at z2
                omega
              refine ⟨_, rfl, a, t, rfl, s3 _ _ ea, by omega, fun x hx => by have := bd x hx; omega, fun b H4 hb s4 => ?_⟩
              refine qq b H4 (hb.trans ⟨fun f => ⟨t, rfl, hl, bd, f⟩, fun z => ?_⟩) (Same.trans s3 s4)
              obtain ⟨t2, et, _, _, f⟩ := z
              have e2 : t = t2 := tD_inj et
              rw [e2]
              exact f
        · refine ne_yes (fun z => hl (by injection z with z; omega)) ?_
          refine qq false H ⟨fun z => (by cases z), fun z => ?_⟩ (Same.refl _)
          obtain ⟨t, et, l, _⟩ := z
          have e2 : ds = t.map dN := PyData.tuple.inj et
          exact absurd (by rw [hlen, e2, List.length_map]; exact l) hl
      | _ => cases hT
end
end Lk
end
section
set_option maxRecDepth 100000
set_option maxHeartbeats 2000000
/-! Drawn trees; heaps but for one object. -/
namespace Lk
open PySem PySem.Spec PyProof.Rows L2
/-- a list's method within a comprehension -/
theorem pe_bmK {X : Cx} {K : PySem.W.Frag} {o e : Expr} {es : List Expr} {to : TE} {t : TA} {name : Str} {apos cpos : Pos} {T id : String} {r : V → List V → Hp → VK → Prop} (hK : X.K = K) (pa : PlainAttrs T) (slot : Slot T name id) (hty : typeOf (.builtin id) = pure (.type "method_descriptor")) (hm : MtR X id r) (ho : PE X o to) (ha : PA X (e :: es) t)
    (hbase : attributeBase o name X.env (eval o X.env) = eval o X.env := by rfl)
    (hfew : ((backTo cpos (starEach (e :: es) X.env)).all (fun x => !x.1) && (backToKw cpos (keywordEach [] X.env)).all (fun x => x.1.isSome)
      && decide ((e :: es).length + ([] : List Keyword).length + (if ([] : List Keyword).isEmpty then 0 else 1) < 30)) = true := by rfl)
    (hline : (apos.endLine == cpos.line) = true := by rfl) (hs : starEach (e :: es) X.env = (false, eval e X.env) :: starEach es X.env := by rfl) (hplain : (backTo cpos (starEach es X.env)).any (·.1) = false := by rfl) :
    PE X (.Call (.Attribute o name apos) (e :: es) [] cpos) (tBM K T r to t) := by
  subst hK
  exact pe_bm pa slot hty hm ho ha hbase hfew hline hs hplain
theorem flat_rep (x : Nat) : ∀ n : Nat, (List.replicate n [V.int (x : Int)]).flatten = (List.replicate n x).map vN
  | 0 => rfl
  | n + 1 => by
    rw [List.replicate_succ, List.replicate_succ, List.flatten_cons, flat_rep x n]
    rfl
theorem ixN_at {n j : Nat} (hj : j < n) : ixN n (j : Int) = some j := by
  unfold ixN
  rw [if_pos (by omega), if_pos (by omega)]
  simp
theorem seq_at {n : Nat} {i : Int} (h0 : 0 ≤ i) (h1 : i < n) : seqIndex? i n = some i.toNat := by
  have z := ixN_seq (n := n) (i := i) (j := i.toNat) (by
    have e : i = ((i.toNat : Nat) : Int) := by omega
    rw [e]
    exact ixN_at (by omega))
  exact z.1
def spDTree : Sp := fun vs H Q _ => ∃ (a : Addr) (p : Nat) (n : Int), vs = [.ref a, .int (p : Int)] ∧ Urn H a n ∧ n ≤ 99000 ∧ 1 ≤ p ∧ p ≤ 12 ∧
  ∀ (t : List Nat) (pt : Addr) H', t.length + 1 = p → (∀ x ∈ t, x < p) → Urn H' a (n + 30) → SameBut a H H' → H pt = none → H' pt = some (.tup (t.map vN)) → Q (.ref pt) H'
/-- the heap without one object -/
def rm (a : Addr) (H : Hp) : Hp := fun b => if b = a then none else H b
theorem rm_ne {a b : Addr} {H : Hp} (h : b ≠ a) : rm a H b = H b := if_neg h
theorem rm_same {a : Addr} {H : Hp} : Same (rm a H) H := fun b o e => by
  by_cases h : b = a
  · rw [h] at e
    unfold rm at e
    rw [if_pos rfl] at e
    cases e
  · rw [← rm_ne (H := H) h]
    exact e
theorem rm_but {a : Addr} {H H2 : Hp} (s : SameBut a H H2) : Same (rm a H) (rm a H2) := fun b o e => by
  by_cases h : b = a
  · rw [h] at e
    unfold rm at e
    rw [if_pos rfl] at e
    cases e
  · rw [rm_ne h] at e ⊢
    exact s b o h e
theorem eraseIdx_map {l : List Nat} (k : Nat) : (l.map vN).eraseIdx k = (l.eraseIdx k).map vN := by
  induction l generalizing k with
  | nil => rfl
  | cons x l ih =>
    cases k with
    | zero => rfl
    | succ k =>
      show vN x :: (l.map vN).eraseIdx k = vN x :: (l.eraseIdx k).map vN
      rw [ih]
end Lk
end
section
set_option maxRecDepth 100000
set_option maxHeartbeats 2000000
/-! Things that are shown; things that hang not on the urn. -/
namespace Lk
open PySem PySem.Spec PyProof.Rows L2
def Good (d : PyData) : Prop := d.showable = true ∧ d.depth ≤ 8 ∧ wt d ≤ 2000
theorem th_tup {H : Hp} {a p : Addr} {n : Int} {xs : List V} {ds : List PyData} (u : Urn H a n) (e : H p = some (.tup xs)) (m : ThAll (rm a H) xs ds) : Th (rm a H) (.ref p) (.tuple ds) := by
  refine .tup ?_ m
  rw [rm_ne (fun z => ?_)]
  · exact e
  · obtain ⟨_, _, _, e2, _⟩ := u
    rw [z, e2] at e
    cases e
theorem th_lst {H : Hp} {a p : Addr} {xs : List V} {ds : List PyData} (ne : p ≠ a) (e : H p = some (.lst xs)) (m : ThAll (rm a H) xs ds) : Th (rm a H) (.ref p) (.list ds) := .lst (by rw [rm_ne ne]; exact e) m
theorem th_dct {H : Hp} {a p : Addr} (ne : p ≠ a) (e : H p = some (.dK [])) : Th (rm a H) (.ref p) (.dict []) := .dct (by rw [rm_ne ne]; exact e)
theorem Th.up {H H2 : Hp} {a : Addr} {v : V} {d : PyData} (h : Th (rm a H) v d) (s : SameBut a H H2) : Th (rm a H2) v d := Th.same (rm_but s) d h
theorem ThAll.up {H H2 : Hp} {a : Addr} {vs : List V} {ds : List PyData} (h : ThAll (rm a H) vs ds) (s : SameBut a H H2) : ThAll (rm a H2) vs ds := ThAll.same (rm_but s) ds h
theorem wt_small {n : Nat} (h : n < 10 ^ 45) : wt (dN n) ≤ 46 := wt_nat h
theorem dep_ints : ∀ l : List Nat, PyData.depthAll (l.map dN) = 0 := depthAll_ints
theorem good_tup {t : List Nat} (h : ∀ x ∈ t, x < 10 ^ 45) (l : t.length ≤ 30) : Good (.tuple (t.map dN)) := by
  refine ⟨?_, ?_, ?_⟩
  · simp only [PyData.showable, showAll_nats h]
  · simp only [PyData.depth, depthAll_ints]
    decide
  · have b := wts_nats h
    show 3 + wts (t.map dN) ≤ 2000
    omega
theorem good_lst {t : List Nat} (h : ∀ x ∈ t, x < 10 ^ 45) (l : t.length ≤ 30) : Good (.list (t.map dN)) := by
  refine ⟨?_, ?_, ?_⟩
  · simp only [PyData.showable, showAll_nats h]
  · simp only [PyData.depth, depthAll_ints]
    decide
  · have b := wts_nats h
    show 2 + wts (t.map dN) ≤ 2000
    omega
def GoodS (d : PyData) : Prop := d.showable = true ∧ d.depth ≤ 6 ∧ wt d ≤ 200
theorem GoodS.good {d : PyData} (h : GoodS d) : Good d := ⟨h.1, by have := h.2.1; omega, by have := h.2.2; omega⟩
theorem showAll_app : ∀ {ds es : List PyData}, PyData.showableAll ds = true → PyData.showableAll es = true → PyData.showableAll (ds ++ es) = true
  | [], _, _, h => h
  | d :: ds, es, h1, h2 => by
    simp only [PyData.showableAll, Bool.and_eq_true] at h1
    simp only [List.cons_append, PyData.showableAll, Bool.and_eq_true]
    exact ⟨h1.1, showAll_app h1.2 h2⟩
theorem depAll_le {B : Nat} : ∀ {ds : List PyData}, (∀ d ∈ ds, d.depth ≤ B) → PyData.depthAll ds ≤ B
  | [], _ => by simp [PyData.depthAll]
  | d :: ds, h => by
    have a := h d List.mem_cons_self
    have b := depAll_le (ds := ds) fun x hx => h x (List.mem_cons_of_mem _ hx)
    simp only [PyData.depthAll]
    omega
theorem showAll_of : ∀ {ds : List PyData}, (∀ d ∈ ds, d.showable = true) → PyData.showableAll ds = true
  | [], _ => by simp [PyData.showableAll]
  | d :: ds, h => by
    simp only [PyData.showableAll, Bool.and_eq_true]
    exact ⟨h d List.mem_cons_self, showAll_of fun x hx => h x (List.mem_cons_of_mem _ hx)⟩
theorem goodS_int {i : Int} (h : i.natAbs < 10 ^ 45) : GoodS (.int i) := by
  refine ⟨?_, by simp [PyData.depth], ?_⟩
  · have z := showAll_nats (ls := [i.natAbs]) (by intro n hn; rw [List.mem_singleton.mp hn]; exact h)
    simp only [List.map_cons, PyData.showableAll, PyData.showable, Bool.and_eq_true] at z ⊢
    simpa using z.1
  · have := wt_int h
    omega
/-- a tuple of a few small things -/
theorem good_some {ds : List PyData} (h : ∀ d ∈ ds, GoodS d ∧ wt d ≤ 60) (l : ds.length ≤ 30) : Good (.tuple ds) := by
  refine ⟨?_, ?_, ?_⟩
  · simp only [PyData.showable]
    exact showAll_of fun d hd => (h d hd).1.1
  · have z := depAll_le (B := 6) fun d hd => (h d hd).1.2.1
    simp only [PyData.depth]
    omega
  · have z := wts_le (B := 60) (ds := ds) fun d hd => (h d hd).2
    have z2 : ds.length * 62 ≤ 30 * 62 := Nat.mul_le_mul_right _ l
    show 3 + wts ds ≤ 2000
    omega
/-- what the repr of a list of such things asks -/
theorem rep_good {K : PySem.W.Frag} {H : Hp} {Q : VK} {p : Addr} {xs : List V} {ds : List PyData} (e : H p = some (.lst xs)) (m : ThAll H xs ds) (g : ∀ d ∈ ds, Good d) (l : ds.length ≤ 100) (q : Q (.str (PyData.list ds).shown) H) : rRep K [.ref p] H Q := by
  refine ⟨.ref p, .list ds, rfl, Th.dq _ (.lst e m), (fun kvs z => nomatch z), ?_, ?_, ?_, q⟩
  · simp only [PyData.showable]
    exact showAll_of fun d hd => (g d hd).1
  · have z := depAll_le (B := 8) fun d hd => (g d hd).2.1
    simp only [PyData.depth]
    omega
  · have a := shown_wt (.list ds)
    have z := wts_le (B := 2000) (ds := ds) fun d hd => (g d hd).2.2
    have z2 : ds.length * 2002 ≤ 100 * 2002 := Nat.mul_le_mul_right _ l
    have c : wt (.list ds) = 2 + wts ds := rfl
    rw [sizeLine_eq]
    omega
theorem rm_mono {a : Addr} {H H2 : Hp} (s : Same H H2) : Same (rm a H) (rm a H2) := rm_but fun b o _ e => s b o e
theorem rm_new {S : Addr} {H H2 : Hp} (h : H S = none) (s : Same H H2) : Same H (rm S H2) := fun b o e => by
  rw [rm_ne (ne_of_none e h)]
  exact s b o e
theorem rm_none {a S : Addr} {H : Hp} (h : H S = none) : rm a H S = none := by
  unfold rm
  split
  · rfl
  · exact h
theorem rm_upd {S : Addr} {H : Hp} {o : HO} : Same (rm S H) (rm S (upd H S o)) := rm_but sameBut_upd
theorem rm_upd2 {a S : Addr} {H : Hp} {o : HO} : Same (rm S (rm a H)) (rm S (rm a (upd H S o))) := fun b x e => by
  by_cases h : b = S
  · rw [h] at e
    unfold rm at e
    rw [if_pos rfl] at e
    cases e
  · rw [rm_ne h] at e ⊢
    by_cases h2 : b = a
    · rw [h2] at e
      unfold rm at e
      rw [if_pos rfl] at e
      cases e
    · rw [rm_ne h2] at e ⊢
      rw [upd_ne h]
      exact e
theorem th2_tup {H : Hp} {a S p : Addr} {n : Int} {xs ws : List V} {ds : List PyData} (u : Urn H a n) (eS : H S = some (.lst ws)) (e : H p = some (.tup xs)) (m : ThAll (rm S (rm a H)) xs ds) : Th (rm S (rm a H)) (.ref p) (.tuple ds) := by
  refine .tup ?_ m
  rw [rm_ne (fun z => ?_), rm_ne (fun z => ?_)]
  · exact e
  · obtain ⟨_, _, _, e2, _⟩ := u
    rw [z, e2] at e
    cases e
  · rw [z, eS] at e
    cases e
theorem th2_lst {H : Hp} {a S p : Addr} {xs : List V} {ds : List PyData} (n1 : p ≠ a) (n2 : p ≠ S) (e : H p = some (.lst xs)) (m : ThAll (rm S (rm a H)) xs ds) : Th (rm S (rm a H)) (.ref p) (.list ds) := .lst (by rw [rm_ne n2, rm_ne n1]; exact e) m
theorem th2_dct {H : Hp} {a S p : Addr} (n1 : p ≠ a) (n2 : p ≠ S) (e : H p = some (.dK [])) : Th (rm S (rm a H)) (.ref p) (.dict []) := .dct (by rw [rm_ne n2, rm_ne n1]; exact e)
theorem flat_any (x : V) : ∀ n : Nat, (List.replicate n [x]).flatten = List.replicate n x
  | 0 => rfl
  | n + 1 => by
    rw [List.replicate_succ, List.replicate_succ, List.flatten_cons, flat_any x n]
    rfl
theorem thAll_rep {H : Hp} {v : V} {d : PyData} (h : Th H v d) : ∀ n : Nat, ThAll H (List.replicate n v) (List.replicate n d)
  | 0 => .nil
  | n + 1 => .cons h (thAll_rep h n)
theorem good_rep {d : PyData} (g : GoodS d) (w : wt d ≤ 60) {n : Nat} (h : n ≤ 30) : Good (.tuple (List.replicate n d)) :=
  good_some (fun x hx => by rw [List.eq_of_mem_replicate hx]; exact ⟨g, w⟩) (by rw [List.length_replicate]; exact h)
def spThings : Sp := fun vs H Q _ => ∃ (a : Addr) (p : Nat) (n : Int), vs = [.ref a, .int (p : Int)] ∧ Urn H a n ∧ n ≤ 98000 ∧ 1 ≤ p ∧ p ≤ 12 ∧
  ∀ D H' ws ds, H' D = some (.lst ws) → ThAll (rm a H') ws ds → (∀ d ∈ ds, Good d) → ds.length ≤ 40 → Urn H' a (n + 130) → SameBut a H H' → Q (.ref D) H'
end Lk
end
section
set_option maxRecDepth 100000
set_option maxHeartbeats 2000000
/-! enumerate(t, start=k) of a tuple. -/
namespace Lk
open PySem PySem.Spec PyProof.Rows L2
theorem callWithT_kw {M : Model} {A : Around} {E : Value → Shared → Prop} {s : Shared} {env : Env} {pos : Pos} {T : String} {e : Expr} {rest : List Expr} {kws : List Keyword} {Q : Value → Shared → Prop}
    (h : wpAny M A (spliced (backTo pos (starEach (e :: rest) env))) (fun vs s₁ => wpAny M A (evalAll ((backToKw pos (keywordEach kws env)).map (·.2)))
      (fun kvs s₂ => wpAny M A (call (.type T) vs (((backToKw pos (keywordEach kws env)).filterMap (·.1)).zip kvs)) Q E s₂) E s₁) E s)
    (he : backTo pos (starEach (e :: rest) env) = (false, eval e env) :: backTo pos (starEach rest env))
    (hplain : (backTo pos (starEach (e :: rest) env)).any (·.1) = false)
    (hall : (backToKw pos (keywordEach kws env)).all (·.1.isSome) = true)
    (hkw : (backToKw pos (keywordEach kws env)).any (·.1.isNone) = false) :
    wpAny M A (callWith pos (.type T) [] (backTo pos (starEach (e :: rest) env)) (backToKw pos (keywordEach kws env))) Q E s := by
  unfold callWith
  refine wpAny_bind (wpAny_holding (wpAny_mono (?_ : wpAny M A (evalArgs (.type T) true (backTo pos (starEach (e :: rest) env)) (backToKw pos (keywordEach kws env))) (fun a s₁ => wpAny M A (call (.type T) ([] ++ a.pos) a.kw) Q E s₁) E s) (fun a s₁ h₁ => wpAny_bind (wpAny_standAt ?_)) fun _ _ x => x))
  · rw [he] at h ⊢
    exact evalArgs_kwB hall h
  · simp only [hplain, hkw, Bool.or_false]
    refine wpAny_bind (wpAny_pure ?_)
    exact wpAny_bind (wpAny_mono h₁ (fun r s₂ hr => wpAny_bind (wpAny_holding (wpAny_point (wpAny_pure hr)))) fun _ _ x => x)
def iEnumS (K : PySem.W.Frag) (ta tk : TA) : TI := fun σ H R => ta σ H fun vs H1 => tk σ H1 fun zs H2 => ∃ (a : Addr) (xs : List V) (c : Int), vs = [.ref a] ∧ zs = [.int c] ∧ 0 ≤ c ∧ c < 1000 ∧ SqT K H2 a xs ∧ R (IteT K a c) H2
theorem pi_enumS {X : Cx} {e e2 : Expr} {ta tk : TA} {p pos tpos kpos : Pos} {elts : List Expr} {kk : Nat} (hg : Gl X "enumerate") (hm : X.mg "enumerate" = none) (ha : PA X [e] ta) (hk : PK X [⟨some "start", e2, kpos⟩] tk)
    (he : backTo pos (starEach [e] X.env) = (false, eval e X.env) :: backTo pos (starEach [] X.env) := by rfl) (hpl : (backTo pos (starEach [e] X.env)).any (·.1) = false := by rfl)
    (hall : (backToKw pos (keywordEach [⟨some "start", e2, kpos⟩] X.env)).all (·.1.isSome) = true := by rfl) (hnone : (backToKw pos (keywordEach [⟨some "start", e2, kpos⟩] X.env)).any (·.1.isNone) = false := by rfl)
    (hks : (backToKw pos (keywordEach [⟨some "start", e2, kpos⟩] X.env)).filterMap (·.1) = [Str.ofString "start"] := by rfl) :
    PI X (.Tuple elts kk tpos) (.Call (.Name "enumerate" p) [e] [⟨some "start", e2, kpos⟩] pos) (iEnumS X.K ta tk) := by
  refine ⟨fun pins s σ H R I h => wpAny_Call_Name_kw (ld_blt I hg hm boot_enumerate ?_)⟩
  refine callWithT_kw (thn (ha.run pos pins s σ H _ I h) fun us s1 ⟨vs, H1, I1, r1, q1⟩ => thn (hk.run pos pins s1 σ H1 _ I1 q1) fun ws s2 ⟨zs, H2, I2, r2, q2⟩ => ?_) he hpl hall hnone
  rw [hks]
  obtain ⟨a, xs, c, ex, ez, c0, c1, hq, q⟩ := q2
  subst ex ez
  cases r1 with
  | cons r rr =>
    cases rr
    cases r
    cases r2 with
    | cons r2 rr2 =>
      cases rr2
      obtain ⟨tt, rfl⟩ := r2
      obtain ⟨its, rv, tp, hz⟩ := I2.tuple hq
      refine enum_begins_start (begins_tuple a its.toArray) tp (by omega) (by omega) fun h2 he hit hsz hk2 => wpAny_pyIter_enum he ?_
      have I3 : Inv X pins σ H2 { s2 with heap := h2 } := I2.kept (t' := s2.toks) hk2
      refine ⟨s2.heap.objs.size + 1, [s2.heap.objs.size + 1, s2.heap.objs.size], _, _, H2, rfl, I3, turn_enumT a (s2.heap.objs.size + 1) s2.heap.objs.size, ⟨⟨.none, ?_⟩, ⟨_, hit, rfl, rfl⟩, Nat.succ_ne_self _⟩, fun b hb => ?_, q⟩
      · rw [show c + ((0 : Nat) : Int) = c by omega]
        exact he
      · have hle : s2.heap.objs.size ≤ b := by
          rcases List.mem_cons.mp hb with z | z
          · rw [z]; exact Nat.le_add_right _ _
          · rw [List.mem_singleton.mp z]; exact Nat.le_refl _
        exact I2.fpOk hle (I2.hok.fresh hle)
end Lk
end
section
set_option maxRecDepth 100000
set_option maxHeartbeats 2000000
/-! The coder of a tree. -/
namespace Lk
open PySem PySem.Spec PyProof.Rows L2
def lensOf (t : List Nat) : List Nat := (List.range t.length).map fun i => (t.getD i 0 + (t.length + 1 - (i + 1))) % (t.length + 1)
theorem lensOf_len (t : List Nat) : (lensOf t).length = t.length := by
  unfold lensOf
  rw [List.length_map, List.length_range]
theorem lensOf_at {t : List Nat} {i : Nat} (h : i < t.length) : (lensOf t)[i]? = some ((t.getD i 0 + (t.length + 1 - (i + 1))) % (t.length + 1)) := by
  unfold lensOf
  rw [List.getElem?_map, List.getElem?_range h]
  rfl
theorem cdOf_cons (t : List Nat) : cdOf (0 :: t) = (0, 0 :: lensOf t) := by
  show (0, (List.range (t.length + 1)).map _) = _
  rw [List.range_succ_eq_map, List.map_cons, List.map_map]
  refine Prod.ext rfl ?_
  show ((0 :: t).getD 0 0 + ((0 :: t).length - 0)) % (0 :: t).length :: _ = 0 :: lensOf t
  rw [List.length_cons]
  have e : ((0 :: t).getD 0 0 + (t.length + 1 - 0)) % (t.length + 1) = 0 := by
    show (0 + (t.length + 1)) % (t.length + 1) = 0
    rw [Nat.zero_add, Nat.mod_self]
  rw [e]
  refine congrArg (List.cons 0) ?_
  unfold lensOf
  refine List.map_congr_left fun i _ => ?_
  rfl
/-- a row of goals that is a tree -/
def TOk (p : Nat) (t : List Nat) : Prop := t.length + 1 = p ∧ (∀ x ∈ t, x < p) ∧ Free (cdOf (0 :: t))
theorem TOk.isTr {p : Nat} {t : List Nat} (h : TOk p t) : IsTr p (tD t) := ⟨t, rfl, h.1, h.2.1, h.2.2⟩
theorem TOk.cons {p : Nat} {t : List Nat} (h : TOk p t) : ∀ x ∈ 0 :: t, x < (0 :: t).length := fun x hx => by
  rw [List.length_cons, h.1]
  rcases List.mem_cons.mp hx with e | m
  · have := h.1
    omega
  · exact h.2.1 x m
theorem cdOf_home (t : List Nat) : Home0 (cdOf (0 :: t)) := by
  refine ⟨rfl, ?_⟩
  rw [cdOf_cons]
  show 0 % _ = 0
  exact Nat.zero_mod _
theorem tree_cdOf {p : Nat} {t : List Nat} (h : TOk p t) : TreeOf (cdOf (0 :: t)) t := by
  refine ⟨0, 0, ⟨h.2.2, fun m hm => absurd hm (Nat.not_lt_zero _)⟩, ⟨cdOf_home t, fun k hk => absurd hk (Nat.not_lt_zero _)⟩, ?_⟩
  show t = (gos (cdOf (0 :: t))).drop 1
  rw [cdOf_gos h.cons]
  rfl
theorem cdOf_cdOk {p : Nat} {t : List Nat} (h : TOk p t) (p12 : p ≤ 12) : CdOk (cdOf (0 :: t)) := ⟨cdOf_ok (Nat.succ_pos _), by rw [cdOf_len, List.length_cons, h.1]; exact p12⟩
theorem gon_same {d : Cd} (h : COk d) : ∀ (k i : Nat), i < d.2.length → gon (cdOf (gos d)) k i = gon d k i
  | 0, _, _ => rfl
  | k + 1, i, hi => by
    have hg : ∀ x ∈ gos d, x < (gos d).length := fun x hx => by
      rw [gos_len]
      unfold gos at hx
      obtain ⟨j, _, rfl⟩ := List.mem_map.mp hx
      exact go_lt h j
    have e : go (cdOf (gos d)) i = go d i := by
      rw [cdOf_go hg (by rw [gos_len]; exact hi), List.getD_eq_getElem?_getD, gos_at hi]
      rfl
    show gon (cdOf (gos d)) k (go (cdOf (gos d)) i) = gon d k (go d i)
    rw [e]
    exact gon_same h k _ (go_lt h i)
/-- the tree of a coder is one -/
theorem treeOf_ok {c : Cd} (h : COk c) {t : List Nat} (a : TreeOf c t) : TOk c.2.length t := by
  have hp : 0 < c.2.length := Nat.lt_of_le_of_lt (Nat.zero_le _) h
  have l := treeOf_len a
  refine ⟨by omega, treeOf_lt h a, ?_⟩
  obtain ⟨n, j, a1, a2, rfl⟩ := a
  rw [it_add]
  have okd : COk (it j (it n c)) := it_ok j (it_ok n h)
  have frd : Free (it j (it n c)) := free_it j (it_ok n h) a1.1
  have h0 := a2.1
  generalize hd : it j (it n c) = d at *
  have dl : d.2.length = c.2.length := by rw [← hd, it_len, it_len]
  have e0 : go d 0 = 0 := by
    show (0 + len d 0) % d.2.length = 0
    rw [Nat.zero_add]
    exact h0.2
  have eg : 0 :: (gos d).drop 1 = gos d := by
    cases hg : gos d with
    | nil =>
      have z := gos_len d
      rw [hg] at z
      have z2 : 0 = d.2.length := z
      omega
    | cons x l =>
      have z := gos_at (c := d) (i := 0) (by omega)
      rw [hg, e0] at z
      have z2 : x = 0 := Option.some.inj z
      rw [z2]
      rfl
  rw [eg]
  intro i hi
  rw [cdOf_len, gos_len] at hi
  obtain ⟨k, hk⟩ := frd i hi
  refine ⟨k, ?_⟩
  rw [gon_same okd k i hi, hk]
  exact h0.1
def spCoderOf : Sp := fun vs H Q _ => ∃ (p : Nat) (a : Addr) (t : List Nat), vs = [.int (p : Int), .ref a] ∧ H a = some (.tup (t.map vN)) ∧ TOk p t ∧ p ≤ 12 ∧ ∀ v H', Same H H' → Cat H' v (cdOf (0 :: t)) → Q v H'
theorem ist_of {C1 : Addr} {Q : VK} {E : XK} {H : Hp} {v : V} {d : PyData} {p : Nat} (p1 : 1 ≤ p) (p12 : p ≤ 12) (h : Th H v d) (k : ∀ b H', (b = true ↔ IsTr p d) → Same H H' → Q (.bl b) H') : spIsTree C1 [.int (p : Int), v] H Q E := by
  refine ⟨_, v, .int (p : Int), d, rfl, .int _, h, fun z => ?_, fun p' e _ _ b H' hb s => ?_⟩
  · exfalso
    have y : (decide ((1 : Int) ≤ (p : Int)) && decide ((p : Int) ≤ 12)) = false := z
    rw [decide_eq_true (by omega), decide_eq_true (by omega)] at y
    cases y
  · have e2 : p' = p := by
      injection e with e
      omega
    subst e2
    exact k b H' hb s
def spLeast : Sp := fun vs H Q _ => ∃ (i g p : Nat), vs = [.int (i : Int), .int (g : Int), .int (p : Int)] ∧ i ≤ p ∧ g < p ∧ p ≤ 12 ∧ ∀ H', Same H H' → Q (.int (((g + (p - i)) % p : Nat) : Int)) H'
end Lk
end
section
set_option maxRecDepth 100000
set_option maxHeartbeats 2000000
namespace Lk
open PySem PySem.Spec PyProof.Rows L2
def spCoderAll2 (C1 C2 : Addr) : Sp := fun vs H Q E => ∃ u v e d, vs = [u, v] ∧ Th H u e ∧ Th H v d ∧ (inR e 1 12 = false → ∀ H', Same H H' → E (.ref C1) none H') ∧
  (∀ p : Nat, e = .int (p : Int) → 1 ≤ p → p ≤ 12 → (¬ IsTr p d → ∀ H', Same H H' → E (.ref C2) none H') ∧ (∀ t, d = tD t → TOk p t → ∀ v' H', Same H H' → Cat H' v' (cdOf (0 :: t)) → Q v' H'))
section
variable {P : Program} {w : World} {K : PySem.W.Frag} {mg : Str → Option Value} {base : Heap}
abbrev NnCo2 : List Str := ["p", "tree", "lengths", "place", "to"]
theorem scN_coderOf2 : FnScope NnCo2 ["p", "tree"] (defScope s_coder_of) := ⟨rfl, rfl, rfl, by decide +kernel, rfl, by decide +kernel, by decide +kernel⟩
theorem okN_coderOf2 {f C1 C2 : Addr} {fd : FuncData} (F : Fun K "coder_of" "coder_of" s_coder_of f fd) (ci : CalN P w K mg base 4 "is_tree" (spIsTree C1)) (T : ErrC K mg "NoTree" C2) (me : mg "enumerate" = none) : FnOk P w K mg base (L2N.CX P w) 5 f fd ["p", "tree"] (spCoderAll2 C1 C2) := by
  refine okN F scN_coderOf2 (fun vs H Q E h => ?_) (fun cdv A outer s H vs Q E hr h => ?_)
  · obtain ⟨u, v, e, d, rfl, _⟩ := h
    rfl
  · obtain ⟨u, v, e, d, rfl, he, hv, q1, q2⟩ := h
    have nd := scN_coderOf2.nd
    refine ⟨_, (pss_cons (by exact (ps_if (pt_not (pt_val (pe_cN ci (L2N.takes_of rfl rfl rfl rfl) hr (by decide) rfl (pa_cons (pv 0) (pa_cons (pv 1) pa_nil))))) (pss_one (by exact (L2N.ps_raise rfl (L2N.takes_of rfl rfl rfl rfl) (pmkN1 PySem.F.excBase_ValueError T.x T.g T.k (raises_own T.b T.t) rfl (pe_joined (.cons pe_str (.cons (pe_fmt (pv 0)) (.cons pe_str .nil)))))))) pss_nil))
      (pss_cons (by exact (ps_setLc (i := 2) (own := [("place", 3), ("to", 4)]) (g := (gTup K 2 (gCons (gName 3) (gCons (gName 4) gNil)))) (by rfl) nd rfl rfl (sw_true rfl rfl rfl (by decide +kernel)) (pi_enumS (by rfl) me (pa_cons (pv 1) pa_nil) (pk_cons pe_int pk_nil)) (blkOk_by (N := NnCo2) (sc := defScope s_coder_of) (by decide +kernel)) (fun _ _ _ _ _ => (pg_tup rfl (pgs_cons (pg_name (i := 3) nd rfl (Or.inl rfl)) (pgs_cons (pg_name (i := 4) nd rfl (Or.inl rfl)) pgs_nil)))) (fun _ _ _ _ _ => pts_nil) (fun _ _ _ _ _ => (pe_op op_mod (pe_op op_sub (pv 4) (pv 3)) (pv 0)))))
      (pss_one (by exact (ps_ret (pe_tupS (pa_cons pe_int (pa_cons (pe_tupS (pa_cons pe_int (StX.pa_star (pv 2) pa_nil))) pa_nil)))))))), ?_⟩
    refine ⟨_, rfl, _, rfl, ?_⟩
    dsimp only [tNil, List.append_nil]
    refine ⟨u, v, e, d, rfl, he, hv, fun hi => q1 hi, fun p ep p1 p12 b H1 hb s1 => ⟨b, rfl, ?_⟩⟩
    subst ep
    have eu : u = .int (p : Int) := by cases he; rfl
    subst eu
    obtain ⟨q3, q⟩ := q2 p rfl p1 p12
    cases b with
    | false =>
      refine iteT ?_
      have nt : ¬ IsTr p d := fun z => by cases hb.mpr z
      have q4 := q3 nt H1 s1
      have cs : p = 1 ∨ p = 2 ∨ p = 3 ∨ p = 4 ∨ p = 5 ∨ p = 6 ∨ p = 7 ∨ p = 8 ∨ p = 9 ∨ p = 10 ∨ p = 11 ∨ p = 12 := by omega
      rcases cs with rfl | rfl | rfl | rfl | rfl | rfl | rfl | rfl | rfl | rfl | rfl | rfl <;>
      exact ⟨_, rfl, (by decide +kernel), _, rfl, .inr ⟨_, rfl, (by decide +kernel), _, rfl, (by decide +kernel), _, rfl, (by decide +kernel), q4⟩⟩
    | true =>
    obtain ⟨t, rfl, ht1, ht2, ht3⟩ := hb.mp rfl
    have ht : TOk p t := ⟨ht1, ht2, ht3⟩
    obtain ⟨a, rfl, ha⟩ : ∃ a, v = .ref a ∧ H a = some (.tup (t.map vN)) := by
      cases hv with
      | tup e m =>
        have z := nat_ints m
        subst z
        exact ⟨_, rfl, e⟩
    refine iteF ?_
    have ha1 := s1 _ _ ha
    have htl := ht.1
    refine ⟨_, rfl, a, _, 1, rfl, rfl, by decide, by decide, SqT.of ha1, fun D nD => ?_⟩
    have lbl : (lensOf t).length ≤ 1000000 := by rw [lensOf_len]; omega
    refine lc_it walk_enumT (fun i H3 => Same H1 H3 ∧ H3 D = some (.lst (((lensOf t).take i).map vN))) ⟨same_new nD, upd_same⟩ (fun i H3 _ p => SqT.of (p.1 _ _ ha1)) ?_ ?_
    · rintro i x H3 H4 hi ⟨s3, e3⟩ ⟨T, x1, x2, rfl, nT, rfl, hx1, hx2⟩
      rw [List.length_map] at hi
      dsimp only at hx1 hx2
      have hx1' : x1 = .int (1 + (i : Int)) := (Option.some.inj hx1).symm
      rw [nat_at hi] at hx2
      cases hx2
      subst hx1'
      have sT : Same H1 (upd H3 T (.tup [.int (1 + (i : Int)), .int ((t.getD i 0 : Nat) : Int)])) := s3.trans (same_new nT)
      have e4 : upd H3 T (.tup [.int (1 + (i : Int)), .int ((t.getD i 0 : Nat) : Int)]) D = some (.lst (((lensOf t).take i).map vN)) := by rw [upd_ne (ne_of_none e3 nT)]; exact e3
      obtain ⟨acc, a1, a2, a3⟩ := snoc_map (f := vN) e4 (lensOf_at hi) lbl
      refine ⟨T, [.int (1 + (i : Int)), .int ((t.getD i 0 : Nat) : Int)], rfl, SqT.of upd_same, rfl, _, _, rfl, _, _, rfl, rfl, rfl, _, rfl, _, rfl, _, _, rfl, rfl, _, rfl, _, _, rfl, rfl, (by show (0 : Int) < (p : Int); omega), ?_⟩
      refine ⟨acc, a1, a2, same_push sT nD, ?_⟩
      rw [show vN ((t.getD i 0 + (t.length + 1 - (i + 1))) % (t.length + 1)) = V.int ((((t.getD i 0 : Nat) : Int) - (1 + (i : Int))) % (p : Int)) from ?_] at a3
      · exact a3
      · refine congrArg V.int ?_
        rw [htl, Int.natCast_emod, Int.natCast_add, show (((p - (i + 1) : Nat)) : Int) = (p : Int) - (1 + (i : Int)) by omega, show ((t.getD i 0 : Nat) : Int) + ((p : Int) - (1 + (i : Int))) = (((t.getD i 0 : Nat) : Int) - (1 + (i : Int))) + (p : Int) by omega, Int.add_emod_right]
    · rintro H3 ⟨s3, e3⟩
      rw [show (t.map vN).length = (lensOf t).length by rw [List.length_map, lensOf_len], List.take_length] at e3
      refine ⟨_, rfl, D, _, rfl, .inr (SqL.of e3), (by rw [List.length_cons, List.append_nil, List.length_map, lensOf_len, sizeLine_eq]; omega), fun T1 H4 n4 s4 e4 => ⟨(by show 2 ≤ sizeLine; decide), fun U H5 n5 s5 e5 => ?_⟩⟩
      refine q t rfl ht (.ref U) H5 (Same.trans s1 (Same.trans s3 (Same.trans s4 s5))) ?_
      rw [cdOf_cons]
      refine ⟨U, T1, rfl, e5, ?_⟩
      rw [List.append_nil] at e4
      exact s5 _ _ e4
end
end Lk
end
section
set_option maxRecDepth 100000
set_option maxHeartbeats 2000000
/-! All trees. -/
namespace Lk
open PySem PySem.Spec PyProof.Rows L2
def nxt (p : Nat) (R : List (List Nat)) : List (List Nat) := R.flatMap fun r => (List.range p).map fun x => r ++ [x]
def allR (p : Nat) : Nat → List (List Nat)
  | 0 => [[]]
  | m + 1 => nxt p (allR p m)
theorem nxt_len (p : Nat) : ∀ R : List (List Nat), (nxt p R).length = R.length * p
  | [] => by simp [nxt]
  | r :: R => by
    have ih := nxt_len p R
    unfold nxt at *
    rw [List.flatMap_cons, List.length_append, ih, List.length_map, List.length_range, List.length_cons, Nat.add_mul]
    omega
theorem nxt_app (p : Nat) (R S : List (List Nat)) : nxt p (R ++ S) = nxt p R ++ nxt p S := by
  unfold nxt
  rw [List.flatMap_append]
theorem nxt_one (p : Nat) (r : List Nat) : nxt p [r] = (List.range p).map fun x => r ++ [x] := by
  unfold nxt
  simp
theorem allR_len (p : Nat) : ∀ m, (allR p m).length = p ^ m
  | 0 => rfl
  | m + 1 => by
    show (nxt p (allR p m)).length = _
    rw [nxt_len, allR_len p m, Nat.pow_succ]
theorem allR_mem {p : Nat} : ∀ {m : Nat} {r : List Nat}, r ∈ allR p m → r.length = m ∧ ∀ x ∈ r, x < p
  | 0, r, h => by
    rw [List.mem_singleton.mp h]
    exact ⟨rfl, fun x h => nomatch h⟩
  | m + 1, r, h => by
    obtain ⟨q, hq, h2⟩ := List.mem_flatMap.mp h
    obtain ⟨x, hx, rfl⟩ := List.mem_map.mp h2
    obtain ⟨l, b⟩ := allR_mem hq
    refine ⟨by rw [List.length_append, l]; rfl, fun y hy => ?_⟩
    rcases List.mem_append.mp hy with h | h
    · exact b y h
    · rw [List.mem_singleton.mp h]
      exact List.mem_range.mp hx
theorem pow_le {p m : Nat} (h : p ≤ 6) (hm : m ≤ 5) : p ^ m ≤ 7776 := Nat.le_trans (Nat.pow_le_pow_left h m) (Nat.le_trans (Nat.pow_le_pow_right (by decide) hm) (by decide))
def wlk (g : List Nat) : Nat → Nat → Nat
  | 0, i => i
  | k + 1, i => wlk g k (g.getD i 0)
def chk (r : List Nat) : Bool := (List.range (r.length + 1)).all fun i => wlk (0 :: r) (r.length + 1) i == 0
theorem gon_wlk {g : List Nat} (hg : ∀ x ∈ g, x < g.length) : ∀ (k i : Nat), i < g.length → gon (cdOf g) k i = wlk g k i
  | 0, _, _ => rfl
  | k + 1, i, hi => by
    show gon (cdOf g) k (go (cdOf g) i) = wlk g k (g.getD i 0)
    rw [cdOf_go hg hi]
    refine gon_wlk hg k _ (hg _ ?_)
    rw [List.getD_eq_getElem?_getD, List.getElem?_eq_getElem hi]
    exact List.getElem_mem hi
theorem chk_free {r : List Nat} (h : ∀ x ∈ r, x < r.length + 1) : chk r = true ↔ Free (cdOf (0 :: r)) := by
  have hg : ∀ x ∈ 0 :: r, x < (0 :: r).length := fun x hx => by
    rw [List.length_cons]
    rcases List.mem_cons.mp hx with e | m
    · omega
    · exact h x m
  have h0 : go (cdOf (0 :: r)) 0 = 0 := cdOf_go hg (Nat.succ_pos _)
  have z := come_all (c := cdOf (0 :: r)) (cdOf_ok (Nat.succ_pos _)) rfl h0
  rw [← z, cdOf_len, List.length_cons]
  unfold chk
  rw [List.all_eq_true]
  constructor
  · intro a i hi
    have b := a i (List.mem_range.mpr hi)
    rw [gon_wlk hg _ _ hi]
    simpa using b
  · intro a i hi
    have b := a i (List.mem_range.mp hi)
    rw [gon_wlk hg _ _ (List.mem_range.mp hi)] at b
    simpa using b
def treesL (p : Nat) : List (List Nat) := (allR p (p - 1)).filter chk
theorem trees_tok {p : Nat} (h1 : 1 ≤ p) {r : List Nat} (h : r ∈ treesL p) : TOk p r := by
  obtain ⟨h2, h3⟩ := List.mem_filter.mp h
  obtain ⟨l, b⟩ := allR_mem h2
  have e : r.length + 1 = p := by omega
  exact ⟨e, b, (chk_free (by rw [e]; exact b)).mp h3⟩
theorem trees_len (p : Nat) : (treesL p).length ≤ p ^ (p - 1) := by
  unfold treesL
  rw [← allR_len p (p - 1)]
  exact List.length_filter_le _ _
theorem trees_count : ∀ p, 1 ≤ p → p ≤ 6 → (treesL p).length = p ^ (p - 2)
  | 1, _, _ => by decide +kernel
  | 2, _, _ => by decide +kernel
  | 3, _, _ => by decide +kernel
  | 4, _, _ => by decide +kernel
  | 5, _, _ => by decide +kernel
  | 6, _, _ => by decide +kernel
  | 0, h, _ => absurd h (by decide)
  | p + 7, _, h => absurd h (by omega)
/-- the second loop of a comprehension -/
theorem in_it {J1 : It} {n1 : Nat} {G1 : Hp → Prop} {Y1 : Nat → Hp → V → Hp → Prop} (w : Walk J1 n1 G1 Y1) {g1 : TG} {tt1 : TT} {te : TE} {vs1 : List Nat} {σ2 : L2.St} {H4 : Hp} {D : Addr} {Nx : Hp → Prop} (Pv : Nat → Hp → Prop) (h0 : Pv 0 H4) (hG : ∀ j H, j ≤ n1 → Pv j H → G1 H)
    (hs : ∀ j x H H', j < n1 → Pv j H → Y1 j H x H' → g1 x (wipe σ2 vs1) H' fun σ3 H5 => wipe σ3 vs1 = wipe σ2 vs1 ∧ tt1 σ3 H5 fun b H6 =>
      if b = true then te σ3 H6 fun y H7 => ∃ acc, H7 D = some (.lst acc) ∧ acc.length < sizeLine ∧ Pv (j + 1) (upd H7 D (.lst (acc ++ [y]))) else Pv (j + 1) H6) (hd : ∀ H, Pv n1 H → Nx H) :
    ∃ W1 : Nat → Nat → Hp → Prop, (∃ m, W1 0 m H4) ∧ ∀ j k H, W1 j k H →
      (J1.stop j H ∧ Nx H) ∨ (J1.go j H ∧ ∃ Nx1 : Hp → Prop, (∀ H', Nx1 H' → ∃ k', k' < k ∧ W1 (j + 1) k' H') ∧ ∀ x H', J1.yld j H x H' → g1 x (wipe σ2 vs1) H' fun σ3 H5 => wipe σ3 vs1 = wipe σ2 vs1 ∧ tt1 σ3 H5 fun b H6 =>
        if b = true then te σ3 H6 fun y H7 => ∃ acc, H7 D = some (.lst acc) ∧ acc.length < sizeLine ∧ Nx1 (upd H7 D (.lst (acc ++ [y]))) else Nx1 H6) := by
  refine ⟨fun i m H => m = n1 - i ∧ i ≤ n1 ∧ Pv i H, ⟨n1, by simp, Nat.zero_le _, h0⟩, ?_⟩
  rintro i m H ⟨rfl, hi, p⟩
  have q := hG i H hi p
  by_cases hlt : i < n1
  · exact .inr ⟨w.goes i H hlt q, Pv (i + 1), fun H' p' => ⟨n1 - (i + 1), by omega, rfl, hlt, p'⟩, fun x H' y => hs i x H H' hlt p (w.yields i H x H' hlt q y)⟩
  · have e : i = n1 := by omega
    subst e
    exact .inl ⟨w.stops H q, hd H p⟩
/-- the two loops of a comprehension: the first -/
theorem out_it {J : It} {n : Nat} {G : Hp → Prop} {Y : Nat → Hp → V → Hp → Prop} (w : Walk J n G Y) {H1 : Hp} {D : Addr} {Qd : Hp → Prop} {body : (Hp → Prop) → V → Hp → Prop} (Pv : Nat → Hp → Prop) (h0 : Pv 0 (upd H1 D (.lst []))) (hG : ∀ i H, i ≤ n → Pv i H → G H)
    (hs : ∀ i x H H', i < n → Pv i H → Y i H x H' → body (Pv (i + 1)) x H') (hd : ∀ H, Pv n H → Qd H) :
    ∃ W : Nat → Nat → Hp → Prop, (∃ m, W 0 m (upd H1 D (.lst []))) ∧ ∀ i m H, W i m H →
      (J.stop i H ∧ Qd H) ∨ (J.go i H ∧ ∃ Nx : Hp → Prop, (∀ H', Nx H' → ∃ m', m' < m ∧ W (i + 1) m' H') ∧ ∀ x H', J.yld i H x H' → body Nx x H') := by
  refine ⟨fun i m H => m = n - i ∧ i ≤ n ∧ Pv i H, ⟨n, by simp, Nat.zero_le _, h0⟩, ?_⟩
  rintro i m H ⟨rfl, hi, p⟩
  have q := hG i H hi p
  by_cases hlt : i < n
  · exact .inr ⟨w.goes i H hlt q, Pv (i + 1), fun H' p' => ⟨n - (i + 1), by omega, rfl, hlt, p'⟩, fun x H' y => hs i x H H' hlt p (w.yields i H x H' hlt q y)⟩
  · have e : i = n := by omega
    subst e
    exact .inl ⟨w.stops H q, hd H p⟩
theorem pa_starK {X : Cx} {K : PySem.W.Frag} {e : Expr} {es : List Expr} {te : TE} {t : TA} {p : Pos} (hK : X.K = K) (he : PE X e te) (hr : PA X es t) (hs : starEach (.Starred e p :: es) X.env = (true, eval e X.env) :: starEach es X.env := by rfl) : PA X (.Starred e p :: es) (StX.tStar K te t) := by
  subst hK
  exact StX.pa_star he hr hs
def TrsAt (H : Hp) (D : Addr) (R : List (List Nat)) : Prop := ∃ ws, H D = some (.lst ws) ∧ ThAll H ws (R.map tD)
theorem TrsAt.same {H H2 : Hp} {D : Addr} {R : List (List Nat)} (s : Same H H2) (h : TrsAt H D R) : TrsAt H2 D R := by
  obtain ⟨ws, e, t⟩ := h
  exact ⟨ws, s _ _ e, ThAll.same s _ t⟩
theorem noL_tD (t : List Nat) : noL (tD t) = true := by
  show noL.noLs (t.map dN) = true
  induction t with
  | nil => rfl
  | cons x t ih => exact ih
/-- one more -/
theorem TrsAt.push {H H2 : Hp} {D q : Addr} {R : List (List Nat)} {t : List Nat} {ws : List V} (e : H2 D = some (.lst ws)) (m : ThAll H2 ws (R.map tD)) (eq : H2 q = some (.tup (t.map vN))) : TrsAt (upd H2 D (.lst (ws ++ [V.ref q]))) D (R ++ [t]) := by
  refine ⟨ws ++ [V.ref q], upd_same, ?_⟩
  rw [List.map_append]
  exact ThAll.append (ThAll.but e sameBut_upd _ (noLs_map noL_tD _) m) (.cons (Th.but e sameBut_upd _ (noL_tD t) (th_tD eq)) .nil)
def spAllT (C : Addr) : Sp := fun vs H Q E => ∃ u e, vs = [u] ∧ Th H u e ∧ (inR e 1 6 = false → ∀ H', Same H H' → E (.ref C) none H') ∧
  (∀ p : Nat, e = .int (p : Int) → 1 ≤ p → p ≤ 6 → ∀ D H', H D = none → Same H H' → TrsAt H' D (treesL p) → Q (.ref D) H')
def spLAll : Sp := fun vs H Q _ => ∃ p : Nat, vs = [.int (p : Int)] ∧ 1 ≤ p ∧ p ≤ 6 ∧ ∀ D H', H D = none → Same H H' → TrsAt H' D (treesL p) → Q (.ref D) H'
end Lk
end
section
set_option maxRecDepth 100000
set_option maxHeartbeats 4000000
namespace Lk
open PySem PySem.Spec PyProof.Rows L2
section
variable {P : Program} {w : World} {K : PySem.W.Frag} {mg : Str → Option Value} {base : Heap}
abbrev NnAT : List Str := ["p", "rows", "_", "row", "place"]
theorem scN_allTrees : FnScope NnAT ["p"] (defScope s_all_trees) := ⟨rfl, rfl, rfl, by decide +kernel, rfl, by decide +kernel, by decide +kernel⟩
theorem okN_allTrees {f C : Addr} {fd : FuncData} (F : Fun K "all_trees" "all_trees" s_all_trees f fd) (cc : CalN P w K mg base 3 "refuse_no_count" (spCount C)) (ca : C8.Cal P w K mg base 1 "all_come_first" spCome []) (mr : mg "range" = none) {tp : Tok} (mp : mg "MOST_PLACES_OF_ALL" = some (.int 6 tp)) : FnOk P w K mg base (L2N.CX P w) 4 f fd ["p"] (spAllT C) := by
  refine okN F scN_allTrees (fun vs H Q E h => ?_) (fun cdv A outer s H vs Q E hr h => ?_)
  · obtain ⟨u, e, rfl, _⟩ := h
    rfl
  · obtain ⟨u, e, rfl, he, q1, q⟩ := h
    have nd := scN_allTrees.nd
    refine ⟨_, (pss_cons (by exact (ps_expr (pe_cN cc (L2N.takes_of rfl rfl rfl rfl) hr (by decide) rfl (pa_cons (pv 0) (pa_cons pe_int (pa_cons (pe_glob (v := .int 6) rfl mp ⟨_, rfl⟩) pa_nil))))))
      (pss_cons (by exact (ps_set (i := 1) nd rfl (Or.inl rfl) (pe_lstS (pa_cons (pe_tupS pa_nil) pa_nil))))
      (pss_cons (by exact (ps_for (passes_of rfl) rfl (pi_range1 (by rfl) mr (pa_cons (pe_op op_sub (pv 0) pe_int) pa_nil)) (pg_name (i := 2) nd rfl (Or.inl rfl)) (pss_one (by exact (ps_setLc2 (i := 1) (own := [("row", 3), ("place", 4)]) (vs1 := [4]) (g := (gName 3)) (g1 := (gName 4)) (tt := tYes) (tt1 := tYes) (by rfl) nd rfl rfl (sw_true rfl rfl rfl (by decide +kernel)) (pi_list (pv 1)) (blkOk_by (N := NnAT) (sc := defScope s_all_trees) (by decide +kernel)) (by decide) (fun _ _ _ _ _ => (pg_name (i := 3) nd rfl (Or.inl rfl))) (fun _ _ _ _ _ => pts_nil) (fun _ _ _ _ _ => (pi_range1 (by rfl) mr (pa_cons (pv 0) pa_nil))) (fun _ _ _ _ _ => (pg_name (i := 4) nd rfl (Or.inl rfl))) (fun _ _ _ _ _ => pts_nil) (fun _ _ _ _ _ => (pe_tupS (pa_starK (K := K) rfl (pv 3) (pa_cons (pv 4) pa_nil)))))))))
      (pss_one (by exact (ps_ret (pe_lc (own := [("row", 3)]) (g := (gName 3)) rfl nd (pi_list (pv 1)) (blkOk_by (N := NnAT) (sc := defScope s_all_trees) (by decide +kernel)) (fun _ _ _ _ _ => (pg_name (i := 3) nd rfl (Or.inl rfl))) (fun _ _ _ _ _ => pts_one (pt_val (C8.pe_c ca hr (by decide) rfl (pa_cons (pv 3) pa_nil)))) (fun _ _ _ _ _ => (pv 3))))))))), ?_⟩
    refine ⟨_, rfl, u, e, 1, 6, rfl, .inr (.inr (.inr (.inl ⟨rfl, rfl⟩))), he, fun hi => ?_, fun hi => q1 hi H (Same.refl _)⟩
    obtain ⟨p, rfl, p1, p6⟩ : ∃ p : Nat, e = .int (p : Int) ∧ 1 ≤ p ∧ p ≤ 6 := by
      cases e with
      | int i =>
        have z : (decide ((1 : Int) ≤ i) && decide (i ≤ 6)) = true := hi
        rw [Bool.and_eq_true, decide_eq_true_eq, decide_eq_true_eq] at z
        exact ⟨i.toNat, by rw [Int.toNat_of_nonneg (by omega)], by omega, by omega⟩
      | _ => cases hi
    have qq := q p rfl p1 p6
    clear q q1
    have eu : u = .int (p : Int) := by cases he; rfl
    subst eu
    refine ⟨(by show 0 ≤ sizeLine; exact Nat.zero_le _), fun T0 H1 n1 s1 e1 => ?_⟩
    refine ⟨(by show 1 ≤ sizeLine; decide), fun R0 H2 n2 s2 e2 => ?_⟩
    have t0 : TrsAt H2 R0 (allR p 0) := ⟨[.ref T0], e2, .cons (th_tD (t := []) (s2 _ _ e1)) .nil⟩
    refine ⟨_, rfl, _, _, rfl, rfl, ((p - 1 : Nat) : Int), congrArg (fun z => [V.int z]) (show (p : Int) - 1 = ((p - 1 : Nat) : Int) by omega), by omega, by omega, ?_⟩
    rw [Int.toNat_natCast]
    refine for_range (lo := 0) (n := p - 1) (fun m σ H3 => ∃ R y2, σ = [some (.int (p : Int)), some (.ref R), y2, none, none] ∧ Same H H3 ∧ TrsAt H3 R (allR p m)) ⟨R0, none, rfl, Same.trans s1 s2, t0⟩ ?_ ?_
    · rintro m σ H3 hm ⟨R, y2, rfl, s3, ws, eR, tR⟩
      have lR : ws.length = p ^ m := by rw [tR.length, List.length_map, allR_len]
      have lP : p ^ (m + 1) ≤ 7776 := pow_le p6 (by omega)
      refine ⟨_, rfl, R, rfl, ⟨_, SqL.of eR⟩, fun D nD => ?_⟩
      have nDH : H D = none := s3.free nD
      have rowAt : ∀ (i : Nat) (x : V) (G : Hp), ws[i]? = some x → Same H3 G → ∃ (r : List Nat) (a : Addr), (allR p m)[i]? = some r ∧ x = .ref a ∧ G a = some (.tup (r.map vN)) := fun i x G hx sg => by
        obtain ⟨d, hd, tx⟩ := tR.get hx
        rw [List.getElem?_map] at hd
        cases er : (allR p m)[i]? with
        | none => rw [er] at hd; cases hd
        | some r =>
          rw [er] at hd
          have ed := Option.some.inj hd
          subst ed
          have tx2 := Th.same sg _ tx
          unfold tD at tx2
          cases tx2 with
          | tup e mm =>
            have z := nat_ints mm
            subst z
            exact ⟨r, _, rfl, rfl, e⟩
      refine out_it walk_list (fun i H4 => Same H3 H4 ∧ TrsAt H4 D (nxt p ((allR p m).take i))) ⟨same_new nD, [], upd_same, .nil⟩ (fun i H4 _ p => SqL.of (p.1 _ _ eR)) ?_ ?_
      · rintro i x H4 H5 hi ⟨s4, t4⟩ ⟨rfl, hx⟩
        obtain ⟨r, a, hr1, rfl, ea⟩ := rowAt i x H5 hx s4
        refine ⟨rfl, ?_⟩
        refine ⟨_, rfl, (p : Int), rfl, by omega, by omega, ?_⟩
        rw [Int.toNat_natCast]
        have hi2 : i < p ^ m := by omega
        have hlen : ((allR p m).take i).length = i := by rw [List.length_take, allR_len]; omega
        have hip : (i + 1) * p ≤ p ^ (m + 1) := by
          rw [Nat.pow_succ]
          exact Nat.mul_le_mul_right _ (by omega)
        refine in_it walk_range (fun j H6 => Same H3 H6 ∧ TrsAt H6 D (nxt p ((allR p m).take i) ++ ((List.range p).take j).map fun x => r ++ [x])) ⟨s4, by simpa using t4⟩ (fun _ _ _ _ => True.intro) ?_ ?_
        · rintro j y H6 H7 hj ⟨s6, ws6, e6, t6⟩ ⟨rfl, rfl⟩
          have ea6 : H7 a = some (.tup (r.map vN)) := by
            obtain ⟨r', a', hr', e', ea'⟩ := rowAt i (.ref a) H7 hx s6
            rw [hr1] at hr'
            cases hr'
            cases e'
            exact ea'
          have lw6 : ws6.length = i * p + j := by
            rw [t6.length, List.length_map, List.length_append, nxt_len, hlen, List.length_map, List.length_take, List.length_range]
            omega
          refine ⟨rfl, _, rfl, a, _, rfl, .inl (SqT.of ea6), _, rfl, ?_, fun T H8 nT w8 eT => ?_⟩
          · rw [List.length_append, List.length_map]
            have := (allR_mem (List.mem_of_getElem? hr1)).1
            show _ + 1 ≤ sizeLine
            rw [sizeLine_eq]
            omega
          have e8 := w8 _ _ e6
          refine ⟨ws6, e8, ?_, ?_, ?_⟩
          · rw [lw6, sizeLine_eq]
            have : (i + 1) * p = i * p + p := by rw [Nat.add_mul, Nat.one_mul]
            omega
          · exact fun b o e => by
              rw [upd_ne (ne_of_none e nD)]
              exact w8 _ _ (s6 _ _ e)
          · rw [List.take_add_one, List.getElem?_range hj, List.map_append, ← List.append_assoc]
            refine TrsAt.push (H := H8) e8 (ThAll.same w8 _ t6) ?_
            rw [eT, List.map_append]
            refine congrArg (fun z => some (HO.tup (r.map vN ++ [V.int z]))) ?_
            omega
        · rintro H6 ⟨s6, t6⟩
          refine ⟨s6, ?_⟩
          rw [show (List.range p).take p = List.range p from List.take_of_length_le (by rw [List.length_range]; exact Nat.le_refl _)] at t6
          rw [List.take_add_one, hr1, nxt_app]
          show TrsAt H6 D (_ ++ nxt p [r])
          rw [nxt_one]
          exact t6
      · rintro H4 ⟨s4, t4⟩
        rw [lR, ← allR_len p m, List.take_length] at t4
        exact ⟨D, _, rfl, s3.trans s4, t4⟩
    · rintro σ H3 ⟨R, y2, rfl, s3, ws, eR, tR⟩
      have lR : ws.length = p ^ (p - 1) := by rw [tR.length, List.length_map, allR_len]
      have lP : p ^ (p - 1) ≤ 7776 := pow_le p6 (by omega)
      refine ⟨_, rfl, R, rfl, ⟨_, SqL.of eR⟩, fun D nD => ?_⟩
      have nDH : H D = none := s3.free nD
      refine lc_it walk_list (fun i H4 => Same H3 H4 ∧ TrsAt H4 D (((allR p (p - 1)).take i).filter chk)) ⟨same_new nD, [], upd_same, .nil⟩ (fun i H4 _ p => SqL.of (p.1 _ _ eR)) ?_ ?_
      · rintro i x H4 H5 hi ⟨s4, ws4, e4, t4⟩ ⟨rfl, hx⟩
        obtain ⟨d, hd, tx⟩ := tR.get hx
        rw [List.getElem?_map] at hd
        cases er : (allR p (p - 1))[i]? with
        | none => rw [er] at hd; cases hd
        | some r =>
          rw [er] at hd
          have ed := Option.some.inj hd
          subst ed
          have tx2 := Th.same s4 _ tx
          unfold tD at tx2
          cases tx2 with
          | tup ea mm =>
            have z := nat_ints mm
            subst z
            rename_i a
            obtain ⟨rl, rb⟩ := allR_mem (List.mem_of_getElem? er)
            have rb2 : ∀ x ∈ r, x < r.length + 1 := fun x hx => by have := rb x hx; omega
            refine ⟨rfl, _, rfl, a, r, rfl, ea, by omega, rb2, fun b H6 hb s6 => ⟨b, rfl, ?_⟩⟩
            have eb : b = chk r := by
              have z := hb.trans (chk_free rb2).symm
              cases b <;> cases e : chk r <;> simp_all
            rw [List.take_add_one, er, List.filter_append]
            have lw4 : ws4.length ≤ i := by
              rw [t4.length, List.length_map]
              exact Nat.le_trans (List.length_filter_le _ _) (by rw [List.length_take]; omega)
            cases b with
            | true =>
              refine iteT ?_
              have e6 := s6 _ _ e4
              refine ⟨_, rfl, ws4, e6, by rw [sizeLine_eq]; omega, fun b o e => by rw [upd_ne (ne_of_none e nD)]; exact s6 _ _ (s4 _ _ e), ?_⟩
              show TrsAt _ D (_ ++ ([r].filter chk))
              rw [List.filter_cons, ← eb, if_pos rfl, List.filter_nil]
              exact TrsAt.push (H := H6) e6 (ThAll.same s6 _ t4) (s6 _ _ ea)
            | false =>
              refine iteF ?_
              refine ⟨s4.trans s6, ?_⟩
              show TrsAt _ D (_ ++ ([r].filter chk))
              rw [List.filter_cons, ← eb, if_neg Bool.false_ne_true, List.filter_nil, List.append_nil]
              exact TrsAt.same s6 ⟨ws4, e4, t4⟩
      · rintro H4 ⟨s4, t4⟩
        rw [lR, ← allR_len p (p - 1), List.take_length] at t4
        exact qq D H4 nDH (s3.trans s4) t4
end
end Lk
end
section
/-! Signs of coders: mathematics. -/
namespace Lk
/-- how many of the words of 1 to L letters from b on end just ahead of k -/
def cnt (p b k : Nat) : Nat → Nat
  | 0 => 0
  | L + 1 => cnt p b k L + (if (b + (L + 1)) % p = k then 1 else 0)
/-- a sum over the places -/
def sumR (p : Nat) (f : Nat → Int) : Int := ((List.range p).map f).sum
theorem sumR_zero (f : Nat → Int) : sumR 0 f = 0 := rfl
theorem sumR_succ (p : Nat) (f : Nat → Int) : sumR (p + 1) f = sumR p f + f p := by
  unfold sumR
  rw [List.range_succ, List.map_append, List.sum_append]
  simp
theorem sumR_congr {p : Nat} {f g : Nat → Int} (h : ∀ k, k < p → f k = g k) : sumR p f = sumR p g := by
  unfold sumR
  congr 1
  exact List.map_congr_left fun k hk => h k (List.mem_range.mp hk)
theorem sumR_add (p : Nat) (f g : Nat → Int) : sumR p (fun k => f k + g k) = sumR p f + sumR p g := by
  induction p with
  | zero => rfl
  | succ p ih => rw [sumR_succ, sumR_succ, sumR_succ, ih]; omega
theorem sumR_sub (p : Nat) (f g : Nat → Int) : sumR p (fun k => f k - g k) = sumR p f - sumR p g := by
  induction p with
  | zero => rfl
  | succ p ih => rw [sumR_succ, sumR_succ, sumR_succ, ih]; omega
theorem sumR_const (p : Nat) (x : Int) : sumR p (fun _ => x) = (p : Int) * x := by
  induction p with
  | zero => rw [sumR_zero]; simp
  | succ p ih => rw [sumR_succ, ih, Int.natCast_add, Int.add_mul]; simp
theorem sumR_swap (p q : Nat) (f : Nat → Nat → Int) : sumR p (fun i => sumR q (fun j => f i j)) = sumR q (fun j => sumR p (fun i => f i j)) := by
  induction p with
  | zero =>
    rw [sumR_zero]
    have : sumR q (fun j => sumR 0 fun i => f i j) = sumR q (fun _ => 0) := sumR_congr fun _ _ => rfl
    rw [this, sumR_const, Int.mul_zero]
  | succ p ih =>
    rw [sumR_succ, ih, ← sumR_add]
    exact sumR_congr fun j _ => (sumR_succ p _).symm
theorem sumR_one {p k : Nat} (h : k < p) (v : Int) : sumR p (fun i => if i = k then v else 0) = v := by
  induction p with
  | zero => omega
  | succ p ih =>
    rw [sumR_succ]
    by_cases e : k = p
    · subst e
      rw [if_pos rfl]
      have : sumR k (fun i => if i = k then v else 0) = sumR k (fun _ => 0) := sumR_congr fun i hi => if_neg (by omega)
      rw [this, sumR_const]
      omega
    · rw [ih (by omega), if_neg (by omega)]
      omega
theorem cnt_sum {p : Nat} (hp : 0 < p) (b : Nat) : ∀ L : Nat, sumR p (fun k => (cnt p b k L : Int)) = (L : Int)
  | 0 => by
    have : sumR p (fun k => (cnt p b k 0 : Int)) = sumR p (fun _ => 0) := sumR_congr fun _ _ => rfl
    rw [this, sumR_const]
    simp
  | L + 1 => by
    have h : (b + (L + 1)) % p < p := Nat.mod_lt _ hp
    have e : sumR p (fun k => (cnt p b k (L + 1) : Int)) = sumR p (fun k => (cnt p b k L : Int) + (if k = (b + (L + 1)) % p then 1 else 0)) := sumR_congr fun k _ => by
      show ((cnt p b k L + (if (b + (L + 1)) % p = k then 1 else 0) : Nat) : Int) = _
      by_cases g : (b + (L + 1)) % p = k
      · rw [if_pos g, if_pos g.symm]
        rfl
      · rw [if_neg g, if_neg (fun z => g z.symm)]
        rfl
    rw [e, sumR_add, cnt_sum hp b L, sumR_one h]
    rfl
/-- by how many letters the shortest such word is told -/
def wayOf (p : Nat) (b k : Int) : Int := (k - b - 1) % p + 1
theorem cnt_way {p : Nat} {b k : Nat} (hb : b < p) (hk : k < p) : ∀ L : Nat, ((L : Int) - wayOf p b k) / (p : Int) + 1 = (cnt p b k L : Int) := by
  have hp : (0 : Int) < p := by omega
  have w0 : 0 ≤ ((k : Int) - b - 1) % p := Int.emod_nonneg _ (by omega)
  have w1 : ((k : Int) - b - 1) % p < p := Int.emod_lt_of_pos _ hp
  have qd := Int.emod_add_mul_ediv ((k : Int) - b - 1) p
  intro L
  induction L with
  | zero =>
    show (((0 : Nat) : Int) - (((k : Int) - b - 1) % p + 1)) / (p : Int) + 1 = 0
    have : (((0 : Nat) : Int) - (((k : Int) - b - 1) % p + 1)) / (p : Int) = -1 := by
      refine (Int.ediv_emod_unique hp (r := (p : Int) - (((k : Int) - b - 1) % p + 1)) (q := -1)).mpr ⟨?_, by omega, by omega⟩ |>.1
      rw [Int.mul_neg, Int.mul_one]
      omega
    omega
  | succ L ih =>
    generalize hm : ((L : Int) - wayOf p b k) / (p : Int) = m at ih
    have rd := Int.emod_add_mul_ediv ((L : Int) - wayOf p b k) p
    have r0 : 0 ≤ ((L : Int) - wayOf p b k) % p := Int.emod_nonneg _ (by omega)
    have r1 : ((L : Int) - wayOf p b k) % p < p := Int.emod_lt_of_pos _ hp
    rw [hm] at rd
    generalize hr : ((L : Int) - wayOf p b k) % p = r at rd r0 r1
    have key : (((b + (L + 1)) % p : Nat) : Int) = ((k : Int) + r + 1) % p := by
      rw [Int.natCast_emod]
      have e : (((b + (L + 1) : Nat)) : Int) = ((k : Int) + r + 1) + (p : Int) * (m - ((k : Int) - b - 1) / p) := by
        rw [Int.mul_sub]
        unfold wayOf at rd
        generalize (p : Int) * m = M at *
        generalize (p : Int) * (((k : Int) - b - 1) / p) = N at *
        push_cast
        omega
      rw [e, Int.add_mul_emod_self_left]
    show (((L + 1 : Nat) : Int) - wayOf p b k) / (p : Int) + 1 = ((cnt p b k L + (if (b + (L + 1)) % p = k then 1 else 0) : Nat) : Int)
    rw [show ((cnt p b k L + (if (b + (L + 1)) % p = k then 1 else 0) : Nat) : Int) = (cnt p b k L : Int) + ((if (b + (L + 1)) % p = k then 1 else 0 : Nat) : Int) from Int.natCast_add _ _, ← ih]
    by_cases g : r + 1 = p
    · have e2 : (((L + 1 : Nat) : Int) - wayOf p b k) / (p : Int) = m + 1 := by
        refine (Int.ediv_emod_unique hp (r := 0) (q := m + 1)).mpr ⟨?_, by omega, by omega⟩ |>.1
        rw [Int.mul_add, Int.mul_one]
        omega
      have e3 : (b + (L + 1)) % p = k := by
        have z : ((k : Int) + r + 1) % p = k := by
          rw [show (k : Int) + r + 1 = (k : Int) + p by omega, Int.add_emod_right]
          exact Int.emod_eq_of_lt (by omega) (by omega)
        rw [z] at key
        omega
      rw [e2, if_pos e3]
      omega
    · have e2 : (((L + 1 : Nat) : Int) - wayOf p b k) / (p : Int) = m := by
        refine (Int.ediv_emod_unique hp (r := r + 1) (q := m)).mpr ⟨by omega, by omega, by omega⟩ |>.1
      have e3 : ¬ (b + (L + 1)) % p = k := by
        intro z
        rw [z] at key
        rcases Int.lt_or_le ((k : Int) + r + 1) p with l | l
        · rw [Int.emod_eq_of_lt (by omega) l] at key
          omega
        · have : ((k : Int) + r + 1) % p = (k : Int) + r + 1 - p := by
            rw [← Int.sub_emod_right]
            exact Int.emod_eq_of_lt (by omega) (by omega)
          omega
      rw [e2, if_neg e3]
      omega
/-- how many of the words of these lengths end just ahead of k -/
def endsI (ls : List Nat) (k : Nat) : Int := sumR ls.length fun b => (cnt ls.length b k (ls.getD b 0) : Int)
/-- what is counted at a place -/
def num (c : Cd) (k : Nat) : Int := (len c k : Int) - endsI c.2 k + (if k = c.1 then 1 else 0)
def sgn (c : Cd) : List Nat := (List.range c.2.length).map fun k => ((num c k - num c 0) % (c.2.length : Int)).toNat
theorem sgn_len (c : Cd) : (sgn c).length = c.2.length := by
  unfold sgn
  rw [List.length_map, List.length_range]
theorem sgn_at {c : Cd} {k : Nat} (h : k < c.2.length) : (sgn c)[k]? = some (((num c k - num c 0) % (c.2.length : Int)).toNat) := by
  unfold sgn
  rw [List.getElem?_map, List.getElem?_range h]
  rfl
theorem sgn_lt {c : Cd} : ∀ x ∈ sgn c, x < c.2.length := by
  intro x hx
  obtain ⟨k, hk, rfl⟩ := List.mem_map.mp hx
  have hk := List.mem_range.mp hk
  have h1 := Int.emod_nonneg (num c k - num c 0) (show (c.2.length : Int) ≠ 0 by omega)
  have h2 := Int.emod_lt_of_pos (num c k - num c 0) (show (0 : Int) < (c.2.length : Int) by omega)
  omega
theorem sgn_zero {c : Cd} (h : 0 < c.2.length) : (sgn c).getD 0 0 = 0 := by
  rw [List.getD_eq_getElem?_getD, sgn_at h, Int.sub_self]
  simp
theorem num_sum {c : Cd} (h : COk c) : sumR c.2.length (num c) = 1 := by
  have e : sumR c.2.length (num c) = sumR c.2.length (fun k => ((len c k : Int) - endsI c.2 k) + (if k = c.1 then 1 else 0)) := sumR_congr fun _ _ => rfl
  rw [e, sumR_add, sumR_sub, sumR_one h]
  have e2 : sumR c.2.length (fun k => endsI c.2 k) = sumR c.2.length fun b => (len c b : Int) := by
    unfold endsI
    rw [sumR_swap]
    exact sumR_congr fun b _ => cnt_sum (Nat.lt_of_le_of_lt (Nat.zero_le _) h) b _
  rw [e2]
  omega
theorem emod_sum {p : Nat} (hp : 0 < p) (n : Nat) (f : Nat → Int) : (sumR n fun k => (((f k) % (p : Int)).toNat : Int)) % (p : Int) = sumR n f % (p : Int) := by
  induction n with
  | zero => rfl
  | succ n ih =>
    have h1 := Int.emod_nonneg (f n) (show (p : Int) ≠ 0 by omega)
    rw [sumR_succ, sumR_succ, Int.add_emod, ih, Int.toNat_of_nonneg h1, Int.emod_emod, ← Int.add_emod]
theorem sum_nat (n : Nat) (f : Nat → Nat) : ((((List.range n).map f).sum : Nat) : Int) = sumR n fun k => (f k : Int) := by
  induction n with
  | zero => rfl
  | succ n ih => rw [sumR_succ, ← ih, List.range_succ, List.map_append, List.sum_append]; simp
theorem sgn_sum {c : Cd} (h : COk c) : (sgn c).sum % c.2.length = 1 % c.2.length := by
  have z : (((sgn c).sum % c.2.length : Nat) : Int) = ((1 % c.2.length : Nat) : Int) := by
    unfold sgn
    rw [Int.natCast_emod, sum_nat, emod_sum (Nat.lt_of_le_of_lt (Nat.zero_le _) h), sumR_sub, num_sum h, sumR_const, Int.sub_mul_emod_self_left, Int.natCast_emod]
    rfl
  exact Int.ofNat.inj z
/-- a table over the places -/
theorem emod_same {p : Nat} {a b : Int} (h : ∃ k : Int, a = b + p * k) : a % (p : Int) = b % (p : Int) := by
  obtain ⟨k, rfl⟩ := h
  exact Int.add_mul_emod_self_left _ _ _
end Lk
end
section
set_option maxRecDepth 100000
set_option maxHeartbeats 2000000
/-! A drawn tree is one. -/
namespace Lk
open PySem PySem.Spec PyProof.Rows L2
theorem all_in {p : Nat} {os : List Nat} (nd : os.Nodup) (l : os.length + 1 = p) (b : ∀ x ∈ os, 1 ≤ x ∧ x < p) {i : Nat} (h1 : 1 ≤ i) (h2 : i < p) : i ∈ os := by
  refine Classical.byContradiction fun no => ?_
  have nd2 : (0 :: i :: os).Nodup := by
    refine List.nodup_cons.mpr ⟨fun m => ?_, List.nodup_cons.mpr ⟨no, nd⟩⟩
    rcases List.mem_cons.mp m with e | m
    · omega
    · have := b 0 m
      omega
  have z := nodup_below (p := p) nd2 fun x hx => by
    rcases List.mem_cons.mp hx with e | m
    · omega
    · rcases List.mem_cons.mp m with e | m
      · omega
      · exact (b x m).2
  simp only [List.length_cons] at z
  omega
theorem getD_mem {l : List Nat} {i : Nat} (h : i < l.length) : l.getD i 0 ∈ l := by
  rw [List.getD_eq_getElem?_getD, List.getElem?_eq_getElem h]
  exact List.getElem_mem h
theorem drawn_free {p : Nat} {os gs : List Nat} (nd : os.Nodup) (l : os.length + 1 = p) (b : ∀ x ∈ os, 1 ≤ x ∧ x < p) (gl : gs.length = p) (gb : ∀ x ∈ gs, x < p)
    (H : ∀ j, j < os.length → ∃ v, v ≤ j ∧ gs.getD (os.getD j 0) 0 = (0 :: os).getD v 0) : TOk p (gs.drop 1) := by
  have l1 : (gs.drop 1).length + 1 = p := by rw [List.length_drop]; omega
  have b1 : ∀ x ∈ gs.drop 1, x < p := fun x hx => gb x (List.mem_of_mem_drop hx)
  refine ⟨l1, b1, ?_⟩
  have hg : ∀ x ∈ 0 :: gs.drop 1, x < (0 :: gs.drop 1).length := fun x hx => by
    rw [List.length_cons, l1]
    rcases List.mem_cons.mp hx with e | m
    · omega
    · exact b1 x m
  have goat : ∀ i, 1 ≤ i → i < p → go (cdOf (0 :: gs.drop 1)) i = gs.getD i 0 := fun i h1 h2 => by
    rw [cdOf_go hg (by rw [List.length_cons, l1]; exact h2)]
    obtain ⟨k, rfl⟩ : ∃ k, i = k + 1 := ⟨i - 1, by omega⟩
    rw [List.getD_cons_succ, List.getD_eq_getElem?_getD, List.getElem?_drop, Nat.add_comm 1 k, ← List.getD_eq_getElem?_getD]
  have r0 : Rch (cdOf (0 :: gs.drop 1)) 0 := ⟨0, rfl⟩
  have up : ∀ i, Rch (cdOf (0 :: gs.drop 1)) (go (cdOf (0 :: gs.drop 1)) i) → Rch (cdOf (0 :: gs.drop 1)) i := fun i ⟨m, e⟩ => ⟨m + 1, e⟩
  have key : ∀ n j, j < n → j < os.length → Rch (cdOf (0 :: gs.drop 1)) (os.getD j 0) := by
    intro n
    induction n with
    | zero => exact fun j h => absurd h (Nat.not_lt_zero _)
    | succ n ih =>
      intro j hj hjl
      have hb := b _ (getD_mem hjl)
      refine up _ ?_
      rw [goat _ hb.1 hb.2]
      obtain ⟨v, hv, e⟩ := H j hjl
      rw [e]
      cases v with
      | zero => exact r0
      | succ v =>
        rw [List.getD_cons_succ]
        exact ih v (by omega) (by omega)
  intro i hi
  rw [cdOf_len, List.length_cons, l1] at hi
  by_cases h0 : i = 0
  · rw [h0]
    exact r0
  · obtain ⟨j, hj, e⟩ := List.mem_iff_getElem.mp (all_in nd l b (by omega) hi)
    have z := key (j + 1) j (by omega) hj
    rw [List.getD_eq_getElem?_getD, List.getElem?_eq_getElem hj] at z
    rw [← e]
    exact z
def spDTree2 : Sp := fun vs H Q _ => ∃ (a : Addr) (p : Nat) (n : Int), vs = [.ref a, .int (p : Int)] ∧ Urn H a n ∧ n ≤ 99000 ∧ 1 ≤ p ∧ p ≤ 12 ∧
  ∀ (t : List Nat) (pt : Addr) H', TOk p t → Urn H' a (n + 30) → SameBut a H H' → H' pt = some (.tup (t.map vN)) → Q (.ref pt) H'
theorem erase_perm : ∀ (l : List Nat) (k : Nat) (h : k < l.length), (l[k] :: l.eraseIdx k).Perm l
  | [], _, h => absurd h (Nat.not_lt_zero _)
  | x :: l, 0, _ => List.Perm.refl _
  | x :: l, k + 1, h => by
    have hk : k < l.length := by simpa using h
    show (l[k] :: x :: l.eraseIdx k).Perm (x :: l)
    exact (List.Perm.swap x (l[k]) (l.eraseIdx k)).trans ((erase_perm l k hk).cons x)
theorem nodup_move {ls os : List Nat} {k : Nat} (h : k < ls.length) (nd : (ls ++ os).Nodup) : (ls.eraseIdx k ++ (os ++ [ls[k]])).Nodup := by
  have p1 : (ls.eraseIdx k ++ (os ++ [ls[k]])).Perm (ls ++ os) := by
    have a : (ls[k] :: ls.eraseIdx k).Perm ls := erase_perm ls k h
    have b : (ls.eraseIdx k ++ (os ++ [ls[k]])).Perm (ls[k] :: (ls.eraseIdx k ++ os)) := by
      rw [← List.append_assoc]
      exact List.perm_append_comm (l₂ := [ls[k]])
    exact b.trans (a.append_right os)
  exact p1.nodup_iff.mpr nd
end Lk
end
section
set_option maxRecDepth 100000
set_option maxHeartbeats 2000000
/-! sum of a tuple of ints. -/
namespace Lk
open PySem PySem.Spec PyProof.Rows L2
section
variable {prog : Program} {w : World} {A : Around} {E : Value → Shared → Prop} {s : Shared} {l : Addr}
theorem sum_tupRaw {its : List Value} {ns : List Int} {Q : Value → Shared → Prop} (hh : A.handled = none) (hl : s.heap.IsTuple l its.toArray) (hi : IntsAre its ns)
    (h : ∀ h' tk t', (∀ b o, s.heap.get? b = some o → h'.get? b = some o) → Q (.int ns.sum t') { s with heap := h', toks := tk }) : wpAny (model prog w) A (call (.builtin "sum") [.ref l]) Q E s := by
  obtain ⟨xs, e⟩ := hi.allInts.items
  have hn : numsOf (intItems xs).toList = ns := by rw [← e]; exact hi.numsOf
  rw [nums_intItems] at hn
  rw [e] at hl
  have hll : l < s.heap.objs.size := by obtain ⟨o, ho, _⟩ := id hl; exact Heap.lt_size ho
  have hne2 : l ≠ s.heap.objs.size := Nat.ne_of_lt hll
  refine PySem.call_sum_walkG (wpAny_pyIter_tuple hl ?_)
  refine ⟨s.heap.objs.size, _, _, _, _, _, numAt xs, rfl, Walks.tuple (A := A.in1) hh _ l hne2 (intItems xs), ⟨?_, ?_⟩, fun b hb => ?_, (fun _ _ => intItems_at), fun h' tk t' hk => ?_⟩
  · exact ⟨_, Heap.get?_push_size _ rfl, rfl, rfl⟩
  · exact hl.at fun o e => Heap.get?_push_of_some _ e
  · rw [Heap.size_push]
    rcases List.mem_cons.mp hb with z | z
    · rw [z]; exact Nat.lt_succ_self _
    · rw [List.mem_singleton.mp z]; exact Nat.lt_succ_of_lt hll
  · have g := h h' tk t' fun b o e => hk b o (fun hb => by
      have z := Heap.lt_size e
      rw [List.mem_singleton.mp hb] at z
      exact Nat.lt_irrefl _ z) (Heap.get?_push_of_some _ e)
    have e3 : preSum (numAt xs) (intItems xs).size = ns.sum := by
      rw [show (intItems xs).size = xs.size by simp [intItems], preSum_eq, List.take_of_length_le (by simp), hn]
    rw [e3]
    exact g
end
def rSumT (K : PySem.W.Frag) : List V → Hp → VK → Prop := fun vs H Q => ∃ (a : Addr) (ns : List Int), vs = [V.ref a] ∧ SqT K H a (ns.map V.int) ∧ Q (.int ns.sum) H
theorem cr_sumT {X : Cx} (hc : X.calm = true) : CallR X (.builtin "sum") (rSumT X.K) := by
  intro pins s σ H vs us Q I r h
  obtain ⟨a, ns, rfl, hs, q⟩ := h
  obtain ⟨its, rv, hl, _⟩ := I.tuple hs
  rw [Vals.ref1 r]
  exact sum_tupRaw (I.ok.hd hc) hl rv.ints fun h' tk t' hk => ⟨.int _, H, I.kept hk, ⟨_, rfl⟩, q⟩
theorem sum_vN : ∀ t : List Nat, ∃ ns : List Int, t.map vN = ns.map V.int ∧ ns.sum = ((t.sum : Nat) : Int)
  | [] => ⟨[], rfl, rfl⟩
  | n :: t => by
    obtain ⟨ns, e, h⟩ := sum_vN t
    refine ⟨(n : Int) :: ns, ?_, ?_⟩
    · rw [List.map_cons, List.map_cons, e]
    · rw [List.sum_cons, List.sum_cons, h, Int.natCast_add]
end Lk
end
section
set_option maxRecDepth 100000
set_option maxHeartbeats 2000000
/-! t[::-1] of a tuple. -/
namespace Lk
open PySem PySem.Spec PyProof.Rows L2 HT
section
variable {prog : Program} {w : World} {A : Around} {E : Value → Shared → Prop} {s : Shared}
theorem sliceApplied_rev {sl : Addr} {vk : Value} {n : Nat} {Q : Int × Int × Nat → Shared → Prop} (hs : s.heap.IsSliceOf sl .none .none vk) (pk : IsPart vk (some (-1)))
    (h : Q ((n : Int) - 1, -1, n) s) : wpAny (model prog w) A (Builtin.Slice.sliceApplied (.ref sl) (pure (n : Int))) Q E s := by
  obtain ⟨os, hos, hcs, hds⟩ := id hs
  unfold Builtin.Slice.sliceApplied Builtin.Slice.sliceFields
  refine wpAny_bind (wpAny_bind (wpAny_field hos hds (x := .none) rfl (wpAny_bind (wpAny_field hos hds (x := .none) rfl (wpAny_bind (wpAny_field hos hds (x := vk) rfl (wpAny_pure ?_)))))))
  refine wpAny_bind (slicePart_ pk ?_)
  show wpAny _ _ (if ((-1 : Int) == 0) = true then _ else _) _ _ s
  rw [if_neg (by decide)]
  refine wpAny_bind (slicePart_none (wpAny_bind (slicePart_none (wpAny_bind (wpAny_pure ?_)))))
  have e : Builtin.Slice.sliceAdjust none none (-1) (n : Int) = ((n : Int) - 1, -1) := by
    unfold Builtin.Slice.sliceAdjust
    simp
  have e2 : Builtin.Slice.slicePlaces ((n : Int) - 1) (-1) (-1) = n := by
    unfold Builtin.Slice.slicePlaces
    have h1 : ¬ ((-1 : Int) > 0) := by decide
    simp only [h1, if_false]
    by_cases g : (n : Int) - 1 > -1
    · rw [if_pos g, show (- -1 : Int) = 1 by decide, Int.ediv_one]
      omega
    · rw [if_neg g]
      show (0 : Nat) = n
      omega
  show wpAny _ _ (match Builtin.Slice.sliceAdjust none none (-1) (n : Int) with | (lo, hi) => pure (lo, (-1 : Int), Builtin.Slice.slicePlaces lo hi (-1))) _ _ s
  rw [e]
  show wpAny _ _ (pure ((n : Int) - 1, (-1 : Int), Builtin.Slice.slicePlaces ((n : Int) - 1) (-1) (-1))) _ _ s
  rw [e2]
  exact wpAny_pure h
theorem fm_congr {α β : Type} {f g : α → Option β} : ∀ l : List α, (∀ a, a ∈ l → f a = g a) → l.filterMap f = l.filterMap g
  | [], _ => rfl
  | a :: l, h => by
    rw [List.filterMap_cons, List.filterMap_cons, h a List.mem_cons_self, fm_congr l fun b hb => h b (List.mem_cons_of_mem _ hb)]
theorem fm_all {α : Type} : ∀ l : List α, (List.range l.length).filterMap (fun m => l[m]?) = l
  | [] => rfl
  | a :: l => by
    rw [List.length_cons, List.range_succ_eq_map, List.filterMap_cons, List.filterMap_map]
    show a :: (List.range l.length).filterMap (fun m => (a :: l)[m + 1]?) = a :: l
    congr 1
    exact fm_all l
theorem pick_rev (xs : Array Value) : ((List.range xs.size).filterMap fun (m : Nat) => xs[(((xs.size : Int) - 1) + (m : Int) * -1).toNat]?).toArray = xs.toList.reverse.toArray := by
  congr 1
  have e : ∀ m, m ∈ List.range xs.size → xs[(((xs.size : Int) - 1) + (m : Int) * -1).toNat]? = xs.toList.reverse[m]? := by
    intro m hm
    have hm := List.mem_range.mp hm
    rw [List.getElem?_reverse (by rw [Array.length_toList]; exact hm), Array.length_toList, ← Array.getElem?_toList]
    congr 1
    omega
  rw [fm_congr _ e]
  have z := fm_all xs.toList.reverse
  rw [List.length_reverse, Array.length_toList] at z
  exact z
theorem getItem_tuple_rev {t sl : Addr} {items : Array Value} {vk : Value} {Q : Value → Shared → Prop} (ht : IsTup s.heap t items) (hs : s.heap.IsSliceOf sl .none .none vk) (pk : IsPart vk (some (-1)))
    (h : Q (.ref s.heap.objs.size) { s with heap := s.heap.push { cls := .type "tuple", data := .seq items.toList.reverse.toArray } })
    (hsz : items.size ≤ sizeLine) : wpAny (model prog w) A (getItem (.ref t) (.ref sl)) Q E s := by
  have htake : sizeOk (.seq items.toList.reverse.toArray) := by
    show items.toList.reverse.toArray.size ≤ sizeLine
    rw [List.size_toArray, List.length_reverse, Array.length_toList]
    exact hsz
  obtain ⟨os, hos, hcs, hds⟩ := id hs
  have hTs : s.TypeIs (.ref sl) "slice" := ⟨os, hos, hcs⟩
  unfold getItem
  try with_reducible refine wpAny_holding ?_
  first | refine wpAny_bind (wpAny_pure ?_) | skip
  refine wpAny_bind (wpAny_sequenceKey ht.typeIs (by decide) ?_)
  refine wpAny_bind (wpAny_callSpecial?_slot (name := Str.ofString "__getitem__") ht.typeIs PyProof.Rows.slot_tuple_getitem
    (wpAny_call_entry PyProof.Rows.slot_tuple_getitem ht.typeIs entry_tuple_getitem ?_ (args_tuple_getitem _ _)))
  show wpAny _ _ (Builtin.Tuple.tupleItemsOf (.ref t) >>= _) _ _ s
  refine wpAny_bind (tupleItemsOf_ ht ?_)
  refine wpAny_bind (wpAny_typeOf hTs ?_)
  rw [if_pos (by decide)]
  refine wpAny_bind (sliceApplied_rev hs pk ?_)
  have hno : ¬ ((((items.size : Int) - 1) == 0 && (-1 : Int) == 1 && items.size == items.size) = true) := by
    intro q
    rw [Bool.and_eq_true, Bool.and_eq_true] at q
    exact absurd q.1.2 (by decide)
  show wpAny _ _ (if (((items.size : Int) - 1) == 0 && (-1 : Int) == 1 && items.size == items.size) = true then _ else _) _ _ s
  rw [if_neg hno, pick_rev]
  first
    | exact wpAny_bind (m := Builtin.Tuple.tupleExact _) (wpAny_newObj_type (wpAny_pure ⟨_, rfl, wpAny_pure h⟩) htake)
    | exact wpAny_bind (m := Builtin.Tuple.tupleExact _) (wpAny_newObj_type (wpAny_bind (wpAny_pure (wpAny_pure ⟨_, rfl, wpAny_pure h⟩))) htake)
    | exact wpAny_bind (wpAny_bind (m := Builtin.Tuple.tupleExact _) (wpAny_newObj_type (wpAny_pure (wpAny_pure ⟨_, rfl, wpAny_pure h⟩)) htake))
    | exact wpAny_bind (wpAny_bind (m := Builtin.Tuple.tupleExact _) (wpAny_newObj_type (wpAny_pure ⟨_, rfl, wpAny_pure h⟩) htake))
end
def tRv (K : PySem.W.Frag) (te : TE) (ts : TO) : TE := fun σ H Q => te σ H fun x H1 => ts σ H1 fun k H2 => k = some (-1) ∧ ∃ a xs, x = .ref a ∧ SqT K H2 a xs ∧ ∀ p H3, H2 p = none → Same H2 H3 → H3 p = some (.tup xs.reverse) → Q (.ref p) H3
section
variable {X : Cx} {e : Expr} {te : TE} {st : Option Expr} {ts : TO}
theorem pe_revT {p2 pos : Pos} (he : PE X e te) (hk : PO X st ts) (hsub : ∀ v u, ∃ ops, subscripted (.Slice none none st p2) false v u = operate ops (getItem v u) := by intros; exact ⟨_, by with_unfolding_all rfl⟩) : PE X (.Subscript e (.Slice none none st p2) pos) (tRv X.K te ts) := by
  refine ⟨fun pins s σ H Q I h => ?_⟩
  refine Subscript_ (thn (he.run pins s σ H _ I h) fun v s1 ⟨x, H1, I1, r1, q1⟩ => ?_)
  refine wpAny_Slice ?_
  rw [evalPart_none]
  refine wpAny_pure (wpAny_pure ?_)
  refine thn (hk.run pins s1 σ H1 _ I1 q1) fun vk s3 ⟨k, H3, I3, pk, q3⟩ => ?_
  obtain ⟨rfl, a, xs, rfl, hx, q⟩ := q3
  have I4 : Inv X pins σ H3 { s3 with heap := s3.heap.push { cls := .type "slice", data := .fields #[.none, .none, vk] } } := I3.kept (t' := s3.toks) fun b ob q => Heap.get?_push_of_some _ q
  cases r1
  obtain ⟨its, r, ht, hz⟩ := I4.tuple hx
  have hlen : its.toArray.size = xs.length := by rw [List.size_toArray]; exact r.length.symm
  obtain ⟨ops, hops⟩ := hsub (.ref a) (.ref s3.heap.objs.size)
  refine tail_any (ops := ops) ht.typeIs PyProof.Rows.slot_tuple_getitem.lookup (getItem_tuple_rev ht (Heap.IsSliceOf.new ..) pk ?_ (by rw [hlen]; exact hz)) hops
  refine ⟨.ref _, _, I4.laid (t' := s3.toks) (o := .tup xs.reverse) (fun b ob q => Heap.get?_push_of_some _ q) (Nat.le_refl _) ?_, rfl, q _ _ (I4.hok.fresh (Nat.le_refl _)) (same_new (I4.hok.fresh (Nat.le_refl _))) upd_same⟩
  refine ⟨by rw [List.length_reverse]; exact hz, _, r.reverse, IsTup.new _ _⟩
end
end Lk
end
section
set_option maxRecDepth 100000
set_option maxHeartbeats 2000000
/-! Signs. -/
namespace Lk
open PySem PySem.Spec PyProof.Rows L2
/-- what is a sign of p places -/
def IsSg (p : Nat) (d : PyData) : Prop := ∃ t : List Nat, d = tD t ∧ t.length = p ∧ (∀ x ∈ t, x < p) ∧ t.getD 0 0 = 0 ∧ t.sum % p = 1 % p
def spIsSign (C : Addr) : Sp := fun vs H Q E => ∃ u v e d, vs = [u, v] ∧ Th H u e ∧ Th H v d ∧ (inR e 1 12 = false → ∀ H', Same H H' → E (.ref C) none H') ∧
  (∀ p : Nat, e = .int (p : Int) → 1 ≤ p → p ≤ 12 → ∀ b H', (b = true ↔ IsSg p d) → Same H H' → Q (.bl b) H')
def spDueS : Sp := fun vs H Q _ => ∃ (p : Nat) (v : V) (d : PyData), vs = [.int (p : Int), v] ∧ Th H v d ∧ 1 ≤ p ∧ p ≤ 12 ∧ ∀ b H', (b = true ↔ IsSg p d) → Same H H' → Q (.bl b) H'
def spDSign : Sp := fun vs H Q _ => ∃ (a : Addr) (p : Nat) (n : Int), vs = [.ref a, .int (p : Int)] ∧ Urn H a n ∧ n ≤ 99000 ∧ 1 ≤ p ∧ p ≤ 12 ∧
  ∀ (t : List Nat) (pt : Addr) H', t.length = p → (∀ x ∈ t, x < p) → t.getD 0 0 = 0 → t.sum % p = 1 % p → Urn H' a (n + 30) → SameBut a H H' → H pt = none → H' pt = some (.tup (t.map vN)) → Q (.ref pt) H'
/-- the two ways in which it is said that the sum is one more than nought -/
theorem sum_one {p : Nat} (h : 1 ≤ p) (s : Nat) : ((s : Int) - 1) % (p : Int) = 0 ↔ s % p = 1 % p := by
  constructor
  · intro e
    obtain ⟨k, hk⟩ := Int.dvd_of_emod_eq_zero e
    rcases Nat.eq_zero_or_pos s with z | z
    · subst z
      have hk2 : (p : Int) * (-k) = 1 := by
        rw [Int.mul_neg]
        omega
      have hp : (p : Int) ∣ 1 := ⟨_, hk2.symm⟩
      have : p ∣ 1 := Int.natCast_dvd_natCast.mp hp
      have p1 : p = 1 := Nat.dvd_one.mp this
      subst p1
      simp
    · have e2 : ((s - 1 : Nat) : Int) % (p : Int) = 0 := by
        rw [show ((s - 1 : Nat) : Int) = (s : Int) - 1 by omega]
        exact e
      have e3 : (s - 1) % p = 0 := by
        rw [← Int.natCast_emod] at e2
        omega
      rw [show s = (s - 1) + 1 by omega, Nat.add_mod, e3, Nat.zero_add, Nat.mod_mod]
  · intro e
    have e2 : (s : Int) % (p : Int) = 1 % (p : Int) := by
      have z : ((s % p : Nat) : Int) = ((1 % p : Nat) : Int) := congrArg _ e
      rw [Int.natCast_emod, Int.natCast_emod] at z
      exact z
    exact Int.emod_eq_zero_of_dvd (Int.dvd_of_emod_eq_zero (by rw [Int.sub_emod, e2, Int.sub_self, Int.zero_emod]))
theorem sign_drawn {p : Nat} (p1 : 1 ≤ p) (ls : List Nat) (hl : ls.length = p - 2) (hb : ∀ x ∈ ls, x < p) (r : Nat) (hr : (r : Int) = (1 - ((ls.sum : Nat) : Int)) % (p : Int)) (t : List Nat) (ht : t = (0 :: (ls ++ [r])).take p) :
    t.length = p ∧ (∀ x ∈ t, x < p) ∧ t.getD 0 0 = 0 ∧ t.sum % p = 1 % p := by
  have hr0 : 0 ≤ (r : Int) := Int.natCast_nonneg r
  have hr1 : (r : Int) < (p : Int) := by rw [hr]; exact Int.emod_lt_of_pos _ (by omega)
  have all : ∀ x ∈ (0 :: (ls ++ [r])), x < p := fun x hx => by
    rcases List.mem_cons.mp hx with e | h
    · omega
    · rcases List.mem_append.mp h with h | h
      · exact hb x h
      · rw [List.mem_singleton.mp h]
        omega
  subst ht
  refine ⟨?_, fun x hx => all x (List.mem_of_mem_take hx), ?_, ?_⟩
  · rw [List.length_take, List.length_cons, List.length_append, hl]
    show min p (p - 2 + 1 + 1) = p
    omega
  · cases p with
    | zero => omega
    | succ p => rfl
  · rcases Nat.lt_or_ge p 2 with h | h
    · have e : p = 1 := by omega
      subst e
      show (0 : Nat) % 1 = 1 % 1
      rfl
    · rw [List.take_of_length_le (by rw [List.length_cons, List.length_append, hl]; show p - 2 + 1 + 1 ≤ p; omega), List.sum_cons, List.sum_append, List.sum_singleton, Nat.zero_add]
      have z : (((ls.sum + r) % p : Nat) : Int) = ((1 % p : Nat) : Int) := by
        rw [Int.natCast_emod, Int.natCast_add, hr, Int.add_emod_emod, show ((ls.sum : Nat) : Int) + (1 - ((ls.sum : Nat) : Int)) = 1 by omega, Int.natCast_emod]
        rfl
      exact Int.ofNat.inj z
end Lk
end
section
set_option maxRecDepth 100000
set_option maxHeartbeats 2000000
/-! xs[i] += e of a list. -/
namespace Lk
open PySem PySem.Spec PyProof.Rows L2
theorem get_list {X : Cx} : PGet X (rIxL X.K) := by
  intro pins s σ H x y v u Q I rx ry h
  obtain ⟨p, xs, i, z, rfl, rfl, hq, he, q⟩ := h
  cases rx
  obtain ⟨t, rfl⟩ := ry
  obtain ⟨its, r, pl, hz⟩ := I.list hq
  obtain ⟨j, h1, h2, h3, h4, h5⟩ := atI_get he
  obtain ⟨w, ew, rw'⟩ := r.get h2
  have hl := r.length
  have hn := line63
  have fin : EP X pins σ Q w s := ⟨z, H, I, rw', q⟩
  by_cases h0 : 0 ≤ i
  · have hj : i.toNat = j := by
      rw [seqIndex_of h0 h5] at h1
      exact Option.some.inj h1
    exact wpAny_getItem_list pl.isList h0 (by omega) (by rw [hj]; simpa using ew) fin
  · have hj : (i + (its.toArray.size : Int)).toNat = j := by
      rw [seqIndex_neg (by omega) h4] at h1
      rw [List.size_toArray, ← hl]
      exact Option.some.inj h1
    exact wpAny_getItem_list_neg pl.isList (by omega) (by rw [List.size_toArray] <;> omega) (by omega) (by rw [hj]; simpa using ew) fin
end Lk
end
section
set_option maxRecDepth 100000
set_option maxHeartbeats 2000000
/-! zip of a tuple and a list. -/
namespace Lk
open PySem PySem.Spec PyProof.Rows L2
/-- the tuple at a, the list at b, their items in new pairs -/
def ItzM (K : PySem.W.Frag) (a b : Addr) : It :=
  ⟨fun i H => ∃ (xs ys : List V) (x y : V), SqT K H a xs ∧ SqL K H b ys ∧ xs[i]? = some x ∧ ys[i]? = some y,
    fun i H v H' => ∃ T x y, v = .ref T ∧ H T = none ∧ H' = upd H T (.tup [x, y]) ∧ (∀ xs, SqT K H a xs → xs[i]? = some x) ∧ ∀ ys, SqL K H b ys → ys[i]? = some y,
    fun i H => ∃ xs ys : List V, SqT K H a xs ∧ SqL K H b ys ∧ (xs.length ≤ i ∨ ys.length ≤ i) ∧ i ≤ xs.length ∧ i ≤ ys.length⟩
theorem walk_zipM {K : PySem.W.Frag} {a b : Addr} {xs ys : List V} (hl : xs.length = ys.length) : Walk (ItzM K a b) xs.length (fun H => SqT K H a xs ∧ SqL K H b ys) (YPair (fun i => xs[i]?) (fun i => ys[i]?)) := by
  refine ⟨fun i _ hi q => ⟨xs, ys, xs[i], ys[i], q.1, q.2, by simp [hi], by simp⟩, fun _ q => ⟨xs, ys, q.1, q.2, .inl (Nat.le_refl _), Nat.le_refl _, by omega⟩, fun i H v H2 _ q ⟨T, x, y, h1, h2, h3, h4, h5⟩ => ?_⟩
  exact ⟨T, x, y, h1, h2, h3, h4 xs q.1, h5 ys q.2⟩
theorem turn_zipM {P : Program} {w : World} {K : PySem.W.Frag} {elts : List Expr} {kk : Nat} {tpos : Pos} {a b z TI TO i1 i2 : Addr} (D : ZipApart z TI TO i1 i2 a b) :
    Turn P w K (.Tuple elts kk tpos) (ItzM K a b) [z, TI, TO, i1, i2] z (fun i h => IsZip h z TI TO .none ∧ IsTupOf2 h TI (.ref i1) (.ref i2) ∧ (∃ x y, IsTupOf2 h TO x y) ∧ h.IsTupleIter i1 a i ∧ h.IsListIter i2 b i) where
  mem := by simp
  obj := fun i h st c hc => by
    obtain ⟨hz, hTI, ⟨x, y, hTO⟩, ⟨o1, e1, _, d1⟩, ⟨o2, e2, _, d2⟩⟩ := st
    have e' : c = z ∨ c = TI ∨ c = TO ∨ c = i1 ∨ c = i2 := by simpa using hc
    rcases e' with q | q | q | q | q
    · rw [q]; exact ⟨_, hz, fun v q => nomatch q⟩
    · rw [q]; exact ⟨_, hTI, fun v q => nomatch q⟩
    · rw [q]; exact ⟨_, hTO, fun v q => nomatch q⟩
    · rw [q]; exact ⟨o1, e1, fun v q => by rw [d1] at q; cases q⟩
    · rw [q]; exact ⟨o2, e2, fun v q => by rw [d2] at q; cases q⟩
  keep := fun i h h' st k => by
    obtain ⟨hz, hTI, ⟨x, y, hTO⟩, h1, h2⟩ := st
    exact ⟨k z (by simp) _ hz, k TI (by simp) _ hTI, ⟨x, y, k TO (by simp) _ hTO⟩, h1.at fun o q => k i1 (by simp) o q, h2.at fun o q => k i2 (by simp) o q⟩
  item := by
    intro X hP hw hK hc i pins s σ H E I hf st hg
    subst hP hw hK
    obtain ⟨hz, hTI, ⟨x0, y0, hTO⟩, h1, h2⟩ := st
    obtain ⟨xs, ys, x, y, hqx, hqy, hx, hy⟩ := hg
    obtain ⟨its, rv, p, _⟩ := I.tuple hqx
    obtain ⟨its2, rv2, p2, _⟩ := I.list hqy
    obtain ⟨u, hu, ru⟩ := rv.get hx
    obtain ⟨u2, hu2, ru2⟩ := rv2.get hy
    have hzl : z < s.heap.objs.size := Heap.lt_size hz
    have S : ZipSep2 z TI TO i1 i2 [i1, a] [i2, b] := ⟨D.TIz, D.TOz, D.TITO, D.TIi1, by simp, by simp [D.i1z.symm, D.l1z.symm], by simp [D.TOi1, D.l1TO.symm], D.TIi2, by simp, by simp [D.i2z.symm, D.l2z.symm], by simp [D.TOi2, D.l2TO.symm], by simp [D.i12, D.l2i1.symm], by simp [D.i12.symm, D.l1i2.symm]⟩
    have hi1 : i < its.toArray.size := by rw [List.size_toArray]; exact (List.getElem?_eq_some_iff.mp hu).1
    have hi2 : i < its2.toArray.size := by rw [List.size_toArray]; exact (List.getElem?_eq_some_iff.mp hu2).1
    have hn : X.A.in1.handled = none := I.ok.hd hc
    refine wpAny_pyNext_zipD2_item S (Draws.tuple hn i1 a D.l1i1 its.toArray) (Draws.list hn i2 b D.l2i2 its2.toArray) hz hTI hTO ⟨h1, (show s.heap.IsTuple a its.toArray from p)⟩ ⟨h2, p2.isList⟩ hi1 hi2 fun v1 v2 h' tk' hv1 hv2 z' TO' h1' h2' hT hsz hk => ?_
    have e1 : v1 = u := by
      have q : its.toArray[i]? = some v1 := hv1
      rw [List.getElem?_toArray, hu] at q
      exact (Option.some.inj q).symm
    have e2 : v2 = u2 := by
      have q : its2.toArray[i]? = some v2 := hv2
      rw [List.getElem?_toArray, hu2] at q
      exact (Option.some.inj q).symm
    subst e1 e2
    refine ⟨_, rfl, wpAny_letOwnedTupleGo_zip (s := { s with heap := h', toks := tk' }) z' fun h'' z'' sb => ?_⟩
    have hT2 : h''.get? s.heap.objs.size = some { cls := .type "tuple", data := .seq #[v1, v2] } := (sb.2 _ (Nat.ne_of_gt hzl)).trans hT
    have new : ObjOk X.prog X.w (upd H s.heap.objs.size (.tup [x, y])) h'' s.heap.objs.size (.tup [x, y]) :=
      ⟨by show 2 ≤ sizeLine; decide, [v1, v2], .cons ru (.cons ru2 .nil), ⟨_, hT2, rfl, _, rfl⟩⟩
    have I1 : Inv X pins σ (upd H s.heap.objs.size (.tup [x, y])) { s with heap := h'', toks := tk' } :=
      I.turnedNew (t' := tk') (ch := [z, TI, TO, i1, i2]) (fun c o hb q => (sb.2 c (fun q' => hb (by simp [q']))).trans (hk c o (fun q' => hb (by simp [q'])) (fun q' => hb (by simp [q'])) (fun q' => hb (by simp [q'])) (fun q' => hb (by simp [q'])) q)) hf (Nat.le_refl _) new
    refine ⟨.ref s.heap.objs.size, _, I1, rfl, ⟨_, x, y, rfl, I.hok.fresh (Nat.le_refl _), rfl, fun l hl => by rw [I.tuple_inj hl hqx]; exact hx, fun l hl => by rw [I.list_inj hl hqy]; exact hy⟩, ⟨z'', ?_, ⟨v1, v2, ?_⟩, ?_, ?_⟩, fun c hcm => ?_⟩
    · exact (sb.2 _ D.TIz).trans (hk _ _ D.TIz D.TITO D.TIi1 D.TIi2 hTI)
    · exact (sb.2 _ D.TOz).trans TO'
    · exact h1'.1.at fun o q => (sb.2 _ D.i1z).trans q
    · exact h2'.1.at fun o q => (sb.2 _ D.i2z).trans q
    · have hlt : c < s.heap.objs.size := by
        have e' : c = z ∨ c = TI ∨ c = TO ∨ c = i1 ∨ c = i2 := by simpa using hcm
        rcases e' with q | q | q | q | q
        · rw [q]; exact hzl
        · rw [q]; exact Heap.lt_size hTI
        · rw [q]; exact Heap.lt_size hTO
        · rw [q]; obtain ⟨_, e1, _⟩ := h1; exact Heap.lt_size e1
        · rw [q]; obtain ⟨_, e2, _⟩ := h2; exact Heap.lt_size e2
      rw [upd_ne (Nat.ne_of_lt hlt)]
      exact (hf c hcm).1
  done := by
    intro X hP hw hK hc i pins s σ H E I hf st hg
    subst hP hw hK
    obtain ⟨hz, hTI, ⟨x0, y0, hTO⟩, h1, h2⟩ := st
    obtain ⟨xs, ys, hqx, hqy, hend, g1, g2⟩ := hg
    obtain ⟨its, rv, p, _⟩ := I.tuple hqx
    obtain ⟨its2, rv2, p2, _⟩ := I.list hqy
    have l1 := rv.length
    have l2 := rv2.length
    have S : ZipSep2 z TI TO i1 i2 [i1, a] [i2, b] := ⟨D.TIz, D.TOz, D.TITO, D.TIi1, by simp, by simp [D.i1z.symm, D.l1z.symm], by simp [D.TOi1, D.l1TO.symm], D.TIi2, by simp, by simp [D.i2z.symm, D.l2z.symm], by simp [D.TOi2, D.l2TO.symm], by simp [D.i12, D.l2i1.symm], by simp [D.i12.symm, D.l1i2.symm]⟩
    have hn : X.A.in1.handled = none := I.ok.hd hc
    have s1 : its.toArray.size = xs.length := by rw [List.size_toArray, ← l1]
    have s2 : its2.toArray.size = ys.length := by rw [List.size_toArray, ← l2]
    refine wpAny_pyNext_zipD2_end S (Draws.tuple hn i1 a D.l1i1 its.toArray) (Draws.list hn i2 b D.l2i2 its2.toArray) hz hTI hTO ⟨h1, (show s.heap.IsTuple a its.toArray from p)⟩ ⟨h2, p2.isList⟩ (by omega) (by omega) (by omega) fun h' tk' hk => ⟨rfl, I.turnedL (t' := tk') (ch := [z, TI, TO, i1, i2]) (fun c o hb q =>
      hk c o (fun q' => hb (by simp [q'])) (fun q' => hb (by simp [q'])) (fun q' => hb (by simp [q'])) (fun q' => hb (by simp [q'])) q) hf⟩
  self := fun A i s Q E st h => wpAny_pyIter_zip st.1 h
def iZipM (K : PySem.W.Frag) (ta : TA) : TI := fun σ H R => ta σ H fun vs H1 => ∃ a b xs ys, vs = [.ref a, .ref b] ∧ SqT K H1 a xs ∧ SqL K H1 b ys ∧ R (ItzM K a b) H1
theorem pi_zipM {X : Cx} {e e2 : Expr} {ta : TA} {p pos tpos : Pos} {elts : List Expr} {kk : Nat} (hg : Gl X "zip") (hm : X.mg "zip" = none) (ha : PA X [e, e2] ta)
    (hs : starEach [e, e2] X.env = (false, eval e X.env) :: starEach [e2] X.env := by rfl) (hpl : (backTo pos (starEach [e2] X.env)).any (·.1) = false := by rfl) :
    PI X (.Tuple elts kk tpos) (.Call (.Name "zip" p) [e, e2] [] pos) (iZipM X.K ta) := by
  refine ⟨fun pins s σ H R I h => ?_⟩
  refine Call_ (ld_blt I hg hm PyProof.Rows.boot_zip (PyProof.Rows.callWith_type1 (thn (ha.run pos pins s σ H _ I h) fun us s1 ⟨vs, H1, I1, r1, q1⟩ => ?_) hs hpl))
  obtain ⟨a, b, xs, ys, ex, hqx, hqy, q⟩ := q1
  subst ex
  cases r1 with
  | cons r rr =>
    cases rr with
    | cons r' rr =>
      cases rr
      cases r
      cases r'
      have fresh5 : ∀ c, c ∈ [s1.heap.objs.size + 4, s1.heap.objs.size + 2, s1.heap.objs.size + 3, s1.heap.objs.size, s1.heap.objs.size + 1] → FpOk X pins H1 c := fun c hcm => by
        have e' : c = s1.heap.objs.size + 4 ∨ c = s1.heap.objs.size + 2 ∨ c = s1.heap.objs.size + 3 ∨ c = s1.heap.objs.size ∨ c = s1.heap.objs.size + 1 := by simpa using hcm
        have hle : s1.heap.objs.size ≤ c := by
          rcases e' with z | z | z | z | z
          · rw [z]; exact Nat.le_add_right _ _
          · rw [z]; exact Nat.le_add_right _ _
          · rw [z]; exact Nat.le_add_right _ _
          · rw [z]; exact Nat.le_refl _
          · rw [z]; exact Nat.le_add_right _ _
        exact I1.fpOk hle (I1.hok.fresh hle)
      obtain ⟨its, rv, p1, _⟩ := I1.tuple hqx
      obtain ⟨its2, rv2, p2, _⟩ := I1.list hqy
      obtain ⟨o1, ho1, _⟩ := id p1
      refine zip_begins2 (begins_tuple a its.toArray) (begins_list b its2.toArray) p1 p2.isList fun h' hz hTI hTO h1 h2 hsz hk => wpAny_pyIter_zip hz ?_
      have I2 : Inv X pins σ H1 { s1 with heap := h' } := I1.kept (t' := s1.toks) hk
      exact ⟨s1.heap.objs.size + 4, [s1.heap.objs.size + 4, s1.heap.objs.size + 2, s1.heap.objs.size + 3, s1.heap.objs.size, s1.heap.objs.size + 1], _, _, H1, rfl, I2, turn_zipM (PySem.W.ktu_apart s1.heap.objs.size a b (Heap.lt_size ho1) p2.lt), ⟨hz, hTI, ⟨_, _, hTO⟩, ⟨_, h1, rfl, rfl⟩, ⟨_, h2, rfl, rfl⟩⟩, fresh5, q⟩
end Lk
end
section
set_option maxRecDepth 100000
set_option maxHeartbeats 2000000
/-! Signs of coders: tables of numbers, and what is told. -/
namespace Lk
open PySem PySem.Spec PyProof.Rows L2
/-- a table over the places -/
def tab (p : Nat) (f : Nat → Int) : List V := (List.range p).map fun k => V.int (f k)
theorem tab_len (p : Nat) (f : Nat → Int) : (tab p f).length = p := by
  unfold tab
  rw [List.length_map, List.length_range]
theorem tab_at {p k : Nat} (f : Nat → Int) (h : k < p) : (tab p f)[k]? = some (.int (f k)) := by
  unfold tab
  rw [List.getElem?_map, List.getElem?_range h]
  rfl
theorem tab_congr {p : Nat} {f g : Nat → Int} (h : ∀ k, k < p → f k = g k) : tab p f = tab p g :=
  List.map_congr_left fun k hk => congrArg V.int (h k (List.mem_range.mp hk))
theorem tab_set {p j : Nat} (f : Nat → Int) (v : Int) : (tab p f).set j (.int v) = tab p (fun k => if k = j then v else f k) := by
  refine List.ext_getElem? fun k => ?_
  by_cases hk : k < p
  · rw [tab_at _ hk]
    by_cases e : k = j
    · subst e
      rw [List.getElem?_set_self (by rw [tab_len]; exact hk), if_pos rfl]
    · rw [List.getElem?_set_ne (Ne.symm e), tab_at _ hk, if_neg e]
  · rw [List.getElem?_eq_none (by rw [List.length_set, tab_len]; omega), List.getElem?_eq_none (by rw [tab_len]; omega)]
theorem tab_ints (p : Nat) (f : Nat → Int) : tab p f = ((List.range p).map f).map V.int := by
  unfold tab
  rw [List.map_map]
  rfl
theorem tab_rep (p : Nat) (x : Int) : List.replicate p (V.int x) = tab p fun _ => x := by
  refine List.ext_getElem? fun k => ?_
  by_cases hk : k < p
  · rw [tab_at _ hk, List.getElem?_replicate, if_pos hk]
  · rw [List.getElem?_eq_none (by rw [List.length_replicate]; omega), List.getElem?_eq_none (by rw [tab_len]; omega)]
theorem sgn_tab (c : Cd) : (sgn c).map vN = tab c.2.length fun k => (num c k - num c 0) % (c.2.length : Int) := by
  unfold sgn tab
  rw [List.map_map]
  refine List.map_congr_left fun k hk => ?_
  have hk := List.mem_range.mp hk
  show V.int ((((num c k - num c 0) % (c.2.length : Int)).toNat : Nat) : Int) = _
  rw [Int.toNat_of_nonneg (Int.emod_nonneg _ (by omega))]
theorem sgn_isSg {c : Cd} (h : CdOk c) : IsSg c.2.length (tD (sgn c)) :=
  ⟨sgn c, rfl, sgn_len c, sgn_lt, sgn_zero h.pos, sgn_sum h.1⟩
/-- how many words end ahead of a place -/
def spEnds : Sp := fun vs H Q _ => ∃ (b : Addr) (ls : List Nat) (k : Nat), vs = [.ref b, .int (k : Int)] ∧ H b = some (.tup (ls.map vN)) ∧ k < ls.length ∧ ls.length ≤ 12 ∧ ∀ H', Same H H' → Q (.int (endsI ls k)) H'
def toldSign (c : Cd) (Q : VK) (H : Hp) : Prop := ∀ p H', Same H H' → H' p = some (.tup ((sgn c).map vN)) → Q (.ref p) H'
/-- the law's own -/
def spSign : Sp := fun vs H Q _ => ∃ v c, vs = [v] ∧ Cat H v c ∧ CdOk c ∧ toldSign c Q H
def spByWords : Sp := fun vs H Q _ => ∃ v c, vs = [v] ∧ Cat H v c ∧ CdOk c ∧ (∀ x ∈ c.2, x ≤ 100) ∧ toldSign c Q H
/-- what the law has counted when it has gone by the first i places -/
def cntA (c : Cd) (i : Nat) (k : Nat) : Int := (if k = c.1 then 1 else 0) + (if k < i then (len c k : Int) else 0) - sumR i fun b => (cnt c.2.length b k (len c b) : Int)
theorem cntA_zero (c : Cd) (k : Nat) : cntA c 0 k = if k = c.1 then 1 else 0 := by
  unfold cntA
  rw [if_neg (Nat.not_lt_zero k), sumR_zero]
  omega
theorem cntA_all {c : Cd} {k : Nat} (h : k < c.2.length) : cntA c c.2.length k = num c k := by
  unfold cntA num endsI
  rw [if_pos h]
  show _ + _ - sumR c.2.length (fun b => (cnt c.2.length b k (len c b) : Int)) = _ - sumR c.2.length (fun b => (cnt c.2.length b k (len c b) : Int)) + _
  omega
theorem cntA_succ (c : Cd) (i k : Nat) : cntA c (i + 1) k = cntA c i k + (if k = i then (len c i : Int) else 0) - (cnt c.2.length i k (len c i) : Int) := by
  unfold cntA
  rw [sumR_succ]
  rcases Nat.lt_trichotomy k i with h | h | h
  · rw [if_pos h, if_pos (show k < i + 1 by omega), if_neg (show ¬ k = i by omega)]
    omega
  · subst h
    rw [if_neg (Nat.lt_irrefl k), if_pos (Nat.lt_succ_self k), if_pos rfl]
    omega
  · rw [if_neg (show ¬ k < i by omega), if_neg (show ¬ k < i + 1 by omega), if_neg (show ¬ k = i by omega)]
    omega
theorem pull_way {p i k : Nat} (hi : i < p) (hk : k < p) (L : Nat) : (if (L : Int) - wayOf p i k + (p : Int) > 0 then (L : Int) - wayOf p i k + (p : Int) else 0) / (p : Int) = (cnt p i k L : Int) := by
  have hp : (0 : Int) < p := by omega
  have w0 : 0 ≤ ((k : Int) - i - 1) % p := Int.emod_nonneg _ (by omega)
  have w1 : ((k : Int) - i - 1) % p < p := Int.emod_lt_of_pos _ hp
  have e : (if (L : Int) - wayOf p i k + (p : Int) > 0 then (L : Int) - wayOf p i k + (p : Int) else 0) = (L : Int) - wayOf p i k + (p : Int) := by
    split
    · rfl
    · unfold wayOf at *
      omega
  rw [e, ← cnt_way hi hk]
  rw [show (L : Int) - wayOf p i k + (p : Int) = (L : Int) - wayOf p i k + (p : Int) * 1 by omega, Int.add_mul_ediv_left _ _ (by omega)]
/-- NoCoder of the one, of the other, NotLike; else what is told of the two -/
def spTwo (C1 C2 : Addr) (told : Cd → Cd → VK → Hp → Prop) : Sp := fun vs H Q E => ∃ v u d e, vs = [v, u] ∧ Th H v d ∧ Th H u e ∧ (isCd d = false → ∀ H', Same H H' → E (.ref C1) none H') ∧ (isCd d = true → isCd e = false → ∀ H', Same H H' → E (.ref C1) none H') ∧
  (∀ c c2, d = cdD c → CdOk c → e = cdD c2 → CdOk c2 → c.2.length ≠ c2.2.length → ∀ H', Same H H' → E (.ref C2) none H') ∧
  (∀ c c2, d = cdD c → CdOk c → e = cdD c2 → CdOk c2 → c.2.length = c2.2.length → told c c2 Q H)
def toldNone (_ _ : Cd) (Q : VK) (H : Hp) : Prop := ∀ H', Same H H' → Q .non H'
def toldOne (c c2 : Cd) (Q : VK) (H : Hp) : Prop := ∀ b H', (b = true ↔ sgn c = sgn c2) → Same H H' → Q (.bl b) H'
theorem two_of {C1 C2 : Addr} {told : Cd → Cd → VK → Hp → Prop} {Q : VK} {E : XK} {H : Hp} {v u : V} {c c2 : Cd} (cat : Cat H v c) (ok : CdOk c) (cat2 : Cat H u c2) (ok2 : CdOk c2) (l : c.2.length = c2.2.length) (k : told c c2 Q H) : spTwo C1 C2 told [v, u] H Q E := by
  refine ⟨v, u, cdD c, cdD c2, rfl, cat.th, cat2.th, fun z => ?_, fun _ z => ?_, fun a b ea _ eb _ ne => ?_, fun a b ea _ eb _ _ => ?_⟩
  · rw [isCd_cdD ok] at z
    cases z
  · rw [isCd_cdD ok2] at z
    cases z
  · have e1 := cdD_inj ea
    have e2 := cdD_inj eb
    subst e1 e2
    exact absurd l ne
  · have e1 := cdD_inj ea
    have e2 := cdD_inj eb
    subst e1 e2
    exact k
theorem sg_of {C1 : Addr} {Q : VK} {E : XK} {H : Hp} {v : V} {c : Cd} (cat : Cat H v c) (ok : CdOk c) (k : toldSign c Q H) : spOne C1 toldSign [v] H Q E := by
  refine ⟨v, cdD c, rfl, cat.th, fun z => ?_, fun c2 ec hc2 => ?_⟩
  · rw [isCd_cdD ok] at z
    cases z
  · have e2 := cdD_inj ec
    subst e2
    exact k
theorem isg_of {C1 : Addr} {Q : VK} {E : XK} {H : Hp} {v : V} {d : PyData} {p : Nat} (p1 : 1 ≤ p) (p12 : p ≤ 12) (h : Th H v d) (k : ∀ b H', (b = true ↔ IsSg p d) → Same H H' → Q (.bl b) H') : spIsSign C1 [.int (p : Int), v] H Q E := by
  refine ⟨_, v, .int (p : Int), d, rfl, .int _, h, fun z => ?_, fun p' e _ _ b H' hb s => ?_⟩
  · exfalso
    have y : (decide ((1 : Int) ≤ (p : Int)) && decide ((p : Int) ≤ 12)) = false := z
    rw [decide_eq_true (by omega), decide_eq_true (by omega)] at y
    cases y
  · have e2 : p' = p := by
      injection e with e
      omega
    subst e2
    exact k b H' hb s
end Lk
end
section
set_option maxRecDepth 100000
set_option maxHeartbeats 2000000
namespace Lk
open PySem PySem.Spec PyProof.Rows L2
section
variable {P : Program} {w : World} {K : PySem.W.Frag} {mg : Str → Option Value} {base : Heap}
abbrev nEA : List Str := ["lengths", "at", "places", "ways", "place", "length", "way"]
theorem sc_ends : FnScope nEA ["lengths", "at"] (defScope s_ends_ahead) := ⟨rfl, rfl, rfl, by decide +kernel, rfl, by decide +kernel, by decide +kernel⟩
theorem ok_ends {f : Addr} {fd : FuncData} (F : Fun K "ends_ahead" "ends_ahead" s_ends_ahead f fd) (ml : mg "len" = none) (mr : mg "range" = none) (mz : mg "zip" = none) (mu : mg "sum" = none) : FnOk P w K mg base CX0 1 f fd ["lengths", "at"] spEnds := by
  refine F.ok sc_ends (fun vs H Q E h => ?_) (fun cdv A outer s H vs Q E hr h => ?_)
  · obtain ⟨b, ls, k, rfl, _⟩ := h
    rfl
  · obtain ⟨b, ls, k, rfl, hb, hk, h12, q⟩ := h
    have nd := sc_ends.nd
    refine ⟨_, (pss_cons (by exact (ps_set (i := 2) nd rfl (Or.inr rfl) (pe_callB call_len_seq (by rfl) ml PySem.boot_len (pa_cons (pv 0) pa_nil))))
      (pss_cons (by exact (ps_setLc (i := 3) (own := [("place", 4)]) (g := (gName 4)) (by rfl) nd rfl rfl (sw_true rfl rfl rfl (by decide +kernel)) (pi_range1 (by rfl) mr (pa_cons (pv 2) pa_nil)) (blkOk_by (N := nEA) (sc := defScope s_ends_ahead) (by decide +kernel)) (fun _ _ _ _ _ => (pg_name (i := 4) nd rfl (Or.inl rfl))) (fun _ _ _ _ _ => pts_nil) (fun _ _ _ _ _ => (pe_op op_add (pe_op op_mod (pe_op op_sub (pe_op op_sub (pv 1) (pv 4)) pe_int) (pv 2)) pe_int))))
      (pss_one (by exact (ps_ret (pe_callB (cr_sum rfl) (by rfl) mu (by decide +kernel) (pa_cons (pe_lc (own := [("length", 5), ("way", 6)]) (g := (gTup K 2 (gCons (gName 5) (gCons (gName 6) gNil)))) (tt := tYes) rfl nd (pi_zipM (by rfl) mz (pa_cons (pv 0) (pa_cons (pv 3) pa_nil))) (blkOk_by (N := nEA) (sc := defScope s_ends_ahead) (by decide +kernel)) (fun _ _ _ _ _ => (pg_tup rfl (pgs_cons (pg_name (i := 5) nd rfl (Or.inl rfl)) (pgs_cons (pg_name (i := 6) nd rfl (Or.inl rfl)) pgs_nil)))) (fun _ _ _ _ _ => pts_nil) (fun _ _ _ _ _ => (pe_op op_add (pe_op op_fdivN (pe_op op_sub (pv 5) (pv 6)) (pv 2)) pe_int))) pa_nil))))))), ?_⟩
    refine ⟨_, rfl, b, _, rfl, .inr (SqT.of hb), ?_⟩
    rw [List.length_map]
    refine ⟨_, rfl, (ls.length : Int), rfl, by omega, by omega, fun D nD => ?_⟩
    rw [Int.toNat_natCast]
    refine lc_it walk_range (fun i H3 => Same H H3 ∧ H3 D = some (.lst (((List.range ls.length).take i).map fun b : Nat => V.int (wayOf ls.length b k)))) ⟨same_new nD, upd_same⟩ (fun _ _ _ _ => True.intro) ?_ ?_
    · rintro i x H3 H4 hi ⟨s3, e3⟩ ⟨rfl, rfl⟩
      obtain ⟨acc, a1, a2, a3⟩ := snoc_map (f := fun b : Nat => V.int (wayOf ls.length b k)) e3 (List.getElem?_range hi) (by rw [List.length_range]; omega)
      dsimp only
      rw [Int.zero_add]
      exact ⟨rfl, _, rfl, _, rfl, _, _, rfl, rfl, _, _, rfl, rfl, _, rfl, _, _, rfl, rfl, (by omega), _, _, rfl, rfl, acc, a1, a2, same_push s3 nD, a3⟩
    · rintro H3 ⟨s3, e3⟩
      rw [List.take_of_length_le (by rw [List.length_range]; exact Nat.le_refl _)] at e3
      have eW : H3 D = some (.lst (tab ls.length fun b => wayOf ls.length b k)) := e3
      have hb3 := s3 _ _ hb
      refine ⟨_, rfl, _, rfl, b, D, _, _, rfl, SqT.of hb3, SqL.of eW, fun D2 nD2 => ?_⟩
      refine lc_it (walk_zipM (by rw [List.length_map, tab_len])) (fun i H5 => Same H3 H5 ∧ H5 D2 = some (.lst (((List.range ls.length).take i).map fun b : Nat => V.int (cnt ls.length b k (ls.getD b 0) : Int)))) ⟨same_new nD2, upd_same⟩ (fun i H3 _ p => ⟨SqT.of (p.1 _ _ hb3), SqL.of (p.1 _ _ eW)⟩) ?_ ?_
      · rintro i x H5 H4 hi ⟨s5, e5⟩ ⟨T, x1, x2, rfl, nT, rfl, hx1, hx2⟩
        rw [List.length_map] at hi
        dsimp only at hx1 hx2
        rw [nat_at hi] at hx1
        rw [tab_at _ hi] at hx2
        cases hx1
        cases hx2
        have sT : Same H3 (upd H5 T (.tup [.int ((ls.getD i 0 : Nat) : Int), .int (wayOf ls.length i k)])) := s5.trans (same_new nT)
        have e4 : upd H5 T (.tup [.int ((ls.getD i 0 : Nat) : Int), .int (wayOf ls.length i k)]) D2 = some (.lst (((List.range ls.length).take i).map fun b => V.int (cnt ls.length b k (ls.getD b 0) : Int))) := by rw [upd_ne (ne_of_none e5 nT)]; exact e5
        obtain ⟨acc, a1, a2, a3⟩ := snoc_map (f := fun b : Nat => V.int (cnt ls.length b k (ls.getD b 0) : Int)) e4 (List.getElem?_range hi) (by rw [List.length_range]; omega)
        refine ⟨T, [.int ((ls.getD i 0 : Nat) : Int), .int (wayOf ls.length i k)], rfl, SqT.of upd_same, rfl, _, _, rfl, _, _, rfl, rfl, rfl, _, rfl, _, rfl, _, _, rfl, rfl, _, rfl, _, _, rfl, rfl, ⟨by omega, by omega⟩, _, _, rfl, rfl, ?_⟩
        refine ⟨acc, a1, a2, same_push sT nD2, ?_⟩
        rw [← cnt_way hi hk] at a3
        rw [Int.fdiv_eq_ediv_of_nonneg _ (by omega)]
        exact a3
      · rintro H5 ⟨s5, e5⟩
        rw [List.take_of_length_le (by rw [List.length_range, List.length_map]; exact Nat.le_refl _)] at e5
        refine ⟨D2, (List.range ls.length).map fun b => (cnt ls.length b k (ls.getD b 0) : Int), rfl, SqL.of (by rw [List.map_map]; exact e5), ?_⟩
        exact q H5 (s3.trans s5)
end
end Lk
end
section
set_option maxRecDepth 100000
set_option maxHeartbeats 2000000
namespace Lk
open PySem PySem.Spec PyProof.Rows L2
section
variable {P : Program} {w : World} {K : PySem.W.Frag} {mg : Str → Option Value} {base : Heap}
abbrev NnSO : List Str := ["coder", "home", "lengths", "places", "numbers", "place", "length", "number"]
theorem scN_signOf : FnScope NnSO ["coder"] (defScope s_sign_of) := ⟨rfl, rfl, rfl, by decide +kernel, rfl, by decide +kernel, by decide +kernel⟩
theorem okN_signOf {f C : Addr} {fd : FuncData} (F : Fun K "sign_of" "sign_of" s_sign_of f fd) (cr : CalN P w K mg base 4 "refuse_no_coder" (spRefCoder C)) (ce : C8.Cal P w K mg base 1 "ends_ahead" spEnds []) (ml : mg "len" = none) (me : mg "enumerate" = none) (mt : mg "tuple" = none) : FnOk P w K mg base (L2N.CX P w) 5 f fd ["coder"] (spOne C toldSign) := by
  refine okN F scN_signOf (fun vs H Q E h => ?_) (fun cdv A outer s H vs Q E hr h => ?_)
  · obtain ⟨v, d, rfl, _⟩ := h
    rfl
  · obtain ⟨v, d, rfl, hv, q1, q⟩ := h
    have nd := scN_signOf.nd
    refine ⟨_, (pss_cons (by exact (ps_expr (pe_cN cr (L2N.takes_of rfl rfl rfl rfl) hr (by decide) rfl (pa_cons (pv 0) pa_nil))))
      (pss_cons (by exact (ps_asg (pv 0) (pg_tup rfl (pgs_cons (pg_name (i := 1) nd rfl (Or.inl rfl)) (pgs_cons (pg_name (i := 2) nd rfl (Or.inr rfl)) pgs_nil)))))
      (pss_cons (by exact (ps_set (i := 3) nd rfl (Or.inr rfl) (pe_callB call_len_seq (by rfl) ml PySem.boot_len (pa_cons (pv 2) pa_nil))))
      (pss_cons (by exact (ps_set (i := 4) nd rfl (Or.inr rfl) (pe_lc (own := [("place", 5), ("length", 6)]) (g := (gTup K 2 (gCons (gName 5) (gCons (gName 6) gNil)))) (tt := tYes) rfl nd (pi_enumT (by rfl) me (pa_cons (pv 2) pa_nil)) (blkOk_by (N := NnSO) (sc := defScope s_sign_of) (by decide +kernel)) (fun _ _ _ _ _ => (pg_tup rfl (pgs_cons (pg_name (i := 5) nd rfl (Or.inl rfl)) (pgs_cons (pg_name (i := 6) nd rfl (Or.inl rfl)) pgs_nil)))) (fun _ _ _ _ _ => pts_nil) (fun _ _ _ _ _ => (pe_op op_sub (pv 6) (C8.pe_c ce hr (by decide) rfl (pa_cons (pv 2) (pa_cons (pv 5) pa_nil))))))))
      (pss_cons (by exact (ps_augS (pv 4) (pv 1) get_list pe_int ip_add set_list))
      (pss_one (by exact (ps_ret (pe_callTy call_tupS (by rfl) mt (by decide +kernel) (pa_cons (pe_lc (own := [("number", 7)]) (g := (gName 7)) (tt := tYes) rfl nd (pi_list (pv 4)) (blkOk_by (N := NnSO) (sc := defScope s_sign_of) (by decide +kernel)) (fun _ _ _ _ _ => (pg_name (i := 7) nd rfl (Or.inl rfl))) (fun _ _ _ _ _ => pts_nil) (fun _ _ _ _ _ => (pe_op op_mod (pe_op op_sub (pv 7) (pe_ix (ix_listK (K := K) rfl) (pv 4) pe_int (fun _ _ => rfl))) (pv 3)))) pa_nil)))))))))), ?_⟩
    refine ⟨_, rfl, v, d, rfl, hv, fun hd H1 s1 => ?_, fun hd H1 s1 => q1 hd H1 s1⟩
    obtain ⟨c, rfl, hc⟩ := isCd_of hd
    have qq := q c rfl hc
    clear q q1
    obtain ⟨a, b, rfl, ha, hb⟩ := (Th.same s1 _ hv).cat
    have h12 := hc.2
    have hp := hc.pos
    refine ⟨_, rfl, a, _, rfl, SqT.of ha, rfl, _, _, rfl, _, _, rfl, rfl, ?_⟩
    refine ⟨_, rfl, b, _, rfl, .inr (SqT.of hb), ?_⟩
    rw [List.length_map]
    refine ⟨_, rfl, b, _, rfl, SqT.of hb, fun D nD => ?_⟩
    refine lc_it walk_enumT (fun i H3 => Same H1 H3 ∧ H3 D = some (.lst (((List.range c.2.length).take i).map fun k : Nat => V.int ((len c k : Int) - endsI c.2 k)))) ⟨same_new nD, upd_same⟩ (fun i H3 _ p => SqT.of (p.1 _ _ hb)) ?_ ?_
    · rintro i x H3 H4 hi ⟨s3, e3⟩ ⟨T, x1, x2, rfl, nT, rfl, hx1, hx2⟩
      rw [List.length_map] at hi
      dsimp only at hx1 hx2
      have hx1' : x1 = .int (0 + (i : Int)) := (Option.some.inj hx1).symm
      rw [nat_at hi] at hx2
      cases hx2
      subst hx1'
      rw [Int.zero_add]
      have sT : Same H1 (upd H3 T (.tup [.int (i : Int), .int ((c.2.getD i 0 : Nat) : Int)])) := s3.trans (same_new nT)
      refine ⟨T, [.int (i : Int), .int ((c.2.getD i 0 : Nat) : Int)], rfl, SqT.of upd_same, rfl, _, _, rfl, _, _, rfl, rfl, rfl, _, rfl, _, rfl, _, rfl, b, c.2, i, rfl, sT _ _ hb, hi, h12, fun H5 s5 => ?_⟩
      have e4 : upd H3 T (.tup [.int (i : Int), .int ((c.2.getD i 0 : Nat) : Int)]) D = some (.lst (((List.range c.2.length).take i).map fun k : Nat => V.int ((len c k : Int) - endsI c.2 k))) := by rw [upd_ne (ne_of_none e3 nT)]; exact e3
      obtain ⟨acc, a1, a2, a3⟩ := snoc_map (f := fun k : Nat => V.int ((len c k : Int) - endsI c.2 k)) (s5 _ _ e4) (List.getElem?_range hi) (by rw [List.length_range]; omega)
      exact ⟨_, _, rfl, rfl, acc, a1, a2, same_push (sT.trans s5) nD, a3⟩
    · rintro H3 ⟨s3, e3⟩
      rw [List.take_of_length_le (by rw [List.length_range, List.length_map]; exact Nat.le_refl _)] at e3
      have eN : H3 D = some (.lst (tab c.2.length fun k => (len c k : Int) - endsI c.2 k)) := e3
      have hl := hc.1
      refine ⟨_, rfl, _, rfl, D, _, (c.1 : Int), _, rfl, rfl, SqL.of eN, atI_nat (tab_at _ hl), _, _, rfl, rfl, D, _, (c.1 : Int), c.1, rfl, rfl, eN, ixN_at (by rw [tab_len]; exact hl), ?_⟩
      rw [tab_set]
      have e5 : tab c.2.length (fun k => if k = c.1 then (len c c.1 : Int) - endsI c.2 c.1 + 1 else (len c k : Int) - endsI c.2 k) = tab c.2.length (num c) := tab_congr fun k _ => by
        unfold num
        by_cases g : k = c.1
        · rw [if_pos g, if_pos g, g]
        · rw [if_neg g, if_neg g]
          omega
      rw [e5]
      have eM : upd H3 D (.lst (tab c.2.length (num c))) D = some (.lst (tab c.2.length (num c))) := upd_same
      have sM : Same H1 (upd H3 D (.lst (tab c.2.length (num c)))) := same_push s3 nD
      generalize upd H3 D (.lst (tab c.2.length (num c))) = H6 at eM sM
      refine ⟨_, rfl, D, rfl, ⟨_, SqL.of eM⟩, fun D2 nD2 => ?_⟩
      refine lc_it walk_list (fun i H7 => Same H6 H7 ∧ H7 D2 = some (.lst (((List.range c.2.length).take i).map fun k : Nat => V.int ((num c k - num c 0) % (c.2.length : Int))))) ⟨same_new nD2, upd_same⟩ (fun i H7 _ p => SqL.of (p.1 _ _ eM)) ?_ ?_
      · rintro i x H7 H8 hi ⟨s7, e7⟩ ⟨rfl, hx⟩
        rw [tab_len] at hi
        rw [tab_at _ hi] at hx
        cases hx
        obtain ⟨acc, a1, a2, a3⟩ := snoc_map (f := fun k : Nat => V.int ((num c k - num c 0) % (c.2.length : Int))) e7 (List.getElem?_range hi) (by rw [List.length_range]; omega)
        exact ⟨rfl, _, rfl, _, rfl, D, _, 0, _, rfl, rfl, SqL.of (s7 _ _ eM), atI_nat (j := 0) (tab_at _ hp), _, _, rfl, rfl, _, rfl, _, _, rfl, rfl, (by omega), acc, a1, a2, same_push s7 nD2, a3⟩
      · rintro H7 ⟨s7, e7⟩
        rw [List.take_of_length_le (by rw [List.length_range, tab_len]; exact Nat.le_refl _)] at e7
        refine ⟨D2, _, rfl, .inl ⟨e7, fun T H8 nT w8 eT => ?_⟩⟩
        refine qq T H8 ((s1.trans sM).trans (s7.trans w8)) ?_
        rw [sgn_tab]
        exact eT
end
end Lk
end
section
set_option maxRecDepth 100000
set_option maxHeartbeats 2000000
namespace Lk
open PySem PySem.Spec PyProof.Rows L2
section
variable {P : Program} {w : World} {K : PySem.W.Frag} {mg : Str → Option Value} {base : Heap}
abbrev NnIS : List Str := ["p", "thing", "number"]
theorem scN_isSign : FnScope NnIS ["p", "thing"] (defScope s_is_sign) := ⟨rfl, rfl, rfl, by decide +kernel, rfl, by decide +kernel, by decide +kernel⟩
theorem okN_isSign {f C : Addr} {fd : FuncData} (F : Fun K "is_sign" "is_sign" s_is_sign f fd) (cc : CalN P w K mg base 3 "refuse_no_count" (spCount C)) (cw : C8.Cal P w K mg base 2 "is_within" spWithin []) (mi : mg "isinstance" = none) (mt : mg "tuple" = none) (ml : mg "len" = none) (ma : mg "all" = none) (mu : mg "sum" = none) {tp : Tok} (mp : mg "MOST_PLACES" = some (.int 12 tp)) : FnOk P w K mg base (L2N.CX P w) 4 f fd ["p", "thing"] (spIsSign C) := by
  refine okN F scN_isSign (fun vs H Q E h => ?_) (fun cdv A outer s H vs Q E hr h => ?_)
  · obtain ⟨u, v, e, d, rfl, _⟩ := h
    rfl
  · obtain ⟨u, v, e, d, rfl, he, hv, q1, q⟩ := h
    have nd := scN_isSign.nd
    refine ⟨_, (pss_cons (by exact (ps_expr (pe_cN cc (L2N.takes_of rfl rfl rfl rfl) hr (by decide) rfl (pa_cons (pv 0) (pa_cons pe_int (pa_cons (pe_glob (v := .int 12) rfl mp ⟨_, rfl⟩) pa_nil))))))
      (pss_cons (by exact (ps_if (PW.pt (pw_or (pt_not (pt_val (pe_callB call_isi (by rfl) mi (by decide +kernel) (pa_cons (pv 1) (pa_cons (pe_bltn (v := .ty "tuple") (by rfl) mt (by decide +kernel) rfl) pa_nil))))) (pw_or1 (pt_cmpR op_ne (pe_callB call_len_seq (by rfl) ml PySem.boot_len (pa_cons (pv 1) pa_nil)) (pv 0) (nomark _))))) (pss_one (by exact (ps_ret pe_bl))) pss_nil))
      (pss_cons (by exact (ps_if (pt_not (pt_val (pe_callB (cr_all rfl) (by rfl) ma (by decide +kernel) (pa_cons (pe_lc (own := [("number", 2)]) (g := (gName 2)) (tt := tYes) rfl nd (pi_tup (pv 1)) (blkOk_by (N := NnIS) (sc := defScope s_is_sign) (by decide +kernel)) (fun _ _ _ _ _ => (pg_name (i := 2) nd rfl (Or.inl rfl))) (fun _ _ _ _ _ => pts_nil) (fun _ _ _ _ _ => (C8.pe_c cw hr (by decide) rfl (pa_cons (pv 2) (pa_cons pe_int (pa_cons (pe_op op_sub (pv 0) pe_int) pa_nil)))))) pa_nil)))) (pss_one (by exact (ps_ret pe_bl))) pss_nil))
      (pss_one (by exact (ps_ret (pe_and (pe_cmpR op_eq (pe_ix ix_tup (pv 1) pe_int (fun _ _ => rfl)) pe_int (nomark _)) (pe_one (pe_cmpR op_eq (pe_op op_mod (pe_op op_sub (pe_callB (cr_sumT rfl) (by rfl) mu (by decide +kernel) (pa_cons (pv 1) pa_nil)) pe_int) (pv 0)) pe_int (nomark _)))))))))), ?_⟩
    refine ⟨_, rfl, u, e, 1, 12, rfl, .inr (.inr (.inl ⟨rfl, rfl⟩)), he, fun hi => ?_, fun hi => q1 hi H (Same.refl _)⟩
    obtain ⟨p, rfl, p1, p12⟩ : ∃ p : Nat, e = .int (p : Int) ∧ 1 ≤ p ∧ p ≤ 12 := by
      cases e with
      | int i =>
        have z : (decide ((1 : Int) ≤ i) && decide (i ≤ 12)) = true := hi
        rw [Bool.and_eq_true, decide_eq_true_eq, decide_eq_true_eq] at z
        exact ⟨i.toNat, by rw [Int.toNat_of_nonneg (by omega)], by omega, by omega⟩
      | _ => cases hi
    have qq := q p rfl p1 p12
    clear q q1
    have eu : u = .int (p : Int) := by cases he; rfl
    subst eu
    refine ⟨_, rfl, v, .ty "tuple", _, _, isT d, rfl, .ty _, hv.ty, kit_tuple d, _, rfl, ?_⟩
    cases hT : isT d with
    | false =>
      refine qq false H ⟨fun z => (by cases z), fun z => ?_⟩ (Same.refl _)
      obtain ⟨t, rfl, _⟩ := z
      cases hT
    | true =>
      cases hv with
      | tup ea ma =>
        rename_i a xs ds
        have hlen := ma.length
        refine ⟨_, rfl, a, xs, rfl, .inr (SqT.of ea), _, rfl, rfl, _, rfl, ?_⟩
        by_cases hl : xs.length = p
        · refine ne_no (congrArg V.int (by omega)) ?_
          refine ⟨_, rfl, a, rfl, ⟨xs, SqT.of ea⟩, fun D nD => ?_⟩
          have ml2 : (ds.map fun x => inR x 0 ((p : Int) - 1)).length ≤ 100000 := by rw [List.length_map, ← hlen]; omega
          refine lc_it walk_tup (fun i H3 => Same H H3 ∧ H3 D = some (.lst (((ds.map fun x => inR x 0 ((p : Int) - 1)).take i).map V.bl))) ⟨same_new nD, upd_same⟩ (fun i H3 _ p => SqT.of (p.1 _ _ ea)) ?_ ?_
          · rintro i x H3 H4 hi ⟨s3, e3⟩ ⟨rfl, hx⟩
            obtain ⟨dx, hdx, tx⟩ := ma.get hx
            have hc : (ds.map fun x => inR x 0 ((p : Int) - 1))[i]? = some (inR dx 0 ((p : Int) - 1)) := by rw [List.getElem?_map, hdx]; rfl
            obtain ⟨acc, a1, a2, a3, a4⟩ := snoc_bl e3 hc ml2
            exact ⟨rfl, _, rfl, _, rfl, _, _, rfl, rfl, x, dx, 0, _, rfl, Th.same s3 dx tx, acc, a1, a2, same_push s3 nD, a3⟩
          · rintro H3 ⟨s3, e3⟩
            rw [show xs.length = (ds.map fun x => inR x 0 ((p : Int) - 1)).length by rw [List.length_map, hlen], List.take_length] at e3
            refine ⟨D, _, rfl, SqL.of e3, ?_⟩
            refine ⟨_, rfl, ?_⟩
            rw [List.all_map]
            cases hall : ds.all (id ∘ fun x => inR x 0 ((p : Int) - 1)) with
            | false =>
              refine qq false H3 ⟨fun z => (by cases z), fun z => ?_⟩ s3
              obtain ⟨t, et, l, b, _⟩ := z
              have e2 : ds = t.map dN := PyData.tuple.inj et
              have z2 : ds.all (id ∘ fun x => inR x 0 ((p : Int) - 1)) = true := by
                rw [List.all_eq_true]
                intro x hx
                rw [e2] at hx
                obtain ⟨y, hy, rfl⟩ := List.mem_map.mp hx
                have := b y hy
                show (decide ((0 : Int) ≤ (y : Int)) && decide ((y : Int) ≤ (p : Int) - 1)) = true
                rw [decide_eq_true (by omega), decide_eq_true (by omega)]
                rfl
              rw [hall] at z2
              cases z2
            | true =>
              have key : ∀ x ∈ ds, inR x 0 ((p : Int) - 1) = true := List.all_eq_true.mp hall
              obtain ⟨t, rfl⟩ := nats_of (ds := ds) (by
                rw [List.all_eq_true]
                intro x hx
                have z := key x hx
                cases x with
                | int i =>
                  have z2 : (decide ((0 : Int) ≤ i) && decide (i ≤ (p : Int) - 1)) = true := z
                  rw [Bool.and_eq_true, decide_eq_true_eq] at z2
                  exact decide_eq_true z2.1
                | _ => cases z)
              have ex := nat_ints ma
              subst ex
              rw [List.length_map] at hl
              have bd : ∀ x ∈ t, x < p := fun x hx => by
                have z := key _ (List.mem_map.mpr ⟨x, hx, rfl⟩)
                have z2 : (decide ((0 : Int) ≤ (x : Int)) && decide ((x : Int) ≤ (p : Int) - 1)) = true := z
                rw [Bool.and_eq_true, decide_eq_true_eq, decide_eq_true_eq] at z2
                omega
              have fin : ∀ b, (b = true ↔ (t.getD 0 0 = 0 ∧ t.sum % p = 1 % p)) → ∀ H', Same H3 H' → Q (.bl b) H' := fun b hb H' s4 => by
                refine qq b H' (hb.trans ⟨fun f => ⟨t, rfl, hl, bd, f.1, f.2⟩, fun z => ?_⟩) (Same.trans s3 s4)
                obtain ⟨t2, et, _, _, f⟩ := z
                rw [tD_inj (t := t) et]
                exact f
              have ea3 := s3 _ _ ea
              obtain ⟨ns, ens, hns⟩ := sum_vN t
              refine ⟨_, rfl, a, _, 0, _, rfl, rfl, SqT.of ea3, atI_nat (j := 0) (nat_at (by omega)), rfl, _, rfl, ?_⟩
              by_cases h0 : t.getD 0 0 = 0
              · refine ite2 (fun e => ?_) (fun e => absurd (by rw [h0]; rfl) e)
                refine ⟨_, rfl, a, ns, rfl, SqT.of (by rw [← ens]; exact ea3), _, _, rfl, rfl, _, rfl, _, _, rfl, rfl, (by omega), rfl, ?_⟩
                dsimp only
                rw [hns]
                refine fin _ (decide_eq_true_iff.trans ⟨fun e => ⟨h0, (sum_one p1 t.sum).mp (V.int.inj e)⟩, fun z => congrArg V.int ((sum_one p1 t.sum).mpr z.2)⟩) _ (Same.refl _)
              · refine ite2 (fun e => ?_) (fun e => ?_)
                · have e2 := of_decide_eq_true e
                  injection e2 with e3
                  omega
                · exact fin false ⟨fun z => (by cases z), fun z => absurd z.1 h0⟩ _ (Same.refl _)
        · refine ne_yes (fun z => hl (by injection z with z; omega)) ?_
          refine qq false H ⟨fun z => (by cases z), fun z => ?_⟩ (Same.refl _)
          obtain ⟨t, et, l, _⟩ := z
          have e2 : ds = t.map dN := PyData.tuple.inj et
          exact absurd (by rw [hlen, e2, List.length_map]; exact l) hl
      | _ => cases hT
end
end Lk
end
section
set_option maxRecDepth 100000
set_option maxHeartbeats 2000000
namespace Lk
open PySem PySem.Spec PyProof.Rows L2
/-- NoSign of what is none -/
def spRefSign (C1 C2 : Addr) : Sp := fun vs H Q E => ∃ (p : Nat) (v : V) (d : PyData), vs = [.int (p : Int), v] ∧ Th H v d ∧ 1 ≤ p ∧ p ≤ 12 ∧ (IsSg p d → ∀ H', Same H H' → Q .non H') ∧ (¬ IsSg p d → ∀ H', Same H H' → E (.ref C2) none H')
section
variable {P : Program} {w : World} {K : PySem.W.Frag} {mg : Str → Option Value} {base : Heap}
theorem scN_refSign : FnScope ["p", "sign"] ["p", "sign"] (defScope s_refuse_no_sign) := ⟨rfl, rfl, rfl, by decide +kernel, rfl, by decide +kernel, by decide +kernel⟩
theorem okN_refSign {f C1 C2 : Addr} {fd : FuncData} (F : Fun K "refuse_no_sign" "refuse_no_sign" s_refuse_no_sign f fd) (ci : CalN P w K mg base 4 "is_sign" (spIsSign C1)) (T : ErrC K mg "NoSign" C2) : FnOk P w K mg base (L2N.CX P w) 5 f fd ["p", "sign"] (spRefSign C1 C2) := by
  refine okN F scN_refSign (fun vs H Q E h => ?_) (fun cdv A outer s H vs Q E hr h => ?_)
  · obtain ⟨p, v, d, rfl, _⟩ := h
    rfl
  · obtain ⟨p, v, d, rfl, hv, p1, p12, q0, q1⟩ := h
    refine ⟨_, pss_one (by exact (ps_if (pt_not (pt_val (pe_cN ci (L2N.takes_of rfl rfl rfl rfl) hr (Nat.le_refl _) rfl (pa_cons (pv 0) (pa_cons (pv 1) pa_nil)))))
      (pss_one (L2N.ps_raise rfl (L2N.takes_of rfl rfl rfl rfl) (pmkN1 PySem.F.excBase_ValueError T.x T.g T.k (raises_own T.b T.t) rfl
        (pe_joined (.cons pe_str (.cons (pe_fmt (pv 0)) (.cons pe_str (.cons (pe_fmt (pv 0)) (.cons pe_str .nil))))))))) pss_nil)), ?_⟩
    refine ⟨_, rfl, _, rfl, ?_⟩
    dsimp only [tNil, List.append_nil]
    refine isg_of p1 p12 hv fun b H1 hb s1 => ⟨b, rfl, ?_⟩
    cases b with
    | true => exact q0 (hb.mp rfl) H1 s1
    | false =>
      have q4 := q1 (fun z => by cases hb.mpr z) H1 s1
      have cs : p = 1 ∨ p = 2 ∨ p = 3 ∨ p = 4 ∨ p = 5 ∨ p = 6 ∨ p = 7 ∨ p = 8 ∨ p = 9 ∨ p = 10 ∨ p = 11 ∨ p = 12 := by omega
      rcases cs with rfl | rfl | rfl | rfl | rfl | rfl | rfl | rfl | rfl | rfl | rfl | rfl <;>
      exact ⟨_, rfl, (by decide +kernel), _, rfl, .inr ⟨_, rfl, (by decide +kernel), _, rfl, (by decide +kernel), _, rfl, (by decide +kernel), _, rfl, .inr ⟨_, rfl, (by decide +kernel), _, rfl, (by decide +kernel), _, rfl, (by decide +kernel), q4⟩⟩⟩
end
end Lk
end
section
set_option maxRecDepth 100000
set_option maxHeartbeats 2000000
namespace Lk
open PySem PySem.Spec PyProof.Rows L2
section
variable {P : Program} {w : World} {K : PySem.W.Frag} {mg : Str → Option Value} {base : Heap}
theorem scN_unlike : FnScope ["coder", "other"] ["coder", "other"] (defScope s_refuse_unlike) := ⟨rfl, rfl, rfl, by decide +kernel, rfl, by decide +kernel, by decide +kernel⟩
theorem okN_unlike {f C1 C2 : Addr} {fd : FuncData} (F : Fun K "refuse_unlike" "refuse_unlike" s_refuse_unlike f fd) (cr : CalN P w K mg base 4 "refuse_no_coder" (spRefCoder C1)) (ml : mg "len" = none) (T : ErrC K mg "NotLike" C2) : FnOk P w K mg base (L2N.CX P w) 5 f fd ["coder", "other"] (spTwo C1 C2 toldNone) := by
  refine okN F scN_unlike (fun vs H Q E h => ?_) (fun cdv A outer s H vs Q E hr h => ?_)
  · obtain ⟨v, u, d, e, rfl, _⟩ := h
    rfl
  · obtain ⟨v, u, d, e, rfl, hv, hu, q1, q2, q3, q⟩ := h
    have nd := scN_unlike.nd
    refine ⟨_, (pss_cons (by exact (ps_expr (pe_cN cr (L2N.takes_of rfl rfl rfl rfl) hr (by decide) rfl (pa_cons (pv 0) pa_nil))))
      (pss_cons (by exact (ps_expr (pe_cN cr (L2N.takes_of rfl rfl rfl rfl) hr (by decide) rfl (pa_cons (pv 1) pa_nil))))
      (pss_one (by exact (ps_if (pt_cmpR op_ne (pe_callB call_len_seq (by rfl) ml PySem.boot_len (pa_cons (pe_ix ix_tup (pv 0) pe_int (fun _ _ => rfl)) pa_nil)) (pe_callB call_len_seq (by rfl) ml PySem.boot_len (pa_cons (pe_ix ix_tup (pv 1) pe_int (fun _ _ => rfl)) pa_nil)) (nomark _)) (pss_one (by exact (L2N.ps_raise rfl (L2N.takes_of rfl rfl rfl rfl) (L2N.pmk_own PySem.F.excBase_ValueError T.x T.g T.k (raises_own T.b T.t) rfl)))) pss_nil))))), ?_⟩
    refine ⟨_, rfl, v, d, rfl, hv, fun hd H1 s1 => ?_, fun hd H1 s1 => q1 hd H1 s1⟩
    refine ⟨_, rfl, u, e, rfl, Th.same s1 _ hu, fun he H2 s2 => ?_, fun he H2 s2 => q2 hd he H2 (s1.trans s2)⟩
    obtain ⟨c, rfl, hc⟩ := isCd_of hd
    obtain ⟨c2, rfl, hc2⟩ := isCd_of he
    have s12 : Same H H2 := s1.trans s2
    obtain ⟨a, b, rfl, ha, hb⟩ := (Th.same s12 _ hv).cat
    obtain ⟨a2, b2, rfl, ha2, hb2⟩ := (Th.same s12 _ hu).cat
    refine ⟨_, rfl, a, _, 1, _, rfl, rfl, SqT.of ha, rfl, b, _, rfl, .inr (SqT.of hb), _, rfl, a2, _, 1, _, rfl, rfl, SqT.of ha2, rfl, b2, _, rfl, .inr (SqT.of hb2), rfl, _, rfl, ?_⟩
    rw [List.length_map, List.length_map]
    by_cases l : c.2.length = c2.2.length
    · refine ne_no (congrArg V.int (by omega)) ?_
      exact q c c2 rfl hc rfl hc2 l H2 s12
    · refine ne_yes (fun z => l (by injection z with z; omega)) ?_
      exact q3 c c2 rfl hc rfl hc2 l H2 s12
end
end Lk
end
section
set_option maxRecDepth 100000
set_option maxHeartbeats 2000000
namespace Lk
open PySem PySem.Spec PyProof.Rows L2
section
variable {P : Program} {w : World} {K : PySem.W.Frag} {mg : Str → Option Value} {base : Heap}
theorem scN_oneRound : FnScope ["coder", "other"] ["coder", "other"] (defScope s_one_round) := ⟨rfl, rfl, rfl, by decide +kernel, rfl, by decide +kernel, by decide +kernel⟩
theorem okN_oneRound {f C1 C2 : Addr} {fd : FuncData} (F : Fun K "one_round" "one_round" s_one_round f fd) (cr : CalN P w K mg base 5 "refuse_unlike" (spTwo C1 C2 toldNone)) (cs : CalN P w K mg base 5 "sign_of" (spOne C1 toldSign)) : FnOk P w K mg base (L2N.CX P w) 6 f fd ["coder", "other"] (spTwo C1 C2 toldOne) := by
  refine okN F scN_oneRound (fun vs H Q E h => ?_) (fun cdv A outer s H vs Q E hr h => ?_)
  · obtain ⟨v, u, d, e, rfl, _⟩ := h
    rfl
  · obtain ⟨v, u, d, e, rfl, hv, hu, q1, q2, q3, q⟩ := h
    have nd := scN_oneRound.nd
    have hu0 := hr.un
    have hu64 : (A.deeper (envOfC "one_round" (defScope s_one_round) s.heap.objs.size f cdv)).units + 64 < cLine := by omega
    refine ⟨_, (pss_cons (by exact (ps_expr (pe_cN cr (L2N.takes_of rfl rfl rfl rfl) hr (by decide) rfl (pa_cons (pv 0) (pa_cons (pv 1) pa_nil)))))
      (pss_one (by exact (ps_ret (pe_cmpR (op_eqD hu64) (pe_cN cs (L2N.takes_of rfl rfl rfl rfl) hr (by decide) rfl (pa_cons (pv 0) pa_nil)) (pe_cN cs (L2N.takes_of rfl rfl rfl rfl) hr (by decide) rfl (pa_cons (pv 1) pa_nil)) (nomark _)))))), ?_⟩
    refine ⟨_, rfl, _, rfl, v, u, d, e, rfl, hv, hu, q1, q2, q3, fun c c2 ec hc ec2 hc2 l => fun H1 s1 => ?_⟩
    subst ec ec2
    have c1 := (Th.same s1 _ hv).cat
    have c12 := (Th.same s1 _ hu).cat
    refine ⟨_, rfl, sg_of c1 hc fun p1 H2 s2 e2 => ?_⟩
    refine ⟨_, rfl, sg_of (c12.same s2) hc2 fun p3 H3 s3 e3 => ?_⟩
    refine ⟨tD (sgn c), tD (sgn c2), Th.dp _ (lay_tD _) (th_tD (s3 _ _ e2)), Th.dp _ (lay_tD _) (th_tD e3), shaped_tD _, shaped_tD _, ?_⟩
    rw [eqv_tD]
    exact q c c2 rfl hc rfl hc2 l _ H3 decide_eq_true_iff ((s1.trans s2).trans s3)
end
end Lk
end
section
/-! What signs tell of rounds: mathematics. -/
namespace Lk
theorem endsI_eq (c : Cd) (k : Nat) : endsI c.2 k = sumR c.2.length fun b => (cnt c.2.length b k (len c b) : Int) := rfl
theorem num_nx {c : Cd} (h : COk c) (k : Nat) : num (nx c) k = num c k := by
  unfold num
  rw [endsI_eq, endsI_eq, nx_len]
  have e : sumR c.2.length (fun b => (cnt c.2.length b k (len (nx c) b) : Int)) = sumR c.2.length (fun b => (cnt c.2.length b k (len c b) : Int) + (if b = c.1 then (if k = (nx c).1 then 1 else 0) else 0)) := sumR_congr fun b _ => by
    by_cases g : b = c.1
    · subst g
      rw [len_nx_same h, if_pos rfl]
      show ((cnt c.2.length c.1 k (len c c.1) + (if (c.1 + (len c c.1 + 1)) % c.2.length = k then 1 else 0) : Nat) : Int) = _
      by_cases g2 : k = (nx c).1
      · rw [if_pos g2, if_pos (show (c.1 + (len c c.1 + 1)) % c.2.length = k from g2.symm)]
        rfl
      · rw [if_neg g2, if_neg (show ¬ (c.1 + (len c c.1 + 1)) % c.2.length = k from fun z => g2 z.symm)]
        rfl
    · rw [len_nx_ne g, if_neg g]
      omega
  rw [e, sumR_add, sumR_one h]
  by_cases g : k = c.1
  · subst g
    rw [len_nx_same h, if_pos rfl]
    push_cast
    omega
  · rw [len_nx_ne g, if_neg g]
    omega
theorem num_it : ∀ (n : Nat) {c : Cd}, COk c → ∀ k, num (it n c) k = num c k
  | 0, _, _, _ => rfl
  | n + 1, _, h, k => (num_it n (nx_ok h) k).trans (num_nx h k)
theorem sgn_of_num {c d : Cd} (l : c.2.length = d.2.length) (h : ∀ k, k < c.2.length → (num c k - num c 0) % (c.2.length : Int) = (num d k - num d 0) % (c.2.length : Int)) : sgn c = sgn d := by
  unfold sgn
  rw [← l]
  exact List.map_congr_left fun k hk => by rw [h k (List.mem_range.mp hk)]
theorem sgn_it (n : Nat) {c : Cd} (h : COk c) : sgn (it n c) = sgn c :=
  sgn_of_num (it_len n) fun k _ => by rw [num_it n h, num_it n h]
theorem sgn_num {c d : Cd} (l : c.2.length = d.2.length) (e : sgn c = sgn d) {k : Nat} (hk : k < c.2.length) : (num c k - num c 0) % (c.2.length : Int) = (num d k - num d 0) % (c.2.length : Int) := by
  have h1 := sgn_at hk
  rw [e, sgn_at (l ▸ hk)] at h1
  have h2 := Option.some.inj h1
  rw [← l] at h2
  have p1 := Int.emod_nonneg (num c k - num c 0) (show (c.2.length : Int) ≠ 0 by omega)
  have p2 := Int.emod_nonneg (num d k - num d 0) (show (c.2.length : Int) ≠ 0 by omega)
  omega
theorem cnt_add (p b k m : Nat) (hb : b < p) (hk : k < p) (L : Nat) : (cnt p b k (L + p * m) : Int) = (cnt p b k L : Int) + m := by
  rw [← cnt_way hb hk, ← cnt_way hb hk]
  have e : ((L + p * m : Nat) : Int) - wayOf p b k = ((L : Int) - wayOf p b k) + (p : Int) * (m : Int) := by
    push_cast
    omega
  rw [e, Int.add_mul_ediv_left _ _ (by omega)]
  omega
theorem num_more {c d : Cd} (l : d.2.length = c.2.length) (e1 : d.1 = c.1) {m : Nat → Nat} (h : ∀ k, k < c.2.length → len d k = len c k + c.2.length * m k) {k : Nat} (hk : k < c.2.length) :
    num d k = num c k + (c.2.length : Int) * m k - sumR c.2.length fun b => (m b : Int) := by
  unfold num
  rw [endsI_eq, endsI_eq, l, e1]
  have e : sumR c.2.length (fun b => (cnt c.2.length b k (len d b) : Int)) = sumR c.2.length (fun b => (cnt c.2.length b k (len c b) : Int) + (m b : Int)) := sumR_congr fun b hb => by
    rw [h b hb, cnt_add _ _ _ _ hb hk]
  rw [e, sumR_add, h k hk]
  push_cast
  omega
theorem sgn_more {c d : Cd} (l : d.2.length = c.2.length) (e1 : d.1 = c.1) {m : Nat → Nat} (h : ∀ k, k < c.2.length → len d k = len c k + c.2.length * m k) : sgn d = sgn c := by
  refine (sgn_of_num l.symm fun k hk => ?_).symm
  rw [num_more l e1 h hk, num_more l e1 h (Nat.lt_of_le_of_lt (Nat.zero_le _) hk)]
  rw [show num c k + (c.2.length : Int) * m k - sumR c.2.length (fun b => (m b : Int)) - (num c 0 + (c.2.length : Int) * m 0 - sumR c.2.length fun b => (m b : Int)) = (num c k - num c 0) + (c.2.length : Int) * ((m k : Int) - m 0) by
    rw [Int.mul_sub]
    omega]
  rw [Int.add_mul_emod_self_left]
/-- the lengths modulo the places -/
def bs (c : Cd) : Cd := (c.1, c.2.map (· % c.2.length))
theorem bs_len (c : Cd) : (bs c).2.length = c.2.length := List.length_map _
theorem bs_at {c : Cd} {k : Nat} (h : k < c.2.length) : len (bs c) k = len c k % c.2.length := by
  show (c.2.map (· % c.2.length)).getD k 0 = c.2.getD k 0 % c.2.length
  rw [List.getD_eq_getElem?_getD, List.getElem?_map, List.getD_eq_getElem?_getD, List.getElem?_eq_getElem h]
  rfl
theorem sgn_bs (c : Cd) : sgn (bs c) = sgn c := by
  refine (sgn_more (c := bs c) (d := c) (bs_len c).symm rfl (m := fun k => len c k / c.2.length) fun k hk => ?_).symm
  rw [bs_len] at hk ⊢
  rw [bs_at hk, Nat.add_comm, Nat.div_add_mod]
theorem ext_len {c d : Cd} (l : c.2.length = d.2.length) (e1 : c.1 = d.1) (h : ∀ k, k < c.2.length → len c k = len d k) : c = d := by
  refine Prod.ext e1 (List.ext_getElem l fun k h1 h2 => ?_)
  have z := h k h1
  unfold len at z
  rw [List.getD_eq_getElem?_getD, List.getD_eq_getElem?_getD, List.getElem?_eq_getElem h1, List.getElem?_eq_getElem h2] at z
  exact z
theorem sgn_cong {c d : Cd} (l : c.2.length = d.2.length) (e1 : c.1 = d.1) (h : ∀ k, k < c.2.length → len c k % c.2.length = len d k % c.2.length) : sgn c = sgn d := by
  rw [← sgn_bs c, ← sgn_bs d]
  refine congrArg sgn (ext_len (by rw [bs_len, bs_len, l]) e1 fun k hk => ?_)
  rw [bs_len] at hk
  rw [bs_at hk, bs_at (l ▸ hk), h k hk, l]
theorem go_cong {c d : Cd} (l : c.2.length = d.2.length) {k : Nat} (h : len c k % c.2.length = len d k % c.2.length) : go c k = go d k := by
  unfold go
  rw [← l, Nat.add_mod, h, ← Nat.add_mod]
theorem gon_cong {c d : Cd} (hc : COk c) (l : c.2.length = d.2.length) (h : ∀ k, k < c.2.length → len c k % c.2.length = len d k % c.2.length) : ∀ (n i : Nat), i < c.2.length → gon c n i = gon d n i
  | 0, _, _ => rfl
  | n + 1, i, hi => by
    show gon c n (go c i) = gon d n (go d i)
    rw [← go_cong l (h i hi)]
    exact gon_cong hc l h n _ (Nat.mod_lt _ (Nat.lt_of_le_of_lt (Nat.zero_le _) hc))
theorem free_cong {c d : Cd} (hc : COk c) (l : c.2.length = d.2.length) (e1 : c.1 = d.1) (h : ∀ k, k < c.2.length → len c k % c.2.length = len d k % c.2.length) (f : Free c) : Free d := fun i hi => by
  obtain ⟨k, e⟩ := f i (l ▸ hi)
  exact ⟨k, by rw [← gon_cong hc l h k i (l ▸ hi), e, e1]⟩
theorem cnt_mono (p b k : Nat) {L M : Nat} (h : L ≤ M) : cnt p b k L ≤ cnt p b k M := by
  induction h with
  | refl => exact Nat.le_refl _
  | step _ ih => exact Nat.le_trans ih (Nat.le_add_right _ _)
theorem cnt_lt {p b k L M : Nat} (h : L < M) (e : (b + M) % p = k) : cnt p b k L < cnt p b k M := by
  obtain ⟨m, rfl⟩ : ∃ m, M = m + 1 := ⟨M - 1, by omega⟩
  have z := cnt_mono p b k (show L ≤ m by omega)
  show _ < cnt p b k m + (if (b + (m + 1)) % p = k then 1 else 0)
  rw [if_pos e]
  omega
theorem sumR_le {p : Nat} {f g : Nat → Int} (h : ∀ k, k < p → f k ≤ g k) : sumR p f ≤ sumR p g := by
  induction p with
  | zero => exact Int.le_refl _
  | succ p ih =>
    rw [sumR_succ, sumR_succ]
    have a := ih fun k hk => h k (by omega)
    have b := h p (by omega)
    omega
theorem sumR_lt {p : Nat} {f g : Nat → Int} (h : ∀ k, k < p → f k ≤ g k) {j : Nat} (hj : j < p) (l : f j < g j) : sumR p f < sumR p g := by
  induction p with
  | zero => omega
  | succ p ih =>
    rw [sumR_succ, sumR_succ]
    by_cases e : j = p
    · subst e
      have a := sumR_le (p := j) fun k hk => h k (by omega)
      omega
    · have a := ih (fun k hk => h k (by omega)) (by omega)
      have b := h p (by omega)
      omega
theorem ends_le {x d : Cd} (l : d.2.length = x.2.length) (h : ∀ i, i < x.2.length → len x i ≤ len d i) (k : Nat) : endsI x.2 k ≤ endsI d.2 k := by
  rw [endsI_eq, endsI_eq, l]
  exact sumR_le fun b hb => Int.ofNat_le.mpr (cnt_mono _ _ _ (h b hb))
theorem ends_lt {x d : Cd} (l : d.2.length = x.2.length) (h : ∀ i, i < x.2.length → len x i ≤ len d i) {b : Nat} (hb : b < x.2.length) (hl : len x b < len d b) : endsI x.2 (go d b) < endsI d.2 (go d b) := by
  rw [endsI_eq, endsI_eq, l]
  exact sumR_lt (fun b hb => Int.ofNat_le.mpr (cnt_mono _ _ _ (h b hb))) hb (Int.ofNat_lt.mpr (cnt_lt hl (by unfold go; rw [l])))
/-- who is home with last goings that lead there has been walked to, where all that was counted is the same -/
theorem best : ∀ (n : Nat) {x d : Cd}, COk x → d.2.length = x.2.length → COk d → Free d → (∀ i, i < x.2.length → len x i ≤ len d i) → (∀ k, k < x.2.length → num x k = num d k) → d.2.sum = x.2.sum + n → d = it n x
  | 0, x, d, hx, l, hd, fr, le, nu, sm => by
    have eq : ∀ i, i < x.2.length → len x i = len d i := by
      refine S_eq x.2.length le ?_
      have a := S_getD x.2
      have b := S_getD d.2
      rw [l] at b
      show S x.2.length (fun i => x.2.getD i 0) = S x.2.length (fun i => d.2.getD i 0)
      omega
    have e1 : ((0, d.2) : Cd) = ((0, x.2) : Cd) := ext_len (c := (0, d.2)) (d := (0, x.2)) l rfl fun k hk => (eq k (l ▸ hk)).symm
    have e2' := congrArg Prod.snd e1
    have e2 : d.2 = x.2 := e2'
    have z := nu x.1 hx
    unfold num at z
    rw [if_pos rfl, e2, eq x.1 hx] at z
    by_cases g : x.1 = d.1
    · exact Prod.ext g.symm e2
    · rw [if_neg g] at z
      omega
  | n + 1, x, d, hx, l, hd, fr, le, nu, sm => by
    have key : len x x.1 < len d x.1 := by
      refine Nat.lt_of_not_le fun no => ?_
      have eqx : len x x.1 = len d x.1 := Nat.le_antisymm (le _ hx) no
      have z := nu x.1 hx
      have zl := ends_le l le x.1
      unfold num at z
      rw [if_pos rfl, eqx] at z
      have home : x.1 = d.1 := by
        by_cases g : x.1 = d.1
        · exact g
        · rw [if_neg g] at z
          omega
      rw [if_pos home] at z
      have ends0 : endsI x.2 x.1 = endsI d.2 x.1 := by omega
      obtain ⟨b, hb, hlb⟩ : ∃ b, b < x.2.length ∧ len x b < len d b := by
        refine Classical.byContradiction fun q => ?_
        have all : ∀ b, b < x.2.length → len d b ≤ len x b := fun b hb => Nat.le_of_not_lt fun z => q ⟨b, hb, z⟩
        have a := S_getD x.2
        have c := S_getD d.2
        rw [l] at c
        have m := S_mono x.2.length (f := fun i => d.2.getD i 0) (g := fun i => x.2.getD i 0) all
        omega
      have walk : ∀ (m b : Nat), b < x.2.length → len x b < len d b → gon d m b = d.1 → False := by
        intro m
        induction m with
        | zero =>
          intro b hb hlb e
          have e2 : b = x.1 := e.trans home.symm
          rw [e2] at hlb
          omega
        | succ m ih =>
          intro b hb hlb e
          have e2 : gon d m (go d b) = d.1 := e
          have hv : go d b < x.2.length := by
            rw [← l]
            exact Nat.mod_lt _ (Nat.lt_of_le_of_lt (Nat.zero_le _) hd)
          have lt := ends_lt l le hb hlb
          by_cases g : go d b = x.1
          · rw [g] at lt
            omega
          · refine ih _ hv ?_ e2
            have z2 := nu _ hv
            unfold num at z2
            rw [if_neg g, if_neg (fun y => g (y.trans home.symm))] at z2
            omega
      obtain ⟨m, e⟩ := fr b (l ▸ hb)
      exact walk m b hb hlb e
    refine best n (nx_ok hx) (l.trans nx_len.symm) hd fr (fun i hi => ?_) (fun k hk => ?_) ?_
    · rw [nx_len] at hi
      by_cases g : i = x.1
      · rw [g, len_nx_same hx]
        exact key
      · rw [len_nx_ne g]
        exact le i hi
    · rw [nx_len] at hk
      rw [num_nx hx]
      exact nu k hk
    · rw [sum_nx hx]
      omega
/-- one sign: the one comes to the other's place, lengths alike modulo the places -/
theorem sgn_best {c d : Cd} (hc : COk c) (hd : COk d) (l : d.2.length = c.2.length) (fr : Free d) (e : sgn c = sgn d) :
    ∃ n d', it n c = d' ∧ d'.2.length = d.2.length ∧ d'.1 = d.1 ∧ ∀ k, k < d.2.length → len d k ≤ len d' k ∧ len d' k % d.2.length = len d k % d.2.length := by
  have hp : 0 < c.2.length := Nat.lt_of_le_of_lt (Nat.zero_le _) hc
  have dv : ∀ k, k < c.2.length → ∃ q : Int, (num d k - num d 0) - (num c k - num c 0) = (c.2.length : Int) * q := fun k hk => by
    have z := sgn_num l.symm e hk
    exact Int.dvd_of_emod_eq_zero (by rw [Int.sub_emod, z, Int.sub_self, Int.zero_emod])
  obtain ⟨q, hq⟩ : ∃ q : Nat → Int, ∀ k, k < c.2.length → (num d k - num d 0) - (num c k - num c 0) = (c.2.length : Int) * q k := by
    refine ⟨fun k => ((num d k - num d 0) - (num c k - num c 0)) / (c.2.length : Int), fun k hk => ?_⟩
    obtain ⟨y, hy⟩ := dv k hk
    rw [hy]
    show (c.2.length : Int) * y = (c.2.length : Int) * (((num d k - num d 0) - (num c k - num c 0)) / (c.2.length : Int))
    rw [hy, Int.mul_ediv_cancel_left _ (by omega)]
  have sq : (c.2.length : Int) * (num d 0 - num c 0) + (c.2.length : Int) * sumR c.2.length q = 0 := by
    have s1 := num_sum hc
    have s2 := num_sum hd
    rw [l] at s2
    have s3 : sumR c.2.length (fun k => (c.2.length : Int) * q k) = sumR c.2.length (fun k => (num d k - num c k) - (num d 0 - num c 0)) := sumR_congr fun k hk => by
      have := hq k hk
      omega
    have s4 : sumR c.2.length (fun k => (num d k - num c k) - (num d 0 - num c 0)) = sumR c.2.length (num d) - sumR c.2.length (num c) - (c.2.length : Int) * (num d 0 - num c 0) := by
      rw [sumR_sub c.2.length (fun k => num d k - num c k) (fun _ => num d 0 - num c 0), sumR_const]
      have : sumR c.2.length (fun k => num d k - num c k) = sumR c.2.length (num d) - sumR c.2.length (num c) := sumR_sub _ _ _
      rw [this]
    have s5 : ∀ p : Nat, sumR p (fun k => (c.2.length : Int) * q k) = (c.2.length : Int) * sumR p q := fun p => by
      induction p with
      | zero => rw [sumR_zero, sumR_zero, Int.mul_zero]
      | succ p ih => rw [sumR_succ, sumR_succ, ih, Int.mul_add]
    rw [s5, s4, s1, s2] at s3
    omega
  have sq2 : num d 0 - num c 0 = - sumR c.2.length q := by
    have z : (c.2.length : Int) * ((num d 0 - num c 0) + sumR c.2.length q) = 0 := by rw [Int.mul_add]; exact sq
    rcases Int.mul_eq_zero.mp z with h | h
    · omega
    · omega
  obtain ⟨f0, hf0⟩ : ∃ f0 : Int, ∀ k, k < c.2.length → q k + (len c k : Int) ≤ f0 := by
    have ex : ∀ p : Nat, ∃ f0 : Int, ∀ k, k < p → q k + (len c k : Int) ≤ f0 := fun p => by
      induction p with
      | zero => exact ⟨0, fun k hk => absurd hk (Nat.not_lt_zero k)⟩
      | succ p ih =>
        obtain ⟨f, hf⟩ := ih
        refine ⟨max f (q p + (len c p : Int)), fun k hk => ?_⟩
        by_cases g : k = p
        · rw [g]
          exact Int.le_max_right _ _
        · exact Int.le_trans (hf k (by omega)) (Int.le_max_left _ _)
    exact ex _
  have hm : ∀ k, k < c.2.length → (((f0 - q k).toNat : Nat) : Int) = f0 - q k := fun k hk => Int.toNat_of_nonneg (by have := hf0 k hk; omega)
  let d' : Cd := (d.1, (List.range c.2.length).map fun k => len d k + c.2.length * (f0 - q k).toNat)
  have ld : d'.2.length = c.2.length := by
    show ((List.range c.2.length).map _).length = _
    rw [List.length_map, List.length_range]
  have ad : ∀ k, k < c.2.length → len d' k = len d k + c.2.length * (f0 - q k).toNat := fun k hk => by
    show ((List.range c.2.length).map _).getD k 0 = _
    rw [List.getD_eq_getElem?_getD, List.getElem?_map, List.getElem?_range hk]
    rfl
  have cg : ∀ k, k < d.2.length → len d k % d.2.length = len d' k % d.2.length := fun k hk => by
    rw [ad k (l ▸ hk), l, Nat.add_mul_mod_self_left]
  have hd' : COk d' := by
    show d.1 < d'.2.length
    rw [ld, ← l]
    exact hd
  have fr' : Free d' := free_cong hd (l.trans ld.symm) rfl cg fr
  have le : ∀ i, i < c.2.length → len c i ≤ len d' i := fun i hi => by
    rw [ad i hi]
    have z := hf0 i hi
    have z2 := hm i hi
    have z3 : (f0 - q i).toNat ≤ c.2.length * (f0 - q i).toNat := Nat.le_mul_of_pos_left _ hp
    omega
  have nu : ∀ k, k < c.2.length → num c k = num d' k := fun k hk => by
    have z := num_more (c := d) (d := d') (ld.trans l.symm) rfl (m := fun k => (f0 - q k).toNat) (fun k hk => by rw [l]; exact ad k (l ▸ hk)) (k := k) (by rw [l]; exact hk)
    rw [l] at z
    have z2 : sumR c.2.length (fun b => (((f0 - q b).toNat : Nat) : Int)) = (c.2.length : Int) * f0 - sumR c.2.length q := by
      rw [sumR_congr (g := fun b => f0 - q b) fun b hb => hm b hb, sumR_sub c.2.length (fun _ => f0) q, sumR_const]
    rw [z2, hm k hk, Int.mul_sub] at z
    have z3 := hq k hk
    omega
  have ls : c.2.sum ≤ d'.2.sum := sum_le ld.symm fun i hi => le i (ld ▸ hi)
  refine ⟨d'.2.sum - c.2.sum, d', (best (d'.2.sum - c.2.sum) hc ld hd' fr' le nu (by omega)).symm, ld.trans l.symm, rfl, fun k hk => ⟨?_, (cg k hk).symm⟩⟩
  rw [ad k (l ▸ hk)]
  exact Nat.le_add_right _ _
end Lk
end
section
/-! Steps between coders in one round: mathematics. -/
namespace Lk
/-- at one place, lengths alike modulo the places -/
def Cong (x d : Cd) : Prop := x.1 = d.1 ∧ ∀ k, k < d.2.length → len x k % d.2.length = len d k % d.2.length
theorem Cong.symm {x d : Cd} (l : x.2.length = d.2.length) (h : Cong x d) : Cong d x := ⟨h.1.symm, fun k hk => by rw [l] at hk ⊢; exact (h.2 k hk).symm⟩
theorem Cong.trans {x y z : Cd} (l : y.2.length = z.2.length) (a : Cong x y) (b : Cong y z) : Cong x z := ⟨a.1.trans b.1, fun k hk => by
  have z1 := a.2 k (l ▸ hk)
  rw [l] at z1
  exact z1.trans (b.2 k hk)⟩
theorem Cong.refl (x : Cd) : Cong x x := ⟨rfl, fun _ _ => rfl⟩
theorem cong_nx {x y : Cd} (l : x.2.length = y.2.length) (hx : COk x) (hy : COk y) (h : Cong x y) : Cong (nx x) (nx y) := by
  have e := h.1
  have hl := h.2 y.1 hy
  refine ⟨?_, fun k hk => ?_⟩
  · show (x.1 + (len x x.1 + 1)) % x.2.length = (y.1 + (len y y.1 + 1)) % y.2.length
    rw [e, l, show y.1 + (len x y.1 + 1) = len x y.1 + (y.1 + 1) by omega, show y.1 + (len y y.1 + 1) = len y y.1 + (y.1 + 1) by omega, Nat.add_mod, hl, ← Nat.add_mod]
  · rw [nx_len] at hk ⊢
    by_cases g : k = y.1
    · subst g
      have z : len (nx x) y.1 = len x y.1 + 1 := by rw [← e]; exact len_nx_same hx
      rw [z, len_nx_same hy, Nat.add_mod, hl, ← Nat.add_mod]
    · rw [len_nx_ne g, len_nx_ne (fun z => g (z.trans e))]
      exact h.2 k hk
theorem cong_it : ∀ (n : Nat) {x y : Cd}, x.2.length = y.2.length → COk x → COk y → Cong x y → Cong (it n x) (it n y)
  | 0, _, _, _, _, _, h => h
  | n + 1, _, _, l, hx, hy, h => cong_it n (by rw [nx_len, nx_len, l]) (nx_ok hx) (nx_ok hy) (cong_nx l hx hy h)
theorem cong_rounds {c : Cd} (h : COk c) (f : Free c) (q : Nat) : Cong (it (q * (c.2.length * c.2.length)) c) c := by
  rw [it_rounds h f q]
  refine ⟨rfl, fun k hk => ?_⟩
  show ((c.2.map (· + q * c.2.length)).getD k 0) % c.2.length = _
  rw [getD_map_add _ _ hk, Nat.add_mul_mod_self_right]
  rfl
theorem no_sooner {X : Cd} (h : COk X) (f : Free X) {d : Nat} (h0 : 0 < d) (h1 : d < X.2.length * X.2.length) (e : Cong (it d X) X) : False := by
  have hp : 0 < X.2.length := Nat.lt_of_le_of_lt (Nat.zero_le _) h
  have bd : Bd X d := bd_all h f d (Nat.le_of_lt h1)
  have more : len X X.1 + 1 ≤ len (it d X) X.1 := by
    have a := len_nx_same h
    have b := len_mono (d - 1) X.1 (nx_ok h)
    have e3 : it (d - 1) (nx X) = it d X := by
      show it ((d - 1) + 1) X = it d X
      rw [show d - 1 + 1 = d by omega]
    rw [e3] at b
    omega
  have le := bd X.1 h
  have cg := e.2 X.1 h
  have full : len (it d X) X.1 = len X X.1 + X.2.length := by
    obtain ⟨k, hk⟩ : ∃ k, len (it d X) X.1 = len X X.1 + k := ⟨len (it d X) X.1 - len X X.1, by omega⟩
    rw [hk] at cg le more ⊢
    have z := mod_ne cg (by omega)
    omega
  have all := all_full h f bd e.1 full
  have s1 := sum_it d h
  have s2 : (it d X).2.sum = X.2.sum + X.2.length * X.2.length := by
    have a := sum_S (c := X) d
    have b : S X.2.length (fun i => len (it d X) i) = S X.2.length (fun i => len X i + X.2.length) := S_congr _ fun i hi => all i hi
    rw [a, b, S_add, S_const]
    have c := S_getD X.2
    show S X.2.length (fun i => X.2.getD i 0) + _ = _
    rw [c]
  omega
theorem btw_unique {c d : Cd} (h : COk c) (f : Free c) (ld : d.2.length = c.2.length) {n m : Nat} (hn : n < c.2.length * c.2.length) (hm : m < c.2.length * c.2.length) (a : Cong (it n c) d) (b : Cong (it m c) d) : n = m := by
  have key : ∀ n m : Nat, n < m → m < c.2.length * c.2.length → Cong (it n c) d → Cong (it m c) d → False := fun n m l hm a b => by
    refine no_sooner (it_ok n h) (free_it n h f) (d := m - n) (by omega) (by rw [it_len]; omega) ?_
    rw [← it_add, show n + (m - n) = m by omega]
    exact b.trans (by rw [it_len]; exact ld) (a.symm (by rw [it_len]; exact ld.symm))
  rcases Nat.lt_trichotomy n m with l | l | l
  · exact (key n m l hm a b).elim
  · exact l
  · exact (key m n l hn b a).elim
def Btw (c d : Cd) : Option Nat → Prop
  | some n => n < c.2.length * c.2.length ∧ Cong (it n c) d
  | none => ∀ n, n < c.2.length * c.2.length → ¬ Cong (it n c) d
theorem btw_one {c d : Cd} (h : COk c) (f : Free c) (ld : d.2.length = c.2.length) : ∀ {r q : Option Nat}, Btw c d r → Btw c d q → r = q
  | some n, some m, a, b => congrArg some (btw_unique h f ld a.1 b.1 a.2 b.2)
  | some n, none, a, b => absurd a.2 (b n a.1)
  | none, some m, a, b => absurd b.2 (a m b.1)
  | none, none, _, _ => rfl
theorem btw_sign {c d : Cd} (hc : COk c) (hd : COk d) (l : d.2.length = c.2.length) (fc : Free c) (fd : Free d) {r : Option Nat} (b : Btw c d r) : sgn c = sgn d ↔ r ≠ none := by
  have hp : 0 < c.2.length := Nat.lt_of_le_of_lt (Nat.zero_le _) hc
  have hqp : 0 < c.2.length * c.2.length := Nat.mul_pos hp hp
  constructor
  · rintro e rfl
    obtain ⟨n, d', hn, ld, h1, hl⟩ := sgn_best hc hd l fd e
    have cg : Cong (it n c) d := by rw [hn]; exact ⟨h1, fun k hk => (hl k hk).2⟩
    have sp : n % (c.2.length * c.2.length) + n / (c.2.length * c.2.length) * (c.2.length * c.2.length) = n := by rw [Nat.mul_comm (n / _)]; exact Nat.mod_add_div _ _
    generalize n % (c.2.length * c.2.length) = r at sp
    have hr : n - n / (c.2.length * c.2.length) * (c.2.length * c.2.length) = r := by omega
    have hr2 : r < c.2.length * c.2.length := by
      rw [← hr, Nat.mul_comm (n / _)]
      have := Nat.mod_add_div n (c.2.length * c.2.length)
      have := Nat.mod_lt n hqp
      omega
    refine b r hr2 ?_
    have z := cong_rounds (it_ok r hc) (free_it r hc fc) (n / (c.2.length * c.2.length))
    rw [it_len, ← it_add, sp] at z
    exact (z.symm (by rw [it_len, it_len])).trans (by rw [it_len]; exact l.symm) cg
  · intro ne
    cases r with
    | none => exact absurd rfl ne
    | some n =>
      rw [← sgn_it n hc]
      refine sgn_cong (by rw [it_len]; exact l.symm) b.2.1 fun k hk => ?_
      rw [it_len] at hk ⊢
      have z := b.2.2 k (l ▸ hk)
      rw [l] at z
      exact z
theorem btw_back {c d : Cd} (hc : COk c) (hd : COk d) (l : d.2.length = c.2.length) (fc : Free c) {s : Nat} (hs : s < c.2.length * c.2.length) (a : Cong (it s c) d) : Btw d c (some ((c.2.length * c.2.length - s) % (c.2.length * c.2.length))) := by
  have hp : 0 < c.2.length := Nat.lt_of_le_of_lt (Nat.zero_le _) hc
  have hqp : 0 < c.2.length * c.2.length := Nat.mul_pos hp hp
  refine ⟨by rw [l]; exact Nat.mod_lt _ hqp, ?_⟩
  have b : Cong d (it s c) := a.symm (by rw [it_len]; exact l.symm)
  rcases Nat.eq_zero_or_pos s with z | z
  · subst z
    rw [Nat.sub_zero, Nat.mod_self]
    exact b
  · rw [Nat.mod_eq_of_lt (by omega)]
    have x := cong_it (c.2.length * c.2.length - s) (by rw [it_len]; exact l) hd (it_ok s hc) b
    rw [← it_add, show s + (c.2.length * c.2.length - s) = c.2.length * c.2.length by omega] at x
    have y := cong_rounds hc fc 1
    rw [Nat.one_mul] at y
    exact x.trans (it_len _) y
end Lk
end
section
set_option maxRecDepth 100000
set_option maxHeartbeats 2000000
/-! One tree just where there is one sign. -/
namespace Lk
open PySem PySem.Spec PyProof.Rows L2
theorem orbit {C : Cd} (h : COk C) (f : Free C) (h0 : Home0 C) {N : Nat} (hN : Home0 (it N C)) : ∃ j, it N C = (C.1, C.2.map (· + j * C.2.length)) := by
  have hp : 0 < C.2.length := Nat.lt_of_le_of_lt (Nat.zero_le _) h
  obtain ⟨z1, z2⟩ := h0
  obtain ⟨y1, y2⟩ := hN
  rw [it_len] at y2
  have mono := len_mono N 0 h
  obtain ⟨j, hj⟩ : ∃ j, len (it N C) 0 = len C 0 + j * C.2.length := by
    have d1 := Nat.dvd_of_mod_eq_zero z2
    have d2 := Nat.dvd_of_mod_eq_zero y2
    obtain ⟨a, ha⟩ := d1
    obtain ⟨b, hb⟩ := d2
    refine ⟨b - a, ?_⟩
    have ab : a ≤ b := Nat.le_of_mul_le_mul_left (by rw [← ha, ← hb]; exact mono) hp
    rw [ha, hb, Nat.mul_comm (b - a), Nat.mul_sub]
    have := Nat.mul_le_mul_left C.2.length ab
    omega
  have e := it_rounds h f j
  have el : len (it (j * (C.2.length * C.2.length)) C) 0 = len C 0 + j * C.2.length := by
    rw [e]
    exact getD_map_add _ _ hp
  have eh : (it (j * (C.2.length * C.2.length)) C).1 = 0 := by rw [e]; exact z1
  refine ⟨j, ?_⟩
  generalize j * (C.2.length * C.2.length) = M at e el eh
  rcases Nat.lt_trichotomy N M with l | l | l
  · exfalso
    have s := len_nx_same (it_ok N h)
    rw [y1] at s
    have m := len_mono (M - (N + 1)) 0 (it_ok (N + 1) h)
    rw [← it_add, show N + 1 + (M - (N + 1)) = M by omega, it_succ] at m
    omega
  · rw [l]
    exact e
  · exfalso
    have s := len_nx_same (it_ok M h)
    rw [eh] at s
    have m := len_mono (N - (M + 1)) 0 (it_ok (M + 1) h)
    rw [← it_add, show M + 1 + (N - (M + 1)) = N by omega, it_succ] at m
    omega
theorem gos_cong {c d : Cd} (l : c.2.length = d.2.length) (h : ∀ k, k < c.2.length → len c k % c.2.length = len d k % c.2.length) : gos c = gos d := by
  refine List.ext_getElem? fun i => ?_
  by_cases hi : i < c.2.length
  · rw [gos_at hi, gos_at (l ▸ hi), go_cong l (h i hi)]
  · rw [List.getElem?_eq_none (by rw [gos_len]; omega), List.getElem?_eq_none (by rw [gos_len]; omega)]
theorem len_of_go {c d : Cd} (l : c.2.length = d.2.length) {i : Nat} (h : go c i = go d i) : len c i % c.2.length = len d i % c.2.length := by
  unfold go at h
  rw [← l] at h
  have z : ((i : Int) + len c i) % (c.2.length : Int) = ((i : Int) + len d i) % (c.2.length : Int) := by
    have y := congrArg (fun n : Nat => (n : Int)) h
    simpa using y
  have z2 : ((len c i : Nat) : Int) % (c.2.length : Int) = ((len d i : Nat) : Int) % (c.2.length : Int) := by
    refine Int.emod_emod_of_dvd _ (Int.dvd_refl _) ▸ ?_
    have a := Int.emod_emod_of_dvd (((i : Int) + len c i)) (Int.dvd_refl (c.2.length : Int))
    have b : (((i : Int) + len c i) - i) % (c.2.length : Int) = (((i : Int) + len d i) - i) % (c.2.length : Int) := by rw [Int.sub_emod, z, ← Int.sub_emod]
    rw [show (i : Int) + len c i - i = len c i by omega, show (i : Int) + len d i - i = len d i by omega] at b
    simpa using b
  exact Int.ofNat.inj (by simpa using z2)
/-- one tree just where there is one sign -/
theorem tree_sgn {c d : Cd} {t u : List Nat} (hc : COk c) (hd : COk d) (l : d.2.length = c.2.length) (a : TreeOf c t) (b : TreeOf d u) : t = u ↔ sgn c = sgn d := by
  obtain ⟨n, j, an, ⟨hm, _⟩, rfl⟩ := a
  obtain ⟨m, k, bm, ⟨hk, _⟩, rfl⟩ := b
  rw [← it_add] at hm hk
  have frC : Free (it (n + j) c) := by rw [it_add]; exact free_it j (it_ok n hc) an.1
  have frD : Free (it (m + k) d) := by rw [it_add]; exact free_it k (it_ok m hd) bm.1
  have okC := it_ok (n + j) hc
  have okD := it_ok (m + k) hd
  rw [← sgn_it (n + j) hc, ← sgn_it (m + k) hd]
  have lC : (it (n + j) c).2.length = c.2.length := it_len _
  have lD : (it (m + k) d).2.length = d.2.length := it_len _
  generalize it (n + j) c = C at hm frC okC lC
  generalize it (m + k) d = D at hk frD okD lD
  have lcd : C.2.length = D.2.length := by rw [lC, lD, l]
  constructor
  · intro e
    refine sgn_cong lcd (hm.1.trans hk.1.symm) fun i hi => ?_
    by_cases g : i = 0
    · subst g
      rw [hm.2, lcd, hk.2]
    · refine len_of_go lcd ?_
      have z := congrArg (fun x : List Nat => x[i - 1]?) e
      simp only [List.getElem?_drop] at z
      rw [show 1 + (i - 1) = i by omega, gos_at hi, gos_at (lcd ▸ hi)] at z
      exact Option.some.inj z
  · intro e
    obtain ⟨N, d', hN, ld, h1, hl⟩ := sgn_best okC okD lcd.symm frD e
    have pos : 0 < D.2.length := Nat.lt_of_le_of_lt (Nat.zero_le _) okD
    have hd0 : Home0 (it N C) := by
      rw [hN]
      refine ⟨h1.trans hk.1, ?_⟩
      rw [ld, (hl 0 pos).2]
      exact hk.2
    obtain ⟨q, hq⟩ := orbit okC frC hm hd0
    have e1 : gos C = gos (it N C) := by
      refine gos_cong (it_len N).symm fun i hi => ?_
      rw [hq]
      show _ = ((C.2.map (· + q * C.2.length)).getD i 0) % C.2.length
      rw [getD_map_add _ _ hi, Nat.add_mul_mod_self_right]
      rfl
    have e2 : gos d' = gos D := gos_cong ld fun i hi => by
      rw [ld] at hi ⊢
      exact (hl i hi).2
    rw [e1, hN, e2]
end Lk
end
section
set_option maxRecDepth 100000
set_option maxHeartbeats 2000000
/-! Drawn coders and their mates. -/
namespace Lk
open PySem PySem.Spec PyProof.Rows L2
theorem good_cd {c : Cd} (ok : CdOk c) (h : ∀ n ∈ c.2, n < 10 ^ 45) : Good (cdD c) := by
  have h0 : c.1 < 10 ^ 45 := Nat.lt_trans ok.1 (Nat.lt_of_le_of_lt ok.2 (by decide +kernel))
  refine ⟨show_cd h0 h, ?_, ?_⟩
  · simp only [cdD, PyData.depth, PyData.depthAll, depthAll_ints]
    decide
  · have b := wt_cd h0 h ok.2
    omega
def spSome : Sp := fun vs H Q _ => ∃ (a : Addr) (p : Nat) (n : Int), vs = [.ref a, .int (p : Int)] ∧ Urn H a n ∧ n ≤ 90000 ∧ 1 ≤ p ∧ p ≤ 12 ∧
  ∀ v c H', CdOk c → c.2.length = p → (∀ n ∈ c.2, n < 10 ^ 31) → Urn H' a (n + 20) → SameBut a H H' → Cat H' v c → Q v H'
def spMate : Sp := fun vs H Q _ => ∃ (a : Addr) (v : V) (c : Cd) (n : Int), vs = [.ref a, v] ∧ Urn H a n ∧ n ≤ 80000 ∧ Cat H v c ∧ CdOk c ∧ (∀ n ∈ c.2, n < 10 ^ 31) ∧
  ∀ u d H', CdOk d → d.2.length = c.2.length → (∀ n ∈ d.2, n < 10 ^ 32) → Urn H' a (n + 30) → SameBut a H H' → Cat H' u d → Q u H'
theorem it_bound {c : Cd} (h : COk c) {B : Nat} (hB : ∀ n ∈ c.2, n < B) : ∀ m, ∀ x ∈ (it m c).2, x < B + m
  | 0 => fun x hx => hB x hx
  | m + 1 => fun x hx => by
    rw [it_succ] at hx
    have okm := it_ok m h
    have ih := it_bound h hB m
    obtain ⟨i, hi, rfl⟩ := List.getElem_of_mem hx
    have e : (nx (it m c)).2[i] = len (nx (it m c)) i := by
      unfold len
      rw [List.getD_eq_getElem?_getD, List.getElem?_eq_getElem hi]
      rfl
    rw [e]
    rw [nx_len] at hi
    have mem : ∀ j, j < (it m c).2.length → len (it m c) j < B + m := fun j hj => by
      refine ih _ ?_
      unfold len
      rw [List.getD_eq_getElem?_getD, List.getElem?_eq_getElem hj]
      exact List.getElem_mem hj
    by_cases g : i = (it m c).1
    · rw [g, len_nx_same okm]
      have := mem _ okm
      omega
    · rw [len_nx_ne g]
      have := mem _ hi
      omega
end Lk
end
section
set_option maxRecDepth 100000
set_option maxHeartbeats 2000000
/-! Steps between: what is told. -/
namespace Lk
open PySem PySem.Spec PyProof.Rows L2
/-- a place and a list of lengths modulo the places -/
def mdD (c : Cd) : PyData := .tuple [dN c.1, .list ((c.2.map (· % c.2.length)).map dN)]
theorem lay_md (c : Cd) : (mdD c).canLay0 = true := by
  simp only [mdD, PyData.canLay0, PyData.canLayAll0, layAll_ints]
  rfl
theorem shaped_md (c : Cd) : SeqAt.shaped (mdD c) = true := by
  unfold SeqAt.shaped
  rw [Bool.and_eq_true]
  refine ⟨lay_md c, decide_eq_true ?_⟩
  simp only [mdD, PyData.depth, PyData.depthAll, depthAll_ints]
  decide
theorem mods_eq {c d : Cd} (l : c.2.length = d.2.length) : c.2.map (· % c.2.length) = d.2.map (· % d.2.length) ↔ ∀ k, k < d.2.length → len c k % d.2.length = len d k % d.2.length := by
  have at1 : ∀ (x : Cd) (k : Nat), k < x.2.length → (x.2.map (· % x.2.length))[k]? = some (len x k % x.2.length) := fun x k hk => by
    rw [List.getElem?_map, List.getElem?_eq_getElem hk]
    unfold len
    rw [List.getD_eq_getElem?_getD, List.getElem?_eq_getElem hk]
    rfl
  constructor
  · intro e k hk
    have z := congrArg (fun y : List Nat => y[k]?) e
    try dsimp only at z
    rw [at1 c k (l ▸ hk), at1 d k hk, l] at z
    exact Option.some.inj z
  · intro h
    refine List.ext_getElem? fun k => ?_
    by_cases hk : k < d.2.length
    · rw [at1 c k (l ▸ hk), at1 d k hk, l, h k hk]
    · rw [List.getElem?_eq_none (by rw [List.length_map]; omega), List.getElem?_eq_none (by rw [List.length_map]; omega)]
theorem eqv_md {c d : Cd} (l : c.2.length = d.2.length) : (PyData.eqv (mdD c) (mdD d) = true) ↔ Cong c d := by
  simp only [mdD, PyData.eqv, PyData.eqvAll, eqvAll_ints]
  rw [Bool.and_eq_true, Bool.and_true, decide_eq_true_eq, mods_eq l, beq_iff_eq]
  exact ⟨fun h => ⟨by have := h.1; omega, h.2⟩, fun h => ⟨by have := h.1; omega, h.2⟩⟩
def optV : Option Nat → V
  | none => .non
  | some n => .int ((n : Nat) : Int)
def optD : Option Nat → PyData
  | none => .none
  | some n => dN n
theorem th_opt {H : Hp} : ∀ r : Option Nat, Th H (optV r) (optD r)
  | none => .non
  | some n => .int _
theorem good_opt {r : Option Nat} (h : ∀ n, r = some n → n < 1000) : GoodS (optD r) := by
  cases r with
  | none => exact ⟨rfl, by simp [optD, PyData.depth], by decide⟩
  | some n => exact goodS_int (by have := h n rfl; show ((n : Nat) : Int).natAbs < 10 ^ 45; have : n < 10 ^ 45 := Nat.lt_trans this (by decide); omega)
theorem rep_one {K : PySem.W.Frag} {H : Hp} {Q : VK} {v : V} {d : PyData} (t : Th H v d) (g : Good d) (q : Q (.str d.shown) H) : (∀ kvs, d ≠ .dict kvs) → rRep K [v] H Q := fun nd => by
  refine ⟨v, d, rfl, Th.dq _ t, nd, g.1, ?_, ?_, q⟩
  · have z := g.2.1
    omega
  · have a := shown_wt d
    have b := g.2.2
    rw [sizeLine_eq]
    omega
def spModulo : Sp := fun vs H Q _ => ∃ v c, vs = [v] ∧ Cat H v c ∧ CdOk c ∧ ∀ q H', Same H H' → Th H' (.ref q) (mdD c) → Q (.ref q) H'
def toldBtw (c d : Cd) (Q : VK) (H : Hp) : Prop := ∀ r H', Btw c d r → Same H H' → Q (optV r) H'
def spBtw (C1 C2 C3 : Addr) : Sp := fun vs H Q E => spTwo C1 C2 (fun c d Q' H' => ((Free c ∧ Free d) → toldBtw c d Q' H') ∧ (¬ (Free c ∧ Free d) → ∀ H2, Same H' H2 → E (.ref C3) none H2)) vs H Q E
def spDueB : Sp := fun vs H Q _ => ∃ v u c d, vs = [v, u] ∧ Cat H v c ∧ Cat H u d ∧ CdOk c ∧ CdOk d ∧ d.2.length = c.2.length ∧ Free c ∧ toldBtw c d Q H
/-- what has been gone by: not there yet -/
theorem btw_none {c d : Cd} {i : Nat} (h : ∀ m, m < i → ¬ Cong (it m c) d) (e : i = c.2.length * c.2.length) : Btw c d none := fun n hn => h n (by omega)
end Lk
end
section
set_option maxRecDepth 100000
set_option maxHeartbeats 2000000
namespace Lk
open PySem PySem.Spec PyProof.Rows L2
section
variable {P : Program} {w : World} {K : PySem.W.Frag} {mg : Str → Option Value} {base : Heap}
abbrev nMd : List Str := ["coder", "place", "lengths", "length"]
theorem sc_modulo : FnScope nMd ["coder"] (defScope s_modulo_places) := ⟨rfl, rfl, rfl, by decide +kernel, rfl, by decide +kernel, by decide +kernel⟩
theorem ok_modulo {f : Addr} {fd : FuncData} (F : Fun K "modulo_places" "modulo_places" s_modulo_places f fd) (ml : mg "len" = none) : FnOk P w K mg base CX0 1 f fd ["coder"] spModulo := by
  refine F.ok sc_modulo (fun vs H Q E h => ?_) (fun cdv A outer s H vs Q E hr h => ?_)
  · obtain ⟨v, c, rfl, _⟩ := h
    rfl
  · obtain ⟨v, c, rfl, ⟨a, b, rfl, ha, hb⟩, hc, q⟩ := h
    have nd := sc_modulo.nd
    have h12 := hc.2
    have hp := hc.pos
    refine ⟨_, (pss_cons (by exact (ps_asg (pv 0) (pg_tup rfl (pgs_cons (pg_name (i := 1) nd rfl (Or.inl rfl)) (pgs_cons (pg_name (i := 2) nd rfl (Or.inr rfl)) pgs_nil)))))
      (pss_one (by exact (ps_ret (pe_tupS (pa_cons (pv 1) (pa_cons (pe_lc (own := [("length", 3)]) (g := (gName 3)) (tt := tYes) rfl nd (pi_tup (pv 2)) (blkOk_by (N := nMd) (sc := defScope s_modulo_places) (by decide +kernel)) (fun _ _ _ _ _ => (pg_name (i := 3) nd rfl (Or.inl rfl))) (fun _ _ _ _ _ => pts_nil) (fun _ _ _ _ _ => (pe_op op_mod (pv 3) (pe_callB (call_lenK (K := K) rfl) (by rfl) ml PySem.boot_len (pa_cons (pv 2) pa_nil))))) pa_nil))))))), ?_⟩
    refine ⟨_, rfl, a, _, rfl, SqT.of ha, rfl, _, _, rfl, _, _, rfl, rfl, ?_⟩
    refine ⟨_, rfl, _, rfl, b, rfl, ⟨_, SqT.of hb⟩, fun D nD => ?_⟩
    have lm : (c.2.map (· % c.2.length)).length ≤ 1000000 := by rw [List.length_map]; omega
    refine lc_it walk_tup (fun i H3 => Same H H3 ∧ H3 D = some (.lst (((c.2.map (· % c.2.length)).take i).map vN))) ⟨same_new nD, upd_same⟩ (fun i H3 _ p => SqT.of (p.1 _ _ hb)) ?_ ?_
    · rintro i x H3 H4 hi ⟨s3, e3⟩ ⟨rfl, hx⟩
      rw [List.length_map] at hi
      rw [nat_at hi] at hx
      cases hx
      have hx2 : (c.2.map (· % c.2.length))[i]? = some (c.2.getD i 0 % c.2.length) := by
        rw [List.getElem?_map, List.getD_eq_getElem?_getD, List.getElem?_eq_getElem hi]
        rfl
      obtain ⟨acc, a1, a2, a3⟩ := snoc_map (f := vN) e3 hx2 lm
      refine ⟨rfl, _, rfl, _, rfl, b, _, rfl, .inr (SqT.of (s3 _ _ hb)), _, _, rfl, rfl, (by rw [List.length_map]; omega), acc, a1, a2, same_push s3 nD, ?_⟩
      rw [List.length_map]
      rw [show vN (c.2.getD i 0 % c.2.length) = V.int (((c.2.getD i 0 : Nat) : Int) % (c.2.length : Int)) from congrArg V.int (Int.natCast_emod _ _)] at a3
      exact a3
    · rintro H3 ⟨s3, e3⟩
      rw [show (c.2.map vN).length = (c.2.map (· % c.2.length)).length by rw [List.length_map, List.length_map], List.take_length] at e3
      refine ⟨(by show 2 ≤ sizeLine; decide), fun U H4 nU s4 e4 => ?_⟩
      exact q U H4 (s3.trans s4) (.tup e4 (.cons (.int _) (.cons (.lst (s4 _ _ e3) (ints_nat _)) .nil)))
end
end Lk
end
section
set_option maxRecDepth 100000
set_option maxHeartbeats 4000000
namespace Lk
open PySem PySem.Spec PyProof.Rows L2
section
variable {P : Program} {w : World} {K : PySem.W.Frag} {mg : Str → Option Value} {base : Heap}
abbrev NnBt : List Str := ["coder", "other", "due", "many"]
theorem scN_between : FnScope NnBt ["coder", "other"] (defScope s_steps_between) := ⟨rfl, rfl, rfl, by decide +kernel, rfl, by decide +kernel, by decide +kernel⟩
theorem in_of2 {C1 : Addr} {Q : VK} {E : XK} {H : Hp} {v : V} {c : Cd} (cat : Cat H v c) (ok : CdOk c) (k : toldIn c Q H) : spOne C1 toldIn [v] H Q E := by
  refine ⟨v, cdD c, rfl, cat.th, fun z => ?_, fun c2 ec hc2 => ?_⟩
  · rw [isCd_cdD ok] at z
    cases z
  · have e2 := cdD_inj ec
    subst e2
    exact k
theorem okN_between {f C1 C2 C3 : Addr} {fd : FuncData} (F : Fun K "steps_between" "steps_between" s_steps_between f fd) (cu : CalN P w K mg base 5 "refuse_unlike" (spTwo C1 C2 toldNone)) (ci : CalN P w K mg base 6 "in_round" (spOne C1 toldIn)) (cm : C8.Cal P w K mg base 1 "modulo_places" spModulo []) (cn : C8.Cal P w K mg base 2 "next_coder" spNext []) (ml : mg "len" = none) (mr : mg "range" = none) (T : ErrC K mg "NotRound" C3) : FnOk P w K mg base (L2N.CX P w) 7 f fd ["coder", "other"] (spBtw C1 C2 C3) := by
  refine okN F scN_between (fun vs H Q E h => ?_) (fun cdv A outer s H vs Q E hr h => ?_)
  · obtain ⟨v, u, d, e, rfl, _⟩ := h
    rfl
  · obtain ⟨v, u, d, e, rfl, hv, hu, q1, q2, q3, q⟩ := h
    have nd := scN_between.nd
    have hu0 := hr.un
    have hu64 : (A.deeper (envOfC "steps_between" (defScope s_steps_between) s.heap.objs.size f cdv)).units + 64 < cLine := by omega
    refine ⟨_, (pss_cons (by exact (ps_expr (pe_cN cu (L2N.takes_of rfl rfl rfl rfl) hr (by decide) rfl (pa_cons (pv 0) (pa_cons (pv 1) pa_nil)))))
      (pss_cons (by exact (ps_if (PW.pt (pw_or (pt_not (pt_val (pe_cN ci (L2N.takes_of rfl rfl rfl rfl) hr (by decide) rfl (pa_cons (pv 0) pa_nil)))) (pw_or1 (pt_not (pt_val (pe_cN ci (L2N.takes_of rfl rfl rfl rfl) hr (by decide) rfl (pa_cons (pv 1) pa_nil))))))) (pss_one (by exact (L2N.ps_raise rfl (L2N.takes_of rfl rfl rfl rfl) (L2N.pmk_own PySem.F.excBase_ValueError T.x T.g T.k (raises_own T.b T.t) rfl)))) pss_nil))
      (pss_cons (by exact (ps_set (i := 2) nd rfl (Or.inl rfl) (C8.pe_c cm hr (by decide) rfl (pa_cons (pv 1) pa_nil))))
      (pss_cons (by exact (ps_for (passes_of rfl) rfl (pi_range1 (by rfl) mr (pa_cons (pe_op op_mul (pe_callB call_len_seq (by rfl) ml PySem.boot_len (pa_cons (pe_ix ix_tup (pv 0) pe_int (fun _ _ => rfl)) pa_nil)) (pe_callB call_len_seq (by rfl) ml PySem.boot_len (pa_cons (pe_ix ix_tup (pv 0) pe_int (fun _ _ => rfl)) pa_nil))) pa_nil)) (pg_name (i := 3) nd rfl (Or.inl rfl)) (pss_cons (by exact (ps_if (pt_cmpR (op_eqD hu64) (C8.pe_c cm hr (by decide) rfl (pa_cons (pv 0) pa_nil)) (pv 2) (nomark _)) (pss_one (by exact (ps_ret (pv 3)))) pss_nil))
      (pss_one (by exact (ps_set (i := 0) nd rfl (Or.inl rfl) (C8.pe_c cn hr (by decide) rfl (pa_cons (pv 0) pa_nil))))))))
      (pss_one (by exact (ps_ret pe_non))))))), ?_⟩
    refine ⟨_, rfl, _, rfl, v, u, d, e, rfl, hv, hu, q1, q2, q3, fun c c2 ec hc ec2 hc2 l => fun H1 s1 => ?_⟩
    obtain ⟨qf, qn⟩ := q c c2 ec hc ec2 hc2 l
    subst ec ec2
    clear q1 q2 q3 q
    have c1 := (Th.same s1 _ hv).cat
    have d1 := (Th.same s1 _ hu).cat
    refine ⟨_, rfl, in_of2 c1 hc fun b1 H2 hb1 s2 => ⟨b1, rfl, ?_⟩⟩
    cases b1 with
    | false =>
      have nf : ¬ Free c := fun z => Bool.false_ne_true (hb1.mpr z)
      refine iteT ?_
      exact qn (fun z => nf z.1) H2 (s1.trans s2)
    | true =>
      refine iteF ?_
      refine ⟨_, rfl, in_of2 (d1.same s2) hc2 fun b2 H3 hb2 s3 => ⟨b2, rfl, ?_⟩⟩
      cases b2 with
      | false =>
        have nf : ¬ Free c2 := fun z => Bool.false_ne_true (hb2.mpr z)
        refine iteT ?_
        exact qn (fun z => nf z.2) H3 ((s1.trans s2).trans s3)
      | true =>
        refine iteF ?_
        have told := qf ⟨hb1.mp rfl, hb2.mp rfl⟩
        have fr := hb1.mp rfl
        clear qf qn
        have s13 : Same H H3 := (s1.trans s2).trans s3
        have c3 := (c1.same s2).same s3
        have d3 := (d1.same s2).same s3
        refine ⟨_, rfl, u, c2, rfl, d3, hc2, fun D H4 s4 tD4 => ?_⟩
        have c4 := c3.same s4
        have c40 := c4
        obtain ⟨a, b, rfl, ha, hb⟩ := id c4
        have h12 := hc.2
        have hqq : c.2.length * c.2.length ≤ 12 * 12 := Nat.mul_le_mul h12 h12
        refine ⟨_, rfl, a, _, 1, _, rfl, rfl, SqT.of ha, rfl, b, _, rfl, .inr (SqT.of hb), _, rfl, a, _, 1, _, rfl, rfl, SqT.of ha, rfl, b, _, rfl, .inr (SqT.of hb), _, _, rfl, rfl, .inl ⟨by rw [List.length_map]; omega, by rw [List.length_map]; omega⟩, ?_⟩
        rw [List.length_map]
        refine ⟨((c.2.length * c.2.length : Nat) : Int), congrArg (fun z => [V.int z]) (Int.natCast_mul _ _).symm, by omega, by omega, ?_⟩
        rw [Int.toNat_natCast]
        refine for_range (lo := 0) (n := c.2.length * c.2.length) (fun i σ H5 => ∃ v' y3, σ = [some v', some u, some (.ref D), y3] ∧ Same H4 H5 ∧ Cat H5 v' (it i c) ∧ ∀ m, m < i → ¬ Cong (it m c) c2) ⟨.ref a, none, rfl, Same.refl _, c40, fun m h => absurd h (Nat.not_lt_zero m)⟩ ?_ ?_
        · rintro i σ H5 hi ⟨v', y3, rfl, s5, cat, no⟩
          have ok := it_cdOk i hc
          have li : (it i c).2.length = c2.2.length := (it_len i).trans l
          refine ⟨_, rfl, v', it i c, rfl, cat, ok, fun D2 H6 s6 tD6 => ?_⟩
          refine ⟨_, rfl, ?_⟩
          refine ⟨mdD (it i c), mdD c2, Th.dp _ (lay_md _) tD6, Th.dp _ (lay_md _) (Th.same s6 _ (Th.same s5 _ tD4)), shaped_md _, shaped_md _, ?_⟩
          refine ⟨_, rfl, ite2 (fun e => ?_) (fun e => ?_)⟩
          · refine ⟨_, rfl, ?_⟩
            rw [Int.zero_add]
            exact told (some i) H6 ⟨hi, (eqv_md li).mp e⟩ ((s13.trans s4).trans (s5.trans s6))
          · have nc : ¬ Cong (it i c) c2 := fun z => e ((eqv_md li).mpr z)
            refine ⟨_, rfl, v', it i c, rfl, cat.same s6, ok, fun v2 H7 s7 cat7 => ?_⟩
            rw [← it_succ] at cat7
            refine ⟨_, _, rfl, Same.trans s5 (Same.trans s6 s7), cat7, fun m hm => ?_⟩
            by_cases g : m = i
            · rw [g]
              exact nc
            · exact no m (by omega)
        · rintro σ H5 ⟨v', y3, rfl, s5, cat, no⟩
          exact told none H5 (btw_none no rfl) ((s13.trans s4).trans s5)
end
end Lk
end
section
set_option maxRecDepth 100000
set_option maxHeartbeats 2000000
/-! Each sign of at most six places is a tree's. -/
namespace Lk
open PySem PySem.Spec PyProof.Rows L2
theorem allR_all {p : Nat} : ∀ {m : Nat} {r : List Nat}, r.length = m → (∀ x ∈ r, x < p) → r ∈ allR p m
  | 0, r, l, _ => by
    rw [List.length_eq_zero_iff.mp l]
    exact List.mem_singleton.mpr rfl
  | m + 1, r, l, h => by
    have ne : r ≠ [] := fun e => by rw [e] at l; cases l
    refine List.mem_flatMap.mpr ⟨r.dropLast, allR_all (by rw [List.length_dropLast, l]; rfl) fun x hx => h x (List.dropLast_subset r hx), ?_⟩
    refine List.mem_map.mpr ⟨r.getLast ne, List.mem_range.mpr (h _ (List.getLast_mem ne)), ?_⟩
    exact List.dropLast_concat_getLast ne
theorem allR_nodup (p : Nat) : ∀ m, (allR p m).Nodup
  | 0 => List.pairwise_singleton _ _
  | m + 1 => by
    show List.Pairwise (· ≠ ·) ((allR p m).flatMap fun r => (List.range p).map fun x => r ++ [x])
    refine List.pairwise_flatMap.mpr ⟨fun r _ => List.pairwise_map.mpr ?_, ?_⟩
    · refine List.Pairwise.imp (fun {a b} ne e => ne ?_) (List.nodup_range (n := p))
      have z := List.append_cancel_left e
      injection z
    · refine List.Pairwise.imp (fun {a b} ne x hx y hy e => ?_) (allR_nodup p m)
      obtain ⟨i, _, rfl⟩ := List.mem_map.mp hx
      obtain ⟨j, _, rfl⟩ := List.mem_map.mp hy
      exact ne (List.append_inj_left' e rfl)
theorem trees_nodup (p : Nat) : (treesL p).Nodup := List.Pairwise.filter _ (allR_nodup p _)
/-- the last number of a sign -/
def lastS (p : Nat) (r : List Nat) : Nat := (1 + (p - 1) * r.sum) % p
def signsL (p : Nat) : List (List Nat) := (allR p (p - 2)).map fun r => if p = 1 then [0] else 0 :: r ++ [lastS p r]
theorem signs_len (p : Nat) : (signsL p).length = p ^ (p - 2) := by
  unfold signsL
  rw [List.length_map, allR_len]
theorem sign_mem {p : Nat} {s : List Nat} (p1 : 1 ≤ p) (l : s.length = p) (b : ∀ x ∈ s, x < p) (h0 : s.getD 0 0 = 0) (hs : s.sum % p = 1 % p) : s ∈ signsL p := by
  by_cases e1 : p = 1
  · subst e1
    match s, l with
    | [x], _ =>
      have : x = 0 := h0
      subst this
      exact List.mem_map.mpr ⟨[], List.mem_singleton.mpr rfl, rfl⟩
  · match s, l with
    | x :: u, l =>
      have hx : x = 0 := h0
      subst hx
      have lu : u.length = p - 1 := by
        have : u.length + 1 = p := l
        omega
      have ne : u ≠ [] := fun e => by rw [e] at lu; simp at lu; omega
      refine List.mem_map.mpr ⟨u.dropLast, allR_all (by rw [List.length_dropLast, lu]; omega) fun x hx => b x (List.mem_cons_of_mem _ (List.dropLast_subset u hx)), ?_⟩
      rw [if_neg e1]
      have eu := List.dropLast_concat_getLast ne
      have hl : u.getLast ne < p := b _ (List.mem_cons_of_mem _ (List.getLast_mem ne))
      have es : u.sum = u.dropLast.sum + u.getLast ne := by
        conv => lhs; rw [← eu]
        rw [List.sum_append]
        simp
      have hs2 : (u.dropLast.sum + u.getLast ne) % p = 1 % p := by
        rw [← es]
        simpa using hs
      have key : lastS p u.dropLast = u.getLast ne := by
        unfold lastS
        generalize u.dropLast.sum = a at hs2
        generalize u.getLast ne = y at hs2 hl
        have e2 : (1 + (p - 1) * a) % p = ((a + y) + (p - 1) * a) % p := by
          rw [Nat.add_mod, ← hs2, ← Nat.add_mod]
        rw [e2]
        have e3 : (a + y) + (p - 1) * a = y + p * a := by
          obtain ⟨q, rfl⟩ : ∃ q, p = q + 1 := ⟨p - 1, by omega⟩
          rw [Nat.add_sub_cancel, Nat.add_mul]
          omega
        rw [e3, Nat.add_mul_mod_self_left, Nat.mod_eq_of_lt hl]
      rw [key, List.cons_append, eu]
/-- .. and just one has it -/
theorem sign_tree {p : Nat} {s : List Nat} (p1 : 1 ≤ p) (p6 : p ≤ 6) (l : s.length = p) (b : ∀ x ∈ s, x < p) (h0 : s.getD 0 0 = 0) (hs : s.sum % p = 1 % p) : ∃ t ∈ treesL p, sgn (cdOf (0 :: t)) = s := by
  refine Classical.byContradiction fun no => ?_
  have ok : ∀ t ∈ treesL p, TOk p t := fun t ht => trees_tok p1 ht
  have nd : ((treesL p).map fun t => sgn (cdOf (0 :: t))).Nodup := by
    refine List.pairwise_map.mpr (List.Pairwise.imp_of_mem (fun {t u} ht hu ne e => ne ?_) (trees_nodup p))
    have h1 := ok t ht
    have h2 := ok u hu
    have c1 := cdOf_cdOk h1 (by omega)
    have c2 := cdOf_cdOk h2 (by omega)
    exact (tree_sgn c1.1 c2.1 (by rw [cdOf_len, cdOf_len, List.length_cons, List.length_cons, h1.1, h2.1]) (tree_cdOf h1) (tree_cdOf h2)).mpr e
  have hm := sign_mem p1 l b h0 hs
  have sub : ((treesL p).map fun t => sgn (cdOf (0 :: t))) ⊆ (signsL p).erase s := fun x hx => by
    obtain ⟨t, ht, rfl⟩ := List.mem_map.mp hx
    have h1 := ok t ht
    have cp : (cdOf (0 :: t)).2.length = p := by rw [cdOf_len, List.length_cons, h1.1]
    have c1 := cdOf_cdOk h1 (by omega)
    refine (List.mem_erase_of_ne fun e => no ⟨t, ht, e⟩).mpr (sign_mem p1 (by rw [sgn_len, cp]) (fun y hy => by have := sgn_lt y hy; omega) (sgn_zero (by omega)) ?_)
    have z := sgn_sum c1.1
    rw [cp] at z
    exact z
  have z := List.Nodup.length_le_of_subset nd sub
  rw [List.length_map, trees_count p p1 p6, List.length_erase_of_mem hm, signs_len] at z
  have pos : 0 < p ^ (p - 2) := Nat.pow_pos (by omega)
  omega
end Lk
end
section
set_option maxRecDepth 100000
set_option maxHeartbeats 2000000
/-! A def of the law's own, called in the suite on the error. -/
namespace Lk
open PySem PySem.Spec PyProof.Rows L2 L2H HotX
/-- x tells of an error of the class q.1 what told q.2 says -/
structure CalE (P : Program) (w : World) (K : PySem.W.Frag) (mg : Str → Option Value) (base : Heap) (k : Nat) (x y : Str) (told : Str → VK → Hp → Prop) (ws : List (Addr × Str)) : Prop where
  ex : ∃ (f : Addr) (fd : FuncData), (∀ q ∈ ws, FnE P w K mg base k f fd y q.1 (told q.2)) ∧ mg x = some (.ref f) ∧ PySem.W.keepIn K (.ref f) = true ∧ Binds K fd [y] []
section
variable {X : Cx} {k j i : Nat} {x y n : Str} {told : Str → VK → Hp → Prop} {ws : List (Addr × Str)} {p q pos : Pos} {a : Addr} {oe : Obj} {cls : Value} {d : Option Addr}
theorem pe_cE (c : CalE X.prog X.w X.K X.mg X.base k x y told ws) (hr : RoomH j X.A) (hk : k ≤ j) (hz : L2N.Zn cls d oe) (hf : ∃ vs, oe.data = .fields vs) (hh : X.A.handled = some (.ref a)) (hp : (a, oe) ∈ X.pn) (hg : Gl X x)
    (hN : X.N[i]? = some n) (hv : Vis X.env.scope n) (hdb : (x == ("__debug__" : Str)) = false := by decide) (hd2 : (n == ("__debug__" : Str)) = false := by decide) (hcd : (n == ("__classdict__" : Str)) = false := by decide)
    (he : starEach [Expr.Name n q] X.env = (false, eval (.Name n q) X.env) :: starEach [] X.env := by rfl) (hpl : (backTo pos (starEach [] X.env)).any (·.1) = false := by rfl) :
    PE X (.Call (.Name x p) [.Name n q] [] pos) (fun σ H Q => ∃ D nm, cls = .ref D ∧ d = none ∧ (D, nm) ∈ ws ∧ σ[i]? = some (some (.ref a)) ∧ told nm Q H) := by
  obtain ⟨f, fd, F, hm, hkp, hb⟩ := c.ex
  refine ⟨fun pins s σ H Q I ⟨D, nm, e1, e2, hmem, hs, ht⟩ => ?_⟩
  subst e1 e2
  obtain ⟨vs, ev⟩ := hf
  have hot : Hot1 X.A (a, oe) := ⟨hh, vs, ev, hz.2.2 vs ev⟩
  exact (pe_callE (F (D, nm) hmem) (hr.mono hk) hot hp hz.zc hg hm hkp hb hN hv hdb hd2 hcd he hpl).run pins s σ H Q I ⟨hs, ht⟩
end
/-- == and != of lists within a comprehension -/
theorem op_neDK {X : Cx} {K : PySem.W.Frag} (h : X.K = K) (hu : X.A.units + 64 < cLine) : OpR X (compareOp .NotEq) (rNeD K) := by
  subst h
  exact op_neD hu
theorem op_eqDK {X : Cx} {K : PySem.W.Frag} (h : X.K = K) (hu : X.A.units + 64 < cLine) : OpR X (compareOp .Eq) (rEqD K) := by
  subst h
  exact op_eqD hu
/-- nothing is let through -/
theorem takes_no {X : Cx} : L2N.Takes X fun _ _ _ _ => False := fun _ _ ⟨_, _, _, _, _, _, _, _, _, _, _, _, _, _, _, _, w⟩ => w.elim
end Lk
end
section
set_option maxRecDepth 100000
set_option maxHeartbeats 2000000
namespace Lk
open PySem PySem.Spec PyProof.Rows L2
/-- NoCount, NoSign; else told -/
def spTreeBy (C1 C2 : Addr) : Sp := fun vs H Q E => ∃ (u v : V) (e d : PyData), vs = [u, v] ∧ Th H u e ∧ Th H v d ∧ (inR e 1 6 = false → ∀ H', Same H H' → E (.ref C1) none H') ∧
  (∀ p : Nat, e = .int (p : Int) → 1 ≤ p → p ≤ 6 → (¬ IsSg p d → ∀ H', Same H H' → E (.ref C2) none H') ∧ (IsSg p d → ∀ v' H', Same H H' → Q v' H'))
section
variable {P : Program} {w : World} {K : PySem.W.Frag} {mg : Str → Option Value} {base : Heap}
abbrev nTb : List Str := ["p", "sign", "tree"]
theorem scN_treeBy : FnScope nTb ["p", "sign"] (defScope s_tree_by) := ⟨rfl, rfl, rfl, by decide +kernel, rfl, by decide +kernel, by decide +kernel⟩
theorem okN_treeBy {f C1 C2 C3 C4 : Addr} {fd : FuncData} (F : Fun K "tree_by" "tree_by" s_tree_by f fd) (cc : CalN P w K mg base 3 "refuse_no_count" (spCount C1)) (cr : CalN P w K mg base 5 "refuse_no_sign" (spRefSign C1 C2)) (ca : CalN P w K mg base 4 "all_trees" (spAllT C1)) (co : CalN P w K mg base 5 "coder_of" (spCoderAll2 C1 C3)) (cs : CalN P w K mg base 5 "sign_of" (spOne C4 toldSign)) {tp : Tok} (mp : mg "MOST_PLACES_OF_ALL" = some (.int 6 tp)) : FnOk P w K mg base (L2N.CX P w) 7 f fd ["p", "sign"] (spTreeBy C1 C2) := by
  refine okN F scN_treeBy (fun vs H Q E h => ?_) (fun cdv A outer s H vs Q E hr h => ?_)
  · obtain ⟨u, v, e, d, rfl, _⟩ := h
    rfl
  · obtain ⟨u, v, e, d, rfl, he, hv, q1, q⟩ := h
    have nd := scN_treeBy.nd
    have hu := hr.units
    refine ⟨_, (pss_cons (by exact (ps_expr (pe_cN cc (L2N.takes_of rfl rfl rfl rfl) hr (by decide) rfl (pa_cons (pv 0) (pa_cons pe_int (pa_cons (pe_glob (v := .int 6) rfl mp ⟨_, rfl⟩) pa_nil))))))
      (pss_cons (by exact (ps_expr (pe_cN cr (L2N.takes_of rfl rfl rfl rfl) hr (by decide) rfl (pa_cons (pv 0) (pa_cons (pv 1) pa_nil)))))
      (pss_one (by exact (ps_ret (pe_ix ix_list (pe_lc (own := [("tree", 2)]) (g := (gName 2)) rfl nd (pi_list (pe_cN ca (L2N.takes_of rfl rfl rfl rfl) hr (by decide) rfl (pa_cons (pv 0) pa_nil))) (blkOk_by (N := nTb) (sc := defScope s_tree_by) (by decide +kernel)) (fun _ _ _ _ _ => (pg_name (i := 2) nd rfl (Or.inl rfl))) (fun _ _ _ _ _ => pts_one (pt_cmpR (op_eqDK (K := K) rfl hu) (pe_cN0 cs hr (by decide) rfl (pa_cons (pe_cN0 co hr (by decide) rfl (pa_cons (pv 0) (pa_cons (pv 2) pa_nil))) pa_nil)) (pv 1) (nomark _))) (fun _ _ _ _ _ => (pv 2))) pe_int (fun _ _ => rfl))))))), ?_⟩
    refine ⟨_, rfl, u, e, 1, 6, rfl, .inr (.inr (.inr (.inl ⟨rfl, rfl⟩))), he, fun hi => ?_, fun hi => q1 hi H (Same.refl _)⟩
    obtain ⟨p, rfl, p1, p6⟩ : ∃ p : Nat, e = .int (p : Int) ∧ 1 ≤ p ∧ p ≤ 6 := by
      cases e with
      | int i =>
        have z : (decide ((1 : Int) ≤ i) && decide (i ≤ 6)) = true := hi
        rw [Bool.and_eq_true, decide_eq_true_eq, decide_eq_true_eq] at z
        exact ⟨i.toNat, by rw [Int.toNat_of_nonneg (by omega)], by omega, by omega⟩
      | _ => cases hi
    obtain ⟨qn, qt⟩ := q p rfl p1 p6
    have eu : u = .int (p : Int) := by cases he; rfl
    subst eu
    refine ⟨_, rfl, _, rfl, p, v, d, rfl, hv, p1, by omega, fun sg H1 s1 => ?_, fun ns H1 s1 => qn ns H1 s1⟩
    obtain ⟨s', rfl, ls, bs, h0, hs⟩ := sg
    have sgd : IsSg p (tD s') := ⟨s', rfl, ls, bs, h0, hs⟩
    obtain ⟨t0, ht0, et0⟩ := sign_tree p1 p6 ls bs h0 hs
    have no12 : inR (.int (p : Int)) 1 12 = false → False := fun z => by
      have y : (decide ((1 : Int) ≤ (p : Int)) && decide ((p : Int) ≤ 12)) = false := z
      rw [decide_eq_true (by omega), decide_eq_true (by omega)] at y
      cases y
    have no6 : inR (.int (p : Int)) 1 6 = false → False := fun z => by
      have y : (decide ((1 : Int) ≤ (p : Int)) && decide ((p : Int) ≤ 6)) = false := z
      rw [decide_eq_true (by omega), decide_eq_true (by omega)] at y
      cases y
    refine ⟨_, rfl, .int (p : Int), .int (p : Int), rfl, .int _, fun z => (no6 z).elim, fun p' ep _ _ L H2 nL s2 tL => ?_⟩
    have epp : p' = p := by injection ep with ep; omega
    subst epp
    obtain ⟨ws, eL, tA⟩ := tL
    refine ⟨L, rfl, ⟨_, SqL.of eL⟩, fun D nD => ?_⟩
    have big : (treesL p').length ≤ 7776 := Nat.le_trans (trees_len p') (pow_le p6 (by omega))
    have lw : ws.length = (treesL p').length := by rw [tA.length, List.length_map]
    have hv2 := Th.same (Same.trans s1 s2) _ hv
    refine lc_it (walk_list (xs := ws)) (fun i H' => ∃ acc, Same H2 H' ∧ H' D = some (.lst acc) ∧ acc.length ≤ i ∧ (t0 ∈ (treesL p').take i → acc ≠ [])) ⟨[], same_new nD, upd_same, Nat.le_refl 0, fun h => nomatch h⟩ (fun i H' _ ⟨_, r, _⟩ => SqL.of (r _ _ eL)) ?_ ?_
    · rintro i x R1 R2 hi ⟨acc, r1, r2, la, hne⟩ ⟨rfl, hx⟩
      obtain ⟨dt, hdt, tx⟩ := tA.get hx
      obtain ⟨t, ht, rfl⟩ : ∃ t, (treesL p')[i]? = some t ∧ tD t = dt := by
        rw [List.getElem?_map] at hdt
        cases z : (treesL p')[i]? with
        | none => rw [z] at hdt; cases hdt
        | some t => rw [z] at hdt; exact ⟨t, rfl, Option.some.inj hdt⟩
      have tok := trees_tok p1 (List.mem_of_getElem? ht)
      have room : acc.length < sizeLine := Nat.lt_of_le_of_lt la (Nat.lt_trans hi (by rw [lw]; exact Nat.lt_of_le_of_lt big (by decide)))
      refine ⟨rfl, _, rfl, _, rfl, .int (p' : Int), x, .int (p' : Int), tD t, rfl, .int _, Th.same r1 _ tx, fun z => (no12 z).elim, fun q' eq' _ _ => ?_⟩
      have eqq : q' = p' := by injection eq' with eq'; omega
      subst eqq
      refine ⟨fun nt => absurd tok.isTr nt, fun t' et' _ v' R3 s3 cat => ?_⟩
      have ett := tD_inj et'
      subst ett
      have cok := cdOf_cdOk tok (by omega)
      refine ⟨v', cdD (cdOf (0 :: t)), rfl, cat.th, fun z => (by rw [isCd_cdD cok] at z; cases z), fun c ec hc pS R4 s4 eS => ?_⟩
      have ecc := cdD_inj ec
      subst ecc
      have r14 : Same R2 R4 := Same.trans s3 s4
      refine ⟨_, rfl, tD (sgn (cdOf (0 :: t))), tD s', Th.dp _ (lay_tD _) (th_tD eS), Th.dp _ (lay_tD _) (Th.same (Same.trans r1 r14) _ hv2), shaped_tD _, shaped_tD _, _, rfl, ?_⟩
      rw [eqv_tD]
      by_cases h : sgn (cdOf (0 :: t)) = s'
      · rw [decide_eq_true h]
        refine ⟨_, rfl, acc, r14 _ _ r2, room, acc ++ [x], same_push (Same.trans r1 r14) nD, upd_same, by rw [List.length_append]; show _ + 1 ≤ _; omega, fun _ e => by simp at e⟩
      · rw [decide_eq_false h]
        refine ⟨acc, Same.trans r1 r14, r14 _ _ r2, by omega, fun hm => ?_⟩
        rw [List.take_add_one, ht] at hm
        rcases List.mem_append.mp hm with hm | hm
        · exact hne hm
        · have e0 : t0 = t := by simpa using hm
          rw [← e0] at h
          exact absurd et0 h
    · rintro R1 ⟨acc, r1, r2, la, hne⟩
      have ne : acc ≠ [] := hne (by rw [lw, List.take_length]; exact ht0)
      obtain ⟨y, ys, rfl⟩ := List.exists_cons_of_ne_nil ne
      refine ⟨D, _, 0, y, rfl, rfl, SqL.of r2, atI_nat (j := 0) rfl, qt sgd y R1 (Same.trans s1 (Same.trans s2 r1))⟩
end
end Lk
end
section
set_option maxRecDepth 100000
set_option maxHeartbeats 2000000
namespace Lk
open PySem PySem.Spec PyProof.Rows L2
section
variable {P : Program} {w : World} {K : PySem.W.Frag} {mg : Str → Option Value} {base : Heap}
theorem sc_urn : FnScope ["cell"] ["cell"] (defScope s_law_urn) := ⟨rfl, rfl, rfl, by decide +kernel, rfl, by decide +kernel, by decide +kernel⟩
theorem ok_urn {f : Addr} {fd : FuncData} (F : Fun K "_law_urn" "_law_urn" s_law_urn f fd) (mmax : mg "max" = none) : FnOk P w K mg base CX0 1 f fd ["cell"] spUrn := by
  refine F.ok sc_urn (fun vs H Q E h => ?_) (fun cdv A outer s H vs Q E hr h => ?_)
  · obtain ⟨c, rfl, _⟩ := h
    rfl
  · obtain ⟨c, rfl, q⟩ := h
    have nd := sc_urn.nd
    refine ⟨_, (pss_one (by exact (ps_ret (pe_lstS (pa_cons (pe_callB (call_max2 rfl) (by rfl) mmax (by decide +kernel) (pa_cons pe_int (pa_cons (pe_op op_sub (pv 0) (pe_op op_pow pe_int pe_int)) pa_nil))) (pa_cons (pe_op op_mod (pv 0) (pe_op op_add (pe_op op_pow pe_int pe_int) pe_int)) (pa_cons pe_int pa_nil))))))), ?_⟩
    refine ⟨_, rfl, _, _, rfl, rfl, ⟨by decide, by decide, by decide⟩, _, _, rfl, rfl, _, _, rfl, _, rfl, _, _, rfl, rfl, ⟨by decide, by decide, by decide⟩, _, _, rfl, rfl, _, _, rfl, rfl, (by show (0 : Int) < 10 ^ (35 : Int).toNat + 69; decide), (by show 3 ≤ sizeLine; decide), fun p H1 n1 s1 e1 => q p H1 n1 s1 ⟨_, _, 0, e1, Int.emod_nonneg _ (by decide), ?_, by decide, by decide⟩⟩
    have z := Int.emod_lt_of_pos c (show (0 : Int) < 10 ^ (35 : Int).toNat + 69 by decide)
    exact Int.lt_trans z (by decide)
abbrev nPull : List Str := ["urn", "many", "found", "one"]
theorem sc_pull : FnScope nPull ["urn", "many"] (defScope s_law_pull) := ⟨rfl, rfl, rfl, by decide +kernel, rfl, by decide +kernel, by decide +kernel⟩
theorem ok_pull {f : Addr} {fd : FuncData} (F : Fun K "_law_pull" "_law_pull" s_law_pull f fd) : FnOk P w K mg base CX0 1 f fd ["urn", "many"] spPull := by
  refine F.ok sc_pull (fun vs H Q E h => ?_) (fun cdv A outer s H vs Q E hr h => ?_)
  · obtain ⟨a, m, n, rfl, _⟩ := h
    rfl
  · obtain ⟨a, m, n, rfl, ⟨u0, u1, u2, hb, g1, l1, g2, l2⟩, hn, h0, h1, q⟩ := h
    have nd := sc_pull.nd
    refine ⟨_, (pss_cons (by exact (ps_if (pt_cmpR op_gt (pe_ix ix_list (pv 0) pe_int (fun _ _ => rfl)) pe_int (nomark _)) (pss_cons (by exact (ps_set (i := 2) nd rfl (Or.inl rfl) (pe_op op_mod (pe_ix ix_list (pv 0) pe_int (fun _ _ => rfl)) (pv 1))))
      (pss_cons (by exact (ps_asg (pe_op op_fdivW (pe_ix ix_list (pv 0) pe_int (fun _ _ => rfl)) (pv 1)) (pg_sub (pv 0) pe_int set_list)))
      (pss_one (by exact (ps_ret (pv 2)))))) pss_nil))
      (pss_cons (by exact (ps_asg (pe_op op_add (pe_ix ix_list (pv 0) pe_int (fun _ _ => rfl)) pe_int) (pg_sub (pv 0) pe_int set_list)))
      (pss_cons (by exact (ps_set (i := 3) nd rfl (Or.inl rfl) (pe_op op_mod (pe_op op_powW (pe_op op_add (pe_ix ix_list (pv 0) pe_int (fun _ _ => rfl)) (pe_op op_mul pe_int (pe_ix ix_list (pv 0) pe_int (fun _ _ => rfl)))) pe_int) (pe_op op_add (pe_op op_pow pe_int pe_int) pe_int))))
      (pss_cons (by exact (ps_set (i := 3) nd rfl (Or.inl rfl) (pe_op op_mod (pe_op op_powW (pe_op op_add (pv 3) (pe_op op_mul pe_int (pe_ix ix_list (pv 0) pe_int (fun _ _ => rfl)))) pe_int) (pe_op op_add (pe_op op_pow pe_int pe_int) pe_int))))
      (pss_one (by exact (ps_ret (pe_op op_mod (pe_op op_fdiv (pv 3) pe_int) (pv 1))))))))), ?_⟩
    refine ⟨_, rfl, a, _, 0, .int u0, rfl, rfl, SqL.of hb, rfl, _, _, rfl, rfl, _, rfl, ite2 (fun c => ?_) (fun c => ?_)⟩
    · refine ⟨_, rfl, a, _, 0, .int u0, rfl, rfl, SqL.of hb, rfl, _, rfl, _, _, rfl, rfl, h0, ?_⟩
      refine ⟨_, rfl, a, _, 0, .int u0, rfl, rfl, SqL.of hb, rfl, _, rfl, _, _, rfl, rfl, pick_div h0 h1, _, rfl, a, _, 0, 0, rfl, rfl, hb, rfl, ?_⟩
      refine ⟨_, rfl, ?_⟩
      refine q _ _ (Int.emod_nonneg _ (by omega)) (Int.emod_lt_of_pos _ h0) ⟨u0 / m, u1, u2, upd_same, g1, l1, g2, by omega⟩ fun p o n e => ?_
      rw [upd_ne n]
      exact e
    · refine ⟨_, rfl, a, _, 2, .int u2, rfl, rfl, SqL.of hb, rfl, _, _, rfl, rfl, _, rfl, a, _, 2, 2, rfl, rfl, hb, rfl, ?_⟩
      have e38 : (0 : Int) < 10 ^ (38 : Int).toNat + 133 := by decide
      have e36 : (0 : Int) < 10 ^ (36 : Int).toNat + 67 := by decide
      have b1 : (u1 + 32452843 * (u2 + 1)).natAbs < 2 ^ 1000 := by
        have z : (2 : Nat) ^ 1000 > 10 ^ 40 := by decide +kernel
        omega
      refine ⟨_, rfl, a, _, 1, .int u1, rfl, rfl, SqL.of upd_same, rfl, _, rfl, a, _, 2, .int (u2 + 1), rfl, rfl, SqL.of upd_same, rfl, _, _, rfl, rfl, .inl ⟨by decide, by decide⟩, _, _, rfl, rfl, _, _, rfl, rfl, ⟨by decide, by decide, b1⟩, _, _, rfl, rfl, ⟨by decide, by decide, by decide⟩, _, _, rfl, rfl, _, _, rfl, rfl, e38, ?_⟩
      dsimp only
      generalize hF : ((u1 + 32452843 * (u2 + 1)) ^ (3 : Int).toNat % (10 ^ (38 : Int).toNat + 133) : Int) = F1
      have hF0 : 0 ≤ F1 := by rw [← hF]; exact Int.emod_nonneg _ (by omega)
      have hF1 : F1 < 10 ^ (38 : Int).toNat + 133 := by rw [← hF]; exact Int.emod_lt_of_pos _ e38
      have hF2 : F1 < 10 ^ 39 := Int.lt_trans hF1 (by decide)
      have b2 : (F1 + 86028121 * (u2 + 1)).natAbs < 2 ^ 1000 := by
        have z : (2 : Nat) ^ 1000 > 10 ^ 40 := by decide +kernel
        omega
      refine ⟨_, rfl, _, rfl, a, _, 2, .int (u2 + 1), rfl, rfl, SqL.of upd_same, rfl, _, _, rfl, rfl, .inl ⟨by decide, by decide⟩, _, _, rfl, rfl, _, _, rfl, rfl, ⟨by decide, by decide, b2⟩, _, _, rfl, rfl, ⟨by decide, by decide, by decide⟩, _, _, rfl, rfl, _, _, rfl, rfl, e36, ?_⟩
      refine ⟨_, rfl, _, _, rfl, rfl, ⟨by decide, by decide⟩, _, rfl, _, _, rfl, rfl, h0, ?_⟩
      exact q _ _ (Int.emod_nonneg _ (by omega)) (Int.emod_lt_of_pos _ h0) ⟨u0, u1, u2 + 1, upd_same, g1, l1, by omega, by omega⟩ sameBut_upd
end
end Lk
end
section
set_option maxRecDepth 100000
set_option maxHeartbeats 2000000
namespace Lk
open PySem PySem.Spec PyProof.Rows L2
section
variable {P : Program} {w : World} {K : PySem.W.Frag} {mg : Str → Option Value} {base : Heap}
abbrev nUc : List Str := ["urn", "most", "p", "way", "lengths", "place", "few", "some", "great"]
theorem sc_ucoder : FnScope nUc ["urn", "most"] (defScope s_law_coder) := ⟨rfl, rfl, rfl, by decide +kernel, rfl, by decide +kernel, by decide +kernel⟩
theorem ok_ucoder {f : Addr} {fd : FuncData} (F : Fun K "_law_coder" "_law_coder" s_law_coder f fd) (pull : C8.Cal P w K mg base 1 "_law_pull" spPull []) (mr : mg "range" = none) (mt : mg "tuple" = none) : FnOk P w K mg base CX0 2 f fd ["urn", "most"] spUCoder := by
  refine F.ok sc_ucoder (fun vs H Q E h => ?_) (fun cdv A outer s H vs Q E hr h => ?_)
  · obtain ⟨a, m, n, rfl, _⟩ := h
    rfl
  · obtain ⟨a, m, n, rfl, hb, hn, h1, h12, q⟩ := h
    have nd := sc_ucoder.nd
    refine ⟨_, (pss_cons (by exact (ps_set (i := 2) nd rfl (Or.inl rfl) (pe_op op_add pe_int (C8.pe_c pull hr (by decide) rfl (pa_cons (pv 0) (pa_cons (pv 1) pa_nil))))))
      (pss_cons (by exact (ps_set (i := 3) nd rfl (Or.inl rfl) (C8.pe_c pull hr (by decide) rfl (pa_cons (pv 0) (pa_cons pe_int pa_nil)))))
      (pss_cons (by exact (ps_set (i := 4) nd rfl (Or.inl rfl) (pe_lstS pa_nil)))
      (pss_cons (by exact (ps_for PassesOwn.never rfl (pi_range1 (by rfl) mr (pa_cons (pv 2) pa_nil)) (pg_name (i := 5) nd rfl (Or.inl rfl)) (pss_cons (by exact (ps_par (i := 6) (j := 7) (by rfl) nd rfl rfl (by decide) rfl rfl (pa_cons (C8.pe_c pull hr (by decide) rfl (pa_cons (pv 0) (pa_cons pe_int pa_nil))) (pa_cons (C8.pe_c pull hr (by decide) rfl (pa_cons (pv 0) (pa_cons (pe_op op_mul pe_int (pv 2)) pa_nil))) pa_nil)) (by rfl)))
      (pss_cons (by exact (ps_set (i := 8) nd rfl (Or.inl rfl) (pe_ix ix_list (pe_lstS (pa_cons (pv 6) (pa_cons (pv 7) (pa_cons (pe_op op_sub (pe_op op_sub (pe_op op_pow pe_int pe_int) (pe_op op_pow pe_int pe_int)) (C8.pe_c pull hr (by decide) rfl (pa_cons (pv 0) (pa_cons pe_int pa_nil)))) (pa_cons (C8.pe_c pull hr (by decide) rfl (pa_cons (pv 0) (pa_cons (pe_op op_pow pe_int pe_int) pa_nil))) pa_nil))))) (C8.pe_c pull hr (by decide) rfl (pa_cons (pv 0) (pa_cons pe_int pa_nil))) (fun _ _ => rfl))))
      (pss_one (by exact (ps_expr (pe_bm PySem.F.plainAttrs_list PySem.F.slot_list_append PySem.F.type_list_append mt_append (pv 4) (pa_cons (pe_ix ix_list (pe_lstS (pa_cons (pv 6) (pa_cons (pv 7) (pa_cons (pe_op op_add (pe_op op_sub (pv 2) pe_int) (pe_op op_mul (pv 2) (C8.pe_c pull hr (by decide) rfl (pa_cons (pv 0) (pa_cons pe_int pa_nil))))) (pa_cons (pv 8) pa_nil))))) (pv 3) (fun _ _ => rfl)) pa_nil)))))))))
      (pss_one (by exact (ps_ret (pe_tupS (pa_cons (C8.pe_c pull hr (by decide) rfl (pa_cons (pv 0) (pa_cons (pv 2) pa_nil))) (pa_cons (pe_callTy call_tupS (by rfl) mt (by decide +kernel) (pa_cons (pv 4) pa_nil)) pa_nil)))))))))), ?_⟩
    have big : (12 : Int) ≤ 10 ^ 40 := by decide
    refine ⟨_, rfl, _, rfl, a, m, n, rfl, hb, by omega, by omega, by omega, fun v0 H1 v0p v0m b1 sb1 => ?_⟩
    obtain ⟨p, hp⟩ : ∃ p : Nat, 1 + v0 = (p : Int) := ⟨(1 + v0).toNat, by omega⟩
    refine ⟨_, (v0 : Int), rfl, rfl, ?_⟩
    dsimp only
    rw [hp]
    have hp1 : 1 ≤ p := by omega
    have hp12 : p ≤ 12 := by omega
    have hpm : (p : Int) ≤ m := by omega
    refine ⟨_, rfl, a, 4, n + 1, rfl, b1, by omega, by decide, by decide, fun way H2 w0 w4 b2 sb2 => ?_⟩
    refine ⟨(by show 0 ≤ sizeLine; decide), fun D H3 nD s3 eD => ?_⟩
    have naD := b2.ne nD
    have nD0 : H D = none := by
      cases e : H D with
      | none => rfl
      | some o => exact absurd (sb2 D o naD.symm (sb1 D o naD.symm e)) (by rw [nD]; exact fun z => nomatch z)
    refine ⟨_, rfl, (p : Int), rfl, by omega, by omega, ?_⟩
    rw [Int.toNat_natCast]
    refine for_range (lo := 0) (n := p) (fun i σ H4 => ∃ y5 y6 y7 y8, σ = [some (.ref a), some (.int m), some (.int (p : Int)), some (.int way), some (.ref D), y5, y6, y7, y8] ∧ ∃ ls : List Nat, ls.length = i ∧ (∀ x ∈ ls, x < 10 ^ 31) ∧ H4 D = some (.lst (ls.map vN)) ∧ Urn H4 a (n + 2 + 6 * (i : Int)) ∧ SameBut a H H4)
      ⟨none, none, none, none, rfl, [], rfl, (fun _ h => nomatch h), eD, ?_, ?_⟩ ?_ ?_
    · exact (b2.same s3).le (by omega)
    · exact (sb1.trans sb2).trans (but_of s3)
    · rintro i σ H4 hi ⟨y5, y6, y7, y8, rfl, ls, hl, hls, eD4, b4, sb4⟩
      have i12 : (i : Int) < 12 := by omega
      have lls : ls.length < sizeLine := Nat.lt_of_lt_of_le (show ls.length < 13 by omega) (by decide)
      refine ⟨_, rfl, a, 3, n + 2 + 6 * (i : Int), rfl, b4, by omega, by decide, by decide, fun few H5 f0 f3 b5 sb5 => ?_⟩
      refine ⟨_, rfl, _, rfl, _, _, rfl, rfl, .inl ⟨by decide, by decide⟩, a, 3 * (p : Int), n + 2 + 6 * (i : Int) + 1, rfl, b5, by omega, by omega, by omega, fun some H6 g0 g3 b6 sb6 => ?_⟩
      refine ⟨_, _, rfl, ?_⟩
      -- great
      refine ⟨_, rfl, _, rfl, _, _, rfl, rfl, ⟨by decide, by decide, by decide⟩, _, _, rfl, rfl, ⟨by decide, by decide, by decide⟩, _, _, rfl, rfl, _, rfl, a, 99, _, rfl, b6, by omega, by decide, by decide, fun v99 H7 c0 c1 b7 sb7 => ?_⟩
      refine ⟨_, _, rfl, rfl, _, rfl, _, _, rfl, rfl, ⟨by decide, by decide, by decide⟩, a, (10 : Int) ^ (29 : Int).toNat, _, rfl, b7, by omega, by decide, by decide, fun v29 H8 d0 d1 b8 sb8 => ?_⟩
      refine ⟨(by show 4 ≤ sizeLine; decide), fun L1 H9 nL1 s9 eL1 => ?_⟩
      have naL1 := b8.ne nL1
      refine ⟨_, rfl, a, 4, _, rfl, b8.same s9, by omega, by decide, by decide, fun v4 H10 h0 h4 b10 sb10 => ?_⟩
      have eL1' := sb10 L1 _ naL1.symm eL1
      have d1' : v29 < 100000000000000000000000000000 := d1
      obtain ⟨gv, gl, hg⟩ : ∃ gv : Nat, gv < 10 ^ 31 ∧ ([V.int few, V.int some, V.int (10 ^ (30 : Int).toNat - 10 ^ (12 : Int).toNat - v99), V.int v29] : List V)[v4.toNat]? = .some (V.int (gv : Int)) := by
        obtain ⟨j, rfl⟩ := Int.eq_ofNat_of_zero_le h0
        match j, h4 with
        | 0, _ => exact ⟨few.toNat, by omega, congrArg (fun z => Option.some (V.int z)) (Int.toNat_of_nonneg f0).symm⟩
        | 1, _ => exact ⟨some.toNat, by omega, congrArg (fun z => Option.some (V.int z)) (Int.toNat_of_nonneg g0).symm⟩
        | 2, _ =>
          have z : (10 : Int) ^ (30 : Int).toNat - 10 ^ (12 : Int).toNat = 999999999999999999000000000000 := by decide
          exact ⟨(10 ^ (30 : Int).toNat - 10 ^ (12 : Int).toNat - v99).toNat, by omega, congrArg (fun z => Option.some (V.int z)) (Int.toNat_of_nonneg (by omega)).symm⟩
        | 3, _ => exact ⟨v29.toNat, by omega, congrArg (fun z => Option.some (V.int z)) (Int.toNat_of_nonneg d0).symm⟩
        | j + 4, z => exact absurd z (by omega)
      refine ⟨L1, _, v4, V.int (gv : Int), rfl, rfl, SqL.of eL1', ?_, ?_⟩
      · have e : v4 = ((v4.toNat : Nat) : Int) := by omega
        rw [e]
        exact atI_nat hg
      -- append
      have sb610 : SameBut a H6 H10 := ((sb7.trans sb8).trans (but_of s9)).trans sb10
      have eD10 : H10 D = .some (.lst (ls.map vN)) := sb610 D _ naD.symm (sb6 D _ naD.symm (sb5 D _ naD.symm eD4))
      refine ⟨_, rfl, .inl ⟨rfl, _, SqL.of eD10⟩, ?_⟩
      refine ⟨_, rfl, _, rfl, _, rfl, _, _, rfl, rfl, _, rfl, _, rfl, a, 3, _, rfl, b10, by omega, by decide, by decide, fun v3 H11 k0 k3 b11 sb11 => ?_⟩
      refine ⟨_, _, rfl, rfl, .inl ⟨by omega, by omega⟩, _, _, rfl, rfl, _, rfl, (by show 4 ≤ sizeLine; decide), fun L2 H12 nL2 s12 eL2 => ?_⟩
      have hmul : (p : Int) * v3 = ((p * v3.toNat : Nat) : Int) := by rw [Int.natCast_mul, Int.toNat_of_nonneg k0]
      have hmul2 : p * v3.toNat ≤ 12 * 3 := Nat.mul_le_mul hp12 (by omega)
      obtain ⟨hv, hlt, hh⟩ : ∃ hv : Nat, hv < 10 ^ 31 ∧ ([V.int few, V.int some, V.int ((p : Int) - 1 + (p : Int) * v3), V.int (gv : Int)] : List V)[way.toNat]? = .some (V.int (hv : Int)) := by
        obtain ⟨j, rfl⟩ := Int.eq_ofNat_of_zero_le w0
        match j, w4 with
        | 0, _ => exact ⟨few.toNat, by omega, congrArg (fun z => Option.some (V.int z)) (Int.toNat_of_nonneg f0).symm⟩
        | 1, _ => exact ⟨some.toNat, by omega, congrArg (fun z => Option.some (V.int z)) (Int.toNat_of_nonneg g0).symm⟩
        | 2, _ => exact ⟨p - 1 + p * v3.toNat, by omega, congrArg (fun z => Option.some (V.int z)) (by rw [hmul]; omega)⟩
        | 3, _ => exact ⟨gv, gl, rfl⟩
        | j + 4, z => exact absurd z (by omega)
      refine ⟨_, rfl, L2, _, way, V.int (hv : Int), rfl, rfl, SqL.of eL2, ?_, ?_⟩
      · have e : way = ((way.toNat : Nat) : Int) := by omega
        rw [e]
        exact atI_nat hh
      have eD12 : H12 D = .some (.lst (ls.map vN)) := s12 _ _ (sb11 D _ naD.symm eD10)
      have b12 := b11.same s12
      refine ⟨D, _, _, rfl, rfl, eD12, by rw [List.length_map]; exact lls, ?_⟩
      refine ⟨_, _, _, _, rfl, ls ++ [hv], ?_, ?_, ?_, ?_, ?_⟩
      · rw [List.length_append, hl]
        rfl
      · intro x hx
        rcases List.mem_append.mp hx with h | h
        · exact hls x h
        · rw [List.mem_singleton.mp h]
          exact hlt
      · rw [upd_same, List.map_append]
        rfl
      · obtain ⟨u0, u1, u2, eu, r1, r2, r3, r4⟩ := b12
        exact ⟨u0, u1, u2, by rw [upd_ne naD]; exact eu, r1, r2, r3, by omega⟩
      · intro b o nb e
        rw [upd_ne (ne_of_none e nD0)]
        exact s12 _ _ (sb11 b o nb (sb610 b o nb (sb6 b o nb (sb5 b o nb (sb4 b o nb e)))))
    · rintro σ H4 ⟨y5, y6, y7, y8, rfl, ls, hl, hls, eD4, b4, sb4⟩
      have pp : (p : Int) ≤ 12 := by omega
      refine ⟨_, rfl, _, rfl, a, (p : Int), _, rfl, b4, by omega, by omega, by omega, fun v5 H5 z0 z1 b5 sb5 => ?_⟩
      have eD5 := sb5 D _ naD.symm eD4
      refine ⟨_, rfl, D, _, rfl, .inl ⟨eD5, fun T H6 nT s6 eT => ⟨(by show 2 ≤ sizeLine; decide), fun U H7 nU s7 eU => ?_⟩⟩⟩
      obtain ⟨j, rfl⟩ := Int.eq_ofNat_of_zero_le z0
      refine q (.ref U) (j, ls) H7 ⟨?_, ?_⟩ ?_ hls ?_ ?_ ⟨U, T, rfl, eU, s7 _ _ eT⟩
      · show j < ls.length
        omega
      · show ls.length ≤ 12
        omega
      · show ((ls.length : Nat) : Int) ≤ m
        omega
      · exact ((b5.same s6).same s7).le (by omega)
      · exact (sb4.trans sb5).trans (but_of (Same.trans s6 s7))
end
end Lk
end
section
set_option maxRecDepth 100000
set_option maxHeartbeats 2000000
namespace Lk
open PySem PySem.Spec PyProof.Rows L2
section
variable {P : Program} {w : World} {K : PySem.W.Frag} {mg : Str → Option Value} {base : Heap}
abbrev nLs : List Str := ["coder", "place", "lengths", "longer"]
theorem sc_lstep : FnScope nLs ["coder"] (defScope s_law_step) := ⟨rfl, rfl, rfl, by decide +kernel, rfl, by decide +kernel, by decide +kernel⟩
theorem ok_lstep {f : Addr} {fd : FuncData} (F : Fun K "_law_step" "_law_step" s_law_step f fd) (ml : mg "len" = none) (mi : mg "list" = none) (mt : mg "tuple" = none) : FnOk P w K mg base CX0 1 f fd ["coder"] spNext := by
  refine F.ok sc_lstep (fun vs H Q E h => ?_) (fun cdv A outer s H vs Q E hr h => ?_)
  · obtain ⟨v, c, rfl, _⟩ := h
    rfl
  · obtain ⟨v, c, rfl, ⟨a, b, rfl, ha, hb⟩, hc, q⟩ := h
    have nd := sc_lstep.nd
    have hl : c.1 < c.2.length := hc.1
    have hm : c.2.length ≤ 12 := hc.2
    refine ⟨_, (pss_cons (by exact (ps_asg (pv 0) (pg_tup rfl (pgs_cons (pg_name (i := 1) nd rfl (Or.inl rfl)) (pgs_cons (pg_name (i := 2) nd rfl (Or.inl rfl)) pgs_nil)))))
      (pss_cons (by exact (ps_set (i := 3) nd rfl (Or.inl rfl) (pe_callTy call_lisS (by rfl) mi (by decide +kernel) (pa_cons (pv 2) pa_nil))))
      (pss_cons (by exact (ps_asg (pe_op op_add (pe_ix ix_list (pv 3) (pv 1) (fun _ _ => rfl)) pe_int) (pg_sub (pv 3) (pv 1) set_list)))
      (pss_one (by exact (ps_ret (pe_tupS (pa_cons (pe_op op_mod (pe_op op_add (pv 1) (pe_ix ix_list (pv 3) (pv 1) (fun _ _ => rfl))) (pe_callB call_len_seq (by rfl) ml PySem.boot_len (pa_cons (pv 3) pa_nil))) (pa_cons (pe_callTy call_tupS (by rfl) mt (by decide +kernel) (pa_cons (pv 3) pa_nil)) pa_nil))))))))), ?_⟩
    refine ⟨_, rfl, a, _, rfl, SqT.of ha, rfl, _, _, rfl, _, _, rfl, rfl, ?_⟩
    refine ⟨_, rfl, b, _, rfl, .inr hb, fun L H1 nL s1 eL => ?_⟩
    have atL : (c.2.map vN)[c.1]? = some (vN (len c c.1)) := nat_at hl
    refine ⟨_, rfl, _, rfl, L, _, _, _, rfl, rfl, SqL.of eL, atI_nat atL, _, _, rfl, rfl, ?_⟩
    have eS : (c.2.map vN).set c.1 (.int ((len c c.1 : Int) + 1)) = (nx c).2.map vN := by
      show _ = (c.2.set c.1 (len c c.1 + 1)).map vN
      rw [List.map_set]
      rfl
    refine ⟨_, rfl, _, rfl, L, _, (c.1 : Int), c.1, rfl, rfl, eL, ?_, ?_⟩
    · rw [List.length_map]
      unfold ixN
      rw [if_pos (by omega), if_pos (by omega)]
      simp
    have e2 : upd H1 L (.lst ((nx c).2.map vN)) L = some (.lst ((nx c).2.map vN)) := upd_same
    show _
    dsimp only
    rw [eS]
    have atN : ((nx c).2.map vN)[c.1]? = some (vN (len c c.1 + 1)) := by
      rw [nat_at (by rw [nx_len]; exact hl)]
      exact congrArg (fun z => some (vN z)) (len_nx_same hc.1)
    have sN : Same H (upd H1 L (.lst ((nx c).2.map vN))) := same_push s1 nL
    refine ⟨_, rfl, _, rfl, _, rfl, L, _, _, _, rfl, rfl, SqL.of e2, atI_nat atN, _, _, rfl, rfl, _, rfl, L, _, rfl, .inl (SqL.of e2), _, _, rfl, rfl, ?_, _, rfl, L, _, rfl, .inl ⟨e2, fun T H3 nT s3 eT => ⟨(by show 2 ≤ sizeLine; decide), fun U H4 nU s4 eU => ?_⟩⟩⟩
    · show (0 : Int) < (((nx c).2.map vN).length : Int)
      rw [List.length_map, nx_len]
      omega
    refine q (.ref U) H4 (Same.trans sN (Same.trans s3 s4)) ⟨U, T, rfl, ?_, s4 _ _ eT⟩
    rw [eU]
    show some (HO.tup [V.int (((c.1 : Int) + ((len c c.1 + 1 : Nat) : Int)) % ((((nx c).2.map vN).length : Nat) : Int)), V.ref T]) = some (HO.tup [V.int (((c.1 + (len c c.1 + 1)) % c.2.length : Nat) : Int), V.ref T])
    rw [List.length_map, nx_len, Int.natCast_emod, Int.natCast_add c.1]
end
end Lk
end
section
set_option maxRecDepth 100000
set_option maxHeartbeats 2000000
namespace Lk
open PySem PySem.Spec PyProof.Rows L2
section
variable {P : Program} {w : World} {K : PySem.W.Frag} {mg : Str → Option Value} {base : Heap}
abbrev nLg : List Str := ["coder", "p", "place"]
theorem sc_goals : FnScope nLg ["coder"] (defScope s_law_goals) := ⟨rfl, rfl, rfl, by decide +kernel, rfl, by decide +kernel, by decide +kernel⟩
theorem ok_goals {f : Addr} {fd : FuncData} (F : Fun K "_law_goals" "_law_goals" s_law_goals f fd) (ml : mg "len" = none) (mr : mg "range" = none) : FnOk P w K mg base CX0 1 f fd ["coder"] spGoals := by
  refine F.ok sc_goals (fun vs H Q E h => ?_) (fun cdv A outer s H vs Q E hr h => ?_)
  · obtain ⟨v, c, rfl, _⟩ := h
    rfl
  · obtain ⟨v, c, rfl, ⟨a, b, rfl, ha, hb⟩, hc, q⟩ := h
    have nd := sc_goals.nd
    have hm : c.2.length ≤ 12 := hc.2
    have hp := hc.pos
    refine ⟨_, (pss_cons (by exact (ps_set (i := 1) nd rfl (Or.inr rfl) (pe_callB call_len_seq (by rfl) ml PySem.boot_len (pa_cons (pe_ix ix_tup (pv 0) pe_int (fun _ _ => rfl)) pa_nil))))
      (pss_one (by exact (ps_ret (pe_lc (own := [("place", 2)]) (g := (gName 2)) (tt := tYes) rfl nd (pi_range1 (by rfl) mr (pa_cons (pv 1) pa_nil)) (blkOk_by (N := nLg) (sc := defScope s_law_goals) (by decide +kernel)) (fun _ _ _ _ _ => (pg_name (i := 2) nd rfl (Or.inl rfl))) (fun _ _ _ _ _ => pts_nil) (fun _ _ _ _ _ => (pe_op op_mod (pe_op op_add (pv 2) (pe_ix (ix_tupK (K := K) rfl) (pe_ix (ix_tupK (K := K) rfl) (pv 0) pe_int (fun _ _ => rfl)) (pv 2) (fun _ _ => rfl))) (pv 1)))))))), ?_⟩
    refine ⟨_, rfl, a, _, 1, _, rfl, rfl, SqT.of ha, rfl, b, _, rfl, .inr (SqT.of hb), ?_⟩
    rw [List.length_map]
    refine ⟨_, rfl, (c.2.length : Int), rfl, by omega, by omega, fun D nD => ?_⟩
    rw [Int.toNat_natCast]
    refine lc_it walk_range (fun i H3 => Same H H3 ∧ H3 D = some (.lst (((gos c).take i).map vN))) ⟨same_new nD, upd_same⟩ (fun _ _ _ _ => True.intro) ?_ ?_
    · rintro i x H3 H4 hi ⟨s3, e3⟩ ⟨rfl, rfl⟩
      obtain ⟨acc, a1, a2, a3⟩ := snoc_map (f := vN) e3 (gos_at hi) (by rw [gos_len]; omega)
      have atL : (c.2.map vN)[0 + i]? = some (vN (len c i)) := by rw [Nat.zero_add]; exact nat_at hi
      refine ⟨rfl, _, rfl, _, rfl, a, _, 1, _, rfl, rfl, SqT.of (s3 _ _ ha), rfl, _, rfl, b, _, _, _, rfl, rfl, SqT.of (s3 _ _ hb), atI_nat atL, _, _, rfl, rfl, _, rfl, _, _, rfl, rfl, ?_⟩
      refine ⟨(by show (0 : Int) < (c.2.length : Int); omega), acc, a1, a2, same_push s3 nD, ?_⟩
      rw [show vN (go c i) = V.int ((0 + (i : Int) + (len c i : Int)) % (c.2.length : Int)) from ?_] at a3
      · exact a3
      · rw [Int.zero_add]
        show V.int (((i + len c i) % c.2.length : Nat) : Int) = _
        rw [Int.natCast_emod]
        rfl
    · rintro H3 ⟨s3, e3⟩
      rw [show c.2.length = (gos c).length by rw [gos_len], List.take_length] at e3
      exact q D H3 nD s3 e3
end
end Lk
end
section
set_option maxRecDepth 100000
set_option maxHeartbeats 2000000
namespace Lk
open PySem PySem.Spec PyProof.Rows L2
section
variable {P : Program} {w : World} {K : PySem.W.Frag} {mg : Str → Option Value} {base : Heap}
abbrev nLh : List Str := ["goals", "home", "place", "here", "turn"]
theorem sc_home : FnScope nLh ["goals", "home"] (defScope s_law_home) := ⟨rfl, rfl, rfl, by decide +kernel, rfl, by decide +kernel, by decide +kernel⟩
theorem ok_home {f : Addr} {fd : FuncData} (F : Fun K "_law_home" "_law_home" s_law_home f fd) (ml : mg "len" = none) (mr : mg "range" = none) : FnOk P w K mg base CX0 1 f fd ["goals", "home"] spHome := by
  refine F.ok sc_home (fun vs H Q E h => ?_) (fun cdv A outer s H vs Q E hr h => ?_)
  · obtain ⟨g, c, rfl, _⟩ := h
    rfl
  · obtain ⟨g, c, rfl, hg, hc, h12, q⟩ := h
    have nd := sc_home.nd
    have hp : 0 < c.2.length := Nat.lt_of_le_of_lt (Nat.zero_le _) hc
    refine ⟨_, (pss_cons (by exact (ps_for PassesOwn.never rfl (pi_range1 (by rfl) mr (pa_cons (pe_callB call_len_seq (by rfl) ml PySem.boot_len (pa_cons (pv 0) pa_nil)) pa_nil)) (pg_name (i := 2) nd rfl (Or.inl rfl)) (pss_cons (by exact (ps_set (i := 3) nd rfl (Or.inl rfl) (pv 2)))
      (pss_cons (by exact (ps_for PassesOwn.never rfl (pi_range1 (by rfl) mr (pa_cons (pe_callB call_len_seq (by rfl) ml PySem.boot_len (pa_cons (pv 0) pa_nil)) pa_nil)) (pg_name (i := 4) nd rfl (Or.inl rfl)) (pss_one (by exact (ps_set (i := 3) nd rfl (Or.inl rfl) (pe_ifExp (pt_cmpR op_eq (pv 3) (pv 1) (nomark _)) (pv 3) (pe_ix ix_list (pv 0) (pv 3) (fun _ _ => rfl))))))))
      (pss_one (by exact (ps_if (pt_cmpR op_ne (pv 3) (pv 1) (nomark _)) (pss_one (by exact (ps_ret pe_bl))) pss_nil)))))))
      (pss_one (by exact (ps_ret pe_bl)))), ?_⟩
    refine ⟨_, rfl, g, _, rfl, .inl (SqL.of hg), (c.2.length : Int), by rw [List.length_map, gos_len], by omega, by omega, ?_⟩
    rw [Int.toNat_natCast]
    refine for_range (lo := 0) (n := c.2.length) (fun i σ H2 => ∃ y2 y3 y4, σ = [some (.ref g), some (.int (c.1 : Int)), y2, y3, y4] ∧ H2 = H ∧ ∀ j, j < i → hw c c.2.length j = c.1) ⟨none, none, none, rfl, rfl, fun _ h => absurd h (Nat.not_lt_zero _)⟩ ?_ ?_
    · rintro i σ H2 hi ⟨y2, y3, y4, rfl, rfl, hall⟩
      refine ⟨_, rfl, _, rfl, g, _, rfl, .inl (SqL.of hg), (c.2.length : Int), by rw [List.length_map, gos_len], by omega, by omega, ?_⟩
      rw [Int.toNat_natCast]
      refine for_range (lo := 0) (n := c.2.length) (fun k σ H3 => ∃ y4, σ = [some (.ref g), some (.int (c.1 : Int)), some (.int (0 + (i : Int))), some (.int (hw c k i : Int)), y4] ∧ H3 = H2) ⟨y4, by rw [show hw c 0 i = i from rfl, Int.zero_add]; rfl, rfl⟩ ?_ ?_
      · rintro k σ H3 hk ⟨z4, rfl, rfl⟩
        have hlt := hw_lt hc hi k
        have atG : ((gos c).map vN)[hw c k i]? = some (vN (go c (hw c k i))) := by
          rw [List.getElem?_map, gos_at hlt]
          rfl
        refine ⟨_, rfl, _, rfl, rfl, _, rfl, ite2 (fun e => ?_) (fun e => ?_)⟩
        · have e2 := of_decide_eq_true e
          injection e2 with e2
          have e3 : hw c k i = c.1 := by omega
          refine ⟨_, rfl, some (.int (0 + (k : Int))), ?_, rfl⟩
          show [some (V.ref g), some (V.int (c.1 : Int)), some (V.int (0 + (i : Int))), some (V.int (hw c k i : Int)), some (V.int (0 + (k : Int)))] = [some (V.ref g), some (V.int (c.1 : Int)), some (V.int (0 + (i : Int))), some (V.int (hw c (k + 1) i : Int)), some (V.int (0 + (k : Int)))]
          rw [show hw c (k + 1) i = if hw c k i = c.1 then hw c k i else go c (hw c k i) from rfl, if_pos e3]
        · have e3 : hw c k i ≠ c.1 := fun z => e (by rw [z]; exact decide_eq_true rfl)
          refine ⟨_, rfl, _, rfl, g, _, _, _, rfl, rfl, SqL.of hg, atI_nat atG, some (.int (0 + (k : Int))), ?_, rfl⟩
          show [some (V.ref g), some (V.int (c.1 : Int)), some (V.int (0 + (i : Int))), some (V.int (go c (hw c k i) : Int)), some (V.int (0 + (k : Int)))] = [some (V.ref g), some (V.int (c.1 : Int)), some (V.int (0 + (i : Int))), some (V.int (hw c (k + 1) i : Int)), some (V.int (0 + (k : Int)))]
          rw [show hw c (k + 1) i = if hw c k i = c.1 then hw c k i else go c (hw c k i) from rfl, if_neg e3]
      · rintro σ H3 ⟨z4, rfl, rfl⟩
        refine ⟨_, rfl, _, rfl, rfl, _, rfl, ite2 (fun e => ?_) (fun e => ?_)⟩
        · have nf : ¬ Free c := fun fr => by
            have z := (hw_home hc hi (k := c.2.length) (by omega)).mpr (fr i hi)
            rw [z, decide_eq_true rfl] at e
            cases e
          exact q false ⟨fun z => (by cases z), fun z => absurd z nf⟩
        · have e3 : hw c c.2.length i = c.1 := by
            refine Classical.byContradiction fun z => e ?_
            rw [decide_eq_false (fun y => z (by injection y with y; omega))]
            rfl
          refine ⟨_, _, _, rfl, rfl, fun j hj => ?_⟩
          rcases Nat.lt_or_ge j i with l | g
          · exact hall j l
          · rw [show j = i by omega]
            exact e3
    · rintro σ H2 ⟨y2, y3, y4, rfl, rfl, hall⟩
      refine q true ⟨fun _ i hi => (hw_home hc hi (by omega)).mp (hall i hi), fun _ => rfl⟩
end
end Lk
end
section
set_option maxRecDepth 100000
set_option maxHeartbeats 2000000
namespace Lk
open PySem PySem.Spec PyProof.Rows L2
section
variable {P : Program} {w : World} {K : PySem.W.Frag} {mg : Str → Option Value} {base : Heap}
abbrev nLi : List Str := ["coder", "steps"]
theorem sc_linRound : FnScope nLi ["coder"] (defScope s_law_in_round) := ⟨rfl, rfl, rfl, by decide +kernel, rfl, by decide +kernel, by decide +kernel⟩
theorem ok_linRound {f : Addr} {fd : FuncData} (F : Fun K "_law_in_round" "_law_in_round" s_law_in_round f fd) (cg : C8.Cal P w K mg base 1 "_law_goals" spGoals []) (ch : C8.Cal P w K mg base 1 "_law_home" spHome []) (cs : C8.Cal P w K mg base 1 "_law_step" spNext []) : FnOk P w K mg base CX0 2 f fd ["coder"] spEnter := by
  refine F.ok sc_linRound (fun vs H Q E h => ?_) (fun cdv A outer s H vs Q E hr h => ?_)
  · obtain ⟨v, c, rfl, _⟩ := h
    rfl
  · obtain ⟨v, c, rfl, hv, hc, qq⟩ := h
    have nd := sc_linRound.nd
    refine ⟨_, (pss_cons (by exact (ps_set (i := 1) nd rfl (Or.inl rfl) pe_int))
      (pss_cons (by exact (ps_while PassesOwn.never (pt_not (pt_val (C8.pe_c ch hr (by decide) rfl (pa_cons (C8.pe_c cg hr (by decide) rfl (pa_cons (pv 0) pa_nil)) (pa_cons (pe_ix ix_tup (pv 0) pe_int (fun _ _ => rfl)) pa_nil))))) (pss_cons (by exact (ps_set (i := 0) nd rfl (Or.inl rfl) (C8.pe_c cs hr (by decide) rfl (pa_cons (pv 0) pa_nil))))
      (pss_one (by exact (ps_set (i := 1) nd rfl (Or.inl rfl) (pe_op op_add (pv 1) pe_int)))))))
      (pss_one (by exact (ps_ret (pe_tupS (pa_cons (pv 1) (pa_cons (pv 0) pa_nil)))))))), ?_⟩
    obtain ⟨N, hN⟩ := ahead_is hc.1
    refine ⟨fun m σ H1 => ∃ v' i, σ = [some v', some (.int ((i : Nat) : Int))] ∧ m = N - i ∧ i ≤ N ∧ Same H H1 ∧ Cat H1 v' (it i c), ⟨_, v, 0, rfl, rfl, Nat.zero_le _, Same.refl _, hv⟩, ?_⟩
    rintro m σ H1 ⟨v', i, rfl, rfl, hi, s1, cat⟩
    have ok := it_cdOk i hc
    obtain ⟨a, b0, rfl, ha, hb⟩ := id cat
    refine ⟨_, rfl, .ref a, it i c, rfl, cat, ok, fun p H2 nP s2 eP => ?_⟩
    refine ⟨_, rfl, a, _, 0, _, rfl, rfl, SqT.of (s2 _ _ ha), rfl, p, it i c, rfl, eP, ok.1, ok.2, fun b hb => ⟨b, rfl, ?_⟩⟩
    cases b with
    | true =>
      have fr := hb.mp rfl
      have e : i = N := by
        refine Classical.byContradiction fun z => hN.2 i (by omega) fr
      subst e
      refine ⟨_, rfl, _, rfl, (by show 2 ≤ sizeLine; decide), fun p2 H3 np s3 e3 => ?_⟩
      exact qq i (.ref a) p2 _ hN (Same.trans s1 (Same.trans s2 s3)) (cat.same (Same.trans s2 s3)) e3
    | false =>
      have nf : ¬ Free (it i c) := fun z => Bool.false_ne_true (hb.mpr z)
      have lt : i < N := by
        refine Nat.lt_of_le_of_ne hi fun z => nf (by rw [z]; exact hN.1)
      refine ⟨fun σ' H' => ∃ v3, σ' = [some v3, some (.int ((i + 1 : Nat) : Int))] ∧ Same H H' ∧ Cat H' v3 (it (i + 1) c), fun σ' H' p => ?_, ?_⟩
      · obtain ⟨v3, rfl, p2, p3⟩ := p
        exact ⟨N - (i + 1), by omega, v3, i + 1, rfl, rfl, by omega, p2, p3⟩
      · refine ⟨_, rfl, .ref a, it i c, rfl, cat.same s2, ok, fun v3 H3 s3 cat3 => ?_⟩
        rw [← it_succ] at cat3
        exact ⟨_, rfl, _, _, rfl, rfl, v3, rfl, Same.trans s1 (Same.trans s2 s3), cat3⟩
end
end Lk
end
section
set_option maxRecDepth 100000
set_option maxHeartbeats 2000000
namespace Lk
open PySem PySem.Spec PyProof.Rows L2
section
variable {P : Program} {w : World} {K : PySem.W.Frag} {mg : Str → Option Value} {base : Heap}
abbrev nDs : List Str := ["urn", "p", "some", "place"]
theorem sc_dsign : FnScope nDs ["urn", "p"] (defScope s_law_drawn_sign) := ⟨rfl, rfl, rfl, by decide +kernel, rfl, by decide +kernel, by decide +kernel⟩
theorem ok_dsign {f : Addr} {fd : FuncData} (F : Fun K "_law_drawn_sign" "_law_drawn_sign" s_law_drawn_sign f fd) (pull : C8.Cal P w K mg base 1 "_law_pull" spPull []) (mr : mg "range" = none) (mt : mg "tuple" = none) (mu : mg "sum" = none) : FnOk P w K mg base CX0 2 f fd ["urn", "p"] spDSign := by
  refine F.ok sc_dsign (fun vs H Q E h => ?_) (fun cdv A outer s H vs Q E hr h => ?_)
  · obtain ⟨a, p, n, rfl, _⟩ := h
    rfl
  · obtain ⟨a, p, n, rfl, hb, hn, p1, p12, q⟩ := h
    have nd := sc_dsign.nd
    refine ⟨_, (pss_cons (by exact (ps_set (i := 2) nd rfl (Or.inl rfl) (pe_op op_catS (pe_lstS (pa_cons pe_int pa_nil)) (pe_lc (own := [("place", 3)]) (g := (gName 3)) (tt := tYes) rfl nd (pi_range1 (by rfl) mr (pa_cons (pe_op op_sub (pv 1) pe_int) pa_nil)) (blkOk_by (N := nDs) (sc := defScope s_law_drawn_sign) (by decide +kernel)) (fun _ _ _ _ _ => (pg_name (i := 3) nd rfl (Or.inl rfl))) (fun _ _ _ _ _ => pts_nil) (fun _ _ _ _ _ => (C8.pe_c pull hr (by decide) rfl (pa_cons (pv 0) (pa_cons (pv 1) pa_nil))))))))
      (pss_one (by exact (ps_ret (pe_callTy call_tupS (by rfl) mt (by decide +kernel) (pa_cons (pe_slice sl_list (pe_op op_catS (pv 2) (pe_lstS (pa_cons (pe_op op_mod (pe_op op_sub pe_int (pe_callB (cr_sum rfl) (by rfl) mu (by decide +kernel) (pa_cons (pv 2) pa_nil))) (pv 1)) pa_nil))) po_none (po_some (pv 1))) pa_nil)))))), ?_⟩
    refine ⟨(by show 1 ≤ sizeLine; decide), fun L1 H1 n1 s1 e1 => ?_⟩
    have b1 := hb.same s1
    have na1 : L1 ≠ a := (hb.ne n1).symm
    refine ⟨_, rfl, _, _, rfl, rfl, (p : Int) - 2, rfl, by omega, by omega, fun D nD => ?_⟩
    have naD := b1.ne nD
    have z40 : (12 : Int) ≤ 10 ^ 40 := by decide
    rw [show ((p : Int) - 2).toNat = p - 2 by omega]
    refine lc_it walk_range (fun k H8 => ∃ ls : List Nat, ls.length = k ∧ (∀ x ∈ ls, x < p) ∧ H8 D = some (.lst (ls.map vN)) ∧ Urn H8 a (n + (k : Int)) ∧ SameBut a H1 H8) ⟨[], rfl, (fun _ h => nomatch h), upd_same, (b1.same (same_new nD)).le (by omega), but_of (same_new nD)⟩ (fun _ _ _ _ => True.intro) ?_ ?_
    · rintro k x H8 H9 hk ⟨ls, hl, hb8, eD, b8, sb8⟩ ⟨rfl, rfl⟩
      refine ⟨rfl, _, rfl, _, rfl, a, (p : Int), _, rfl, b8, by omega, by omega, by omega, fun v H10 v0 v1 b10 sb10 => ?_⟩
      have e10 := sb10 D _ naD.symm eD
      obtain ⟨m, rfl⟩ := Int.eq_ofNat_of_zero_le v0
      refine ⟨_, e10, ?_, ls ++ [m], ?_, ?_, ?_, ?_, ?_⟩
      · rw [List.length_map, hl]
        exact Nat.lt_of_lt_of_le (show k < 13 by omega) (by decide)
      · rw [List.length_append, hl]
        rfl
      · intro x hx
        rcases List.mem_append.mp hx with h | h
        · exact hb8 x h
        · rw [List.mem_singleton.mp h]
          omega
      · rw [upd_same, List.map_append]
        rfl
      · obtain ⟨u0, u1, u2, e, r1, r2, r3, r4⟩ := b10
        exact ⟨u0, u1, u2, by rw [upd_ne naD]; exact e, r1, r2, r3, by omega⟩
      · intro b o nb e
        rw [upd_ne (ne_of_none e nD)]
        exact sb10 b o nb (sb8 b o nb e)
    · rintro H8 ⟨ls, hl, hb8, eD, b8, sb8⟩
      have e1' := sb8 L1 _ na1 e1
      refine ⟨L1, D, _, _, rfl, rfl, e1', eD, ?_, fun S H9 n9 s9 e9 => ?_⟩
      · rw [List.length_map, hl]
        exact Nat.le_trans (show 1 + (p - 2) ≤ 12 by omega) (by decide)
      have eS : H9 S = some (.lst ((0 :: ls).map vN)) := e9
      obtain ⟨ns, ens, hns⟩ := sum_vN (0 :: ls)
      rw [List.sum_cons, Nat.zero_add] at hns
      obtain ⟨r, er⟩ : ∃ r : Nat, (r : Int) = (1 - ((ls.sum : Nat) : Int)) % (p : Int) := ⟨((1 - ((ls.sum : Nat) : Int)) % (p : Int)).toNat, Int.toNat_of_nonneg (Int.emod_nonneg _ (by omega))⟩
      refine ⟨_, rfl, _, rfl, S, ns, rfl, SqL.of (by rw [← ens]; exact eS), _, _, rfl, rfl, _, rfl, _, _, rfl, rfl, (by omega), ?_⟩
      dsimp only
      rw [hns, ← er]
      refine ⟨(by show 1 ≤ sizeLine; decide), fun R H10 n10 s10 e10 => ?_⟩
      refine ⟨S, R, _, _, rfl, rfl, s10 _ _ eS, e10, ?_, fun T H11 n11 s11 e11 => ?_⟩
      · rw [List.length_map, List.length_cons, hl]
        exact Nat.le_trans (show p - 2 + 1 + 1 ≤ 13 by omega) (by decide)
      have eT : H11 T = some (.lst ((0 :: (ls ++ [r])).map vN)) := by
        rw [e11, List.map_cons, List.map_cons, List.map_append]
        rfl
      obtain ⟨t1, t2, t3, t4⟩ := sign_drawn p1 ls hl hb8 r er _ rfl
      refine ⟨_, rfl, _, rfl, T, _, rfl, SqL.of eT, fun C nC => ?_⟩
      rw [cut_to (n := p) (by rw [List.length_map, List.length_cons, List.length_append, hl]; show p ≤ p - 2 + 1 + 1; omega), ← List.map_take]
      generalize (0 :: (ls ++ [r])).take p = t at t1 t2 t3 t4
      have nCH : H C = none := by
        cases e : H C with
        | none => rfl
        | some o =>
          by_cases z : C = a
          · exact absurd nC (by rw [z]; obtain ⟨_, _, _, e, _⟩ := ((b8.same s9).same s10).same s11; rw [e]; exact fun z => nomatch z)
          · exact absurd (s11 _ _ (s10 _ _ (s9 _ _ (sb8 C o z (s1 _ _ e))))) (by rw [nC]; exact fun z => nomatch z)
      refine ⟨C, _, rfl, .inl ⟨upd_same, fun W H12 nW s12 e12 => ?_⟩⟩
      have s8 : Same H8 H12 := Same.trans s9 (Same.trans s10 (Same.trans s11 (Same.trans (same_new nC) s12)))
      have sb : SameBut a H H12 := ((but_of s1).trans sb8).trans (but_of s8)
      have b12 := b8.same s8
      refine q t W H12 t1 t2 t3 t4 (b12.le (by omega)) sb ?_ e12
      cases e : H W with
      | none => rfl
      | some o =>
        have nW2 : upd H11 C (.lst (t.map vN)) W = none := nW
        by_cases z : W = a
        · exact absurd nW2 (by rw [z]; obtain ⟨_, _, _, e, _⟩ := (((b8.same s9).same s10).same s11).same (same_new (o := .lst (t.map vN)) nC); rw [e]; exact fun z => nomatch z)
        · exact absurd (same_new nC _ _ (s11 _ _ (s10 _ _ (s9 _ _ (sb8 W o z (s1 _ _ e)))))) (by rw [nW2]; exact fun z => nomatch z)
end
end Lk
end
section
set_option maxRecDepth 100000
set_option maxHeartbeats 2000000
/-! Lists of one word: those of a list that are told otherwise; == of lists of such. -/
namespace Lk
open PySem PySem.Spec PyProof.Rows L2
/-- a list of the one word -/
def toldW (nm : Str) (Q : VK) (H : Hp) : Prop := ∀ p H', Same H H' → H' p = some (.lst [.str nm]) → Q (.ref p) H'
theorem shaped_w {w : Str} (hs : PyData.strOk w = true) : SeqAt.shaped (.list [.str w]) = true := by
  unfold SeqAt.shaped
  simp [PyData.canLay0, PyData.canLayAll0, PyData.depth, PyData.depthAll, hs]
theorem eqv_w (w : Str) : PyData.eqv (.list [.str w]) (.list [.str w]) = true := by simp [PyData.eqv, PyData.eqvAll]
theorem dp_w {K : PySem.W.Frag} {H : Hp} {p : Addr} {w : Str} (e : H p = some (.lst [.str w])) : Dp K H (.ref p) (.list [.str w]) := .lst (SqL.of e) (.cons (.str _) .nil)
/-- call != [w] -/
theorem ne_w {K : PySem.W.Frag} {σ : L2.St} {H : Hp} {w : Str} {call : TE} {Q : Bool → Hp → Prop} (hs : PyData.strOk w = true) (h : ∀ Q1, toldW w Q1 H → call σ H Q1) (q : ∀ H1, Same H H1 → Q false H1) :
    tTest (tOp (rNeD K) call (tLstS (tCons (tC (.str w)) tNil))) σ H Q := by
  refine h _ fun p H1 s1 e1 => ⟨(by show 1 ≤ sizeLine; decide), fun p2 H2 n2 s2 e2 => ⟨_, _, dp_w (s2 _ _ e1), dp_w e2, shaped_w hs, shaped_w hs, _, rfl, ?_⟩⟩
  rw [eqv_w]
  exact q H2 (Same.trans s1 s2)
/-- [x for x in l if call != [w]] != [] -/
theorem sift_none {K K1 : PySem.W.Frag} {σ : L2.St} {H : Hp} {Q : Bool → Hp → Prop} {S : Addr} {ws : List V} {i j : Nat} {call : TE} {w : Str} (e : σ[j]? = some (some (.ref S))) (eS : H S = some (.lst ws)) (hw : ∀ x, wipe ((wipe σ [i]).set i (some x)) [i] = wipe σ [i])
    (hs : PyData.strOk w = true) (h : ∀ (k : Nat) (x : V) (H1 : Hp) (Q1 : VK), ws[k]? = some x → Same H H1 → toldW w Q1 H1 → call ((wipe σ [i]).set i (some x)) H1 Q1) (q : ∀ H1, Same H H1 → Q false H1) :
    tTest (tOp (rNeD K1) (tLc (iList K1 (tVar j)) (gName i) (tTest (tOp (rNeD K) call (tLstS (tCons (tC (.str w)) tNil)))) (tVar i) [i]) (tLstS tNil)) σ H Q := by
  have ml0 : SeqAt.shaped (.list []) = true := shaped_ints []
  refine ⟨_, e, S, rfl, ⟨_, SqL.of eS⟩, fun D nD => ?_⟩
  refine lc_it (walk_list (xs := ws)) (fun i H' => Same H H' ∧ H' D = some (.lst [])) ⟨same_new nD, upd_same⟩ (fun _ _ _ r => SqL.of (r.1 _ _ eS)) ?_ ?_
  · rintro k x R1 R2 hk ⟨r1, r2⟩ ⟨rfl, hx⟩
    refine ⟨hw x, ne_w hs (fun Q1 t => h k x R2 Q1 hx r1 t) fun H1 s1 => ?_⟩
    exact ⟨Same.trans r1 s1, s1 _ _ r2⟩
  · rintro R1 ⟨r1, r2⟩
    refine ⟨(by show 0 ≤ sizeLine; exact Nat.zero_le _), fun Z R2 nZ rz eZ => ⟨.list [], .list [], .lst (SqL.of (rz _ _ r2)) .nil, .lst (SqL.of eZ) .nil, ml0, ml0, _, rfl, ?_⟩⟩
    rw [show (!PyData.eqv (.list []) (.list [])) = false from by simp [PyData.eqv, PyData.eqvAll]]
    exact q R2 (Same.trans r1 rz)
theorem dps_w {K : PySem.W.Frag} {H : Hp} {w : Str} : ∀ {rs : List Addr}, (∀ r ∈ rs, H r = some (.lst [.str w])) → DpAll K H (rs.map V.ref) (List.replicate rs.length (.list [.str w]))
  | [], _ => .nil
  | r :: rs, h => .cons (dp_w (h r List.mem_cons_self)) (dps_w fun x hx => h x (List.mem_cons_of_mem _ hx))
theorem eqv_self_w (w : Str) (n : Nat) : PyData.eqv (.list (List.replicate n (.list [.str w]))) (.list (List.replicate n (.list [.str w]))) = true := by
  simp only [PyData.eqv]
  induction n with
  | zero => simp [PyData.eqvAll]
  | succ n ih =>
    rw [List.replicate_succ]
    simp only [PyData.eqvAll, ih, Bool.and_true]
    exact eqv_w w
theorem lays_w {w : Str} (hs : PyData.strOk w = true) (n : Nat) : PyData.canLayAll0 (List.replicate n (.list [.str w])) = true ∧ PyData.depthAll (List.replicate n (.list [.str w])) ≤ 1 := by
  induction n with
  | zero => simp [PyData.canLayAll0, PyData.depthAll]
  | succ n ih =>
    rw [List.replicate_succ]
    simp [PyData.canLayAll0, PyData.depthAll, PyData.canLay0, PyData.depth, ih.1, ih.2, hs]
theorem shaped_wl {w : Str} (hs : PyData.strOk w = true) (n : Nat) : SeqAt.shaped (.list (List.replicate n (.list [.str w]))) = true := by
  have z := lays_w hs n
  unfold SeqAt.shaped
  rw [Bool.and_eq_true]
  refine ⟨by simp only [PyData.canLay0, z.1], decide_eq_true ?_⟩
  simp only [PyData.depth]
  have := z.2
  omega
/-- what the repr of a list of long lists asks -/
def GoodX (d : PyData) : Prop := d.showable = true ∧ d.depth ≤ 9 ∧ wt d ≤ 210000
theorem Good.x {d : PyData} (h : Good d) : GoodX d := ⟨h.1, by have := h.2.1; omega, by have := h.2.2; omega⟩
theorem goodX_list {ds : List PyData} (h : ∀ d ∈ ds, Good d) (l : ds.length ≤ 100) : GoodX (.list ds) := by
  have z := wts_le (B := 2000) (ds := ds) fun d hd => (h d hd).2.2
  have z2 : ds.length * 2002 ≤ 100 * 2002 := Nat.mul_le_mul_right _ l
  refine ⟨?_, ?_, ?_⟩
  · simp only [PyData.showable]
    exact showAll_of fun d hd => (h d hd).1
  · have z := depAll_le (B := 8) fun d hd => (h d hd).2.1
    simp only [PyData.depth]
    omega
  · show 2 + wts ds ≤ 210000
    omega
theorem rep_lists {K : PySem.W.Frag} {H : Hp} {Q : VK} {p : Addr} {xs : List V} {ds : List PyData} (e : H p = some (.lst xs)) (m : ThAll H xs ds) (g : ∀ d ∈ ds, GoodX d) (l : ds.length ≤ 10) (q : Q (.str (PyData.list ds).shown) H) : rRep K [.ref p] H Q := by
  refine ⟨.ref p, .list ds, rfl, Th.dq _ (.lst e m), (fun kvs z => nomatch z), ?_, ?_, ?_, q⟩
  · simp only [PyData.showable]
    exact showAll_of fun d hd => (g d hd).1
  · have z := depAll_le (B := 9) fun d hd => (g d hd).2.1
    simp only [PyData.depth]
    omega
  · have a := shown_wt (.list ds)
    have z := wts_le (B := 210000) (ds := ds) fun d hd => (g d hd).2.2
    have z2 : ds.length * 210002 ≤ 10 * 210002 := Nat.mul_le_mul_right _ l
    have c : wt (.list ds) = 2 + wts ds := rfl
    rw [sizeLine_eq]
    omega
end Lk
end
section
set_option maxRecDepth 100000
set_option maxHeartbeats 2000000
/-! All classes of errors, seen from one. -/
namespace Lk
open PySem PySem.Spec PyProof.Rows L2
def ernL : List Str := ["NoKnown", "NoText", "NoPairs", "NoLoop", "NoCoder", "NoCount", "NotRound", "NoTree", "NoSign", "NotLike", "NoPlace", "NoCounts", "NoWord", "Nothing", "NoLog", "NoRow"]
/-- all classes of errors, seen from the one at CL, whose name is nm -/
structure Errs16 (K : PySem.W.Frag) (mg : Str → Option Value) (CL : Addr) (nm : Str) : Prop where
  C : ExcC K CL
  ve : mg "ValueError" = none
  yes : PySem.W.kitOne K (.ref CL) (.type "ValueError") = some true
  iso : mg "isinstance" = none
  e : ∀ x ∈ ernL, IsB K mg CL x (decide (x = nm))
end Lk
end
section
set_option maxRecDepth 100000
set_option maxHeartbeats 4000000
namespace Lk
open PySem PySem.Spec PyProof.Rows L2 L2H HotX
theorem pe_isE {X : Cx} {x : Str} {b : Bool} {D : Addr} {pe : Addr × Obj} {p p1 p2 pos : Pos} (hp : pe ∈ X.pn) (hz : Zc (.ref D) none pe.2) (hf : ∃ vs, pe.2.data = .fields vs) (C : ExcC X.K D) (B : IsB X.K X.mg D x b) (mi : X.mg "isinstance" = none) (hi : Gl X "isinstance") (hg : Gl X x)
    (hN : X.N[0]? = some ("e" : Str)) (hv : Vis X.env.scope ("e" : Str)) (hd : (x == ("__debug__" : Str)) = false := by decide)
    (hs1 : starEach [Expr.Name "e" p1, Expr.Name x p2] X.env = (false, eval (.Name "e" p1) X.env) :: starEach [Expr.Name x p2] X.env := by rfl) (hs2 : starEach [Expr.Name x p2] X.env = (false, eval (.Name x p2) X.env) :: starEach [] X.env := by rfl) :
    PE X (.Call (.Name "isinstance" p) [.Name "e" p1, .Name x p2] [] pos) (fun σ H Q => σ[0]? = some (some (.ref pe.1)) ∧ Q (.bl b) H) := by
  obtain ⟨c, g, k⟩ := B
  have h : PE X (.Call (.Name "isinstance" p) [.Name "e" p1, .Name x p2] [] pos) _ := pe_callB (call_isP hp) hi mi (by decide +kernel) (pa_cons (pv 0 hN hv) (pa_cons (pe_glob (v := .ref c) hg g rfl hd) pa_nil))
  exact ⟨fun pins s σ H Q I q => h.run pins s σ H Q I ⟨.ref pe.1, q.1, D, .ref c, _, b, rfl, C, hz, hf, .own c, k, q.2⟩⟩
def hnam : List Str := ["NoKnown", "NoText", "NoPairs", "NoLoop", "NoCoder", "NoCount", "NotRound", "NoTree", "NoSign", "NotLike", "NoPlace", "NoCounts", "NoWord", "Nothing", "NoLog", "NoRow", "odd"]
def hb (nm : Str) (j : Nat) : Bool := match ernL[j]? with
  | some x => decide (x = nm)
  | none => false
def hbits (nm : Str) : List V := (ernL.map fun x => V.bl (decide (x = nm))) ++ [V.bl false]
/-- what is gathered of the first i -/
def hgot (nm : Str) (i : Nat) : List V := ((ernL.take i).filter fun x => decide (x = nm)).map V.str
theorem hgot_all {nm : Str} (h : nm ∈ ernL) : some (HO.lst (hgot nm (17 : Int).toNat)) = some (.lst [.str nm]) := by
  have z : ∀ x ∈ ernL, hgot x 17 = [.str x] := by decide +kernel
  exact congrArg (fun l => some (HO.lst l)) (z nm h)
theorem hbits_at {nm : Str} : ∀ {j : Nat}, j < 17 → (hbits nm)[j]? = some (V.bl (hb nm j))
  | 0, _ => rfl
  | 1, _ => rfl
  | 2, _ => rfl
  | 3, _ => rfl
  | 4, _ => rfl
  | 5, _ => rfl
  | 6, _ => rfl
  | 7, _ => rfl
  | 8, _ => rfl
  | 9, _ => rfl
  | 10, _ => rfl
  | 11, _ => rfl
  | 12, _ => rfl
  | 13, _ => rfl
  | 14, _ => rfl
  | 15, _ => rfl
  | 16, _ => rfl
  | n + 17, h => absurd h (by omega)
theorem hgot_no {nm : Str} {j : Nat} (h : hb nm j = false) : hgot nm (j + 1) = hgot nm j := by
  unfold hgot
  unfold hb at h
  rw [List.take_add_one]
  cases e : ernL[j]? with
  | none => rw [Option.toList_none, List.append_nil]
  | some x =>
    rw [e] at h
    dsimp only at h
    rw [Option.toList_some, List.filter_append, List.filter_cons, h]
    simp
theorem hgot_yes {nm : Str} {j : Nat} (h : hb nm j = true) : hgot nm (j + 1) = hgot nm j ++ [V.str nm] ∧ (hnam.map V.str)[j]? = some (V.str nm) := by
  unfold hgot
  unfold hb at h
  cases e : ernL[j]? with
  | none =>
    rw [e] at h
    cases h
  | some x =>
    rw [e] at h
    have ex : x = nm := of_decide_eq_true h
    subst ex
    refine ⟨?_, ?_⟩
    · rw [List.take_add_one, e, Option.toList_some, List.filter_append, List.filter_cons, decide_eq_true rfl]
      simp
    · have lt : j < ernL.length := (List.getElem?_eq_some_iff.mp e).1
      have z : hnam = ernL ++ [("odd" : Str)] := rfl
      rw [List.getElem?_map, z, List.getElem?_append_left lt, e]
      rfl
theorem hgot_len {nm : Str} {j : Nat} : (hgot nm j).length ≤ 16 := by
  unfold hgot
  rw [List.length_map]
  exact Nat.le_trans (List.length_filter_le _ _) (by rw [List.length_take]; exact Nat.min_le_right _ _)
section
variable {P : Program} {w : World} {K : PySem.W.Frag} {mg : Str → Option Value} {base : Heap}
abbrev nHw : List Str := ["e", "some", "names", "k"]
theorem sc_hwords : FnScope nHw ["e"] (defScope s_law_words) := ⟨rfl, rfl, rfl, by decide +kernel, rfl, by decide +kernel, by decide +kernel⟩
theorem ok_hwords {f D : Addr} {fd : FuncData} {nm : Str} (F : Fun K "_law_words" "_law_words" s_law_words f fd) (hnm : nm ∈ ernL) (T : Errs16 K mg D nm) (mr : mg "range" = none) : FnE P w K mg base 1 f fd "e" D (toldW nm) := by
  refine fnE_of F sc_hwords (fun cdv A outer s H Q p hot hz hr q => ?_)
  have nd := sc_hwords.nd
  have hp : p ∈ (cxH C8.CX0 P w K mg base nHw "_law_words" (defScope s_law_words) f cdv A outer s H C8.E0 p).pn := List.mem_singleton.mpr rfl
  have hf : ∃ vs, p.2.data = .fields vs := by
    obtain ⟨_, vs, e, _⟩ := hot
    exact ⟨vs, e⟩
  have hotX : Hot1 (cxH C8.CX0 P w K mg base nHw "_law_words" (defScope s_law_words) f cdv A outer s H C8.E0 p).A p := hot
  refine ⟨_, (pss_cons (by exact (ps_set (i := 1) nd rfl (Or.inr rfl) (pe_lstS (pa_cons (pe_isE hp hz hf T.C (T.e "NoKnown" (by decide)) T.iso rfl rfl rfl (.inl rfl)) (pa_cons (pe_isE hp hz hf T.C (T.e "NoText" (by decide)) T.iso rfl rfl rfl (.inl rfl)) (pa_cons (pe_isE hp hz hf T.C (T.e "NoPairs" (by decide)) T.iso rfl rfl rfl (.inl rfl)) (pa_cons (pe_isE hp hz hf T.C (T.e "NoLoop" (by decide)) T.iso rfl rfl rfl (.inl rfl)) pa_nil)))))))
      (pss_cons (by exact (ps_set (i := 1) nd rfl (Or.inr rfl) (pe_op op_catS (pv 1) (pe_lstS (pa_cons (pe_isE hp hz hf T.C (T.e "NoCoder" (by decide)) T.iso rfl rfl rfl (.inl rfl)) (pa_cons (pe_isE hp hz hf T.C (T.e "NoCount" (by decide)) T.iso rfl rfl rfl (.inl rfl)) (pa_cons (pe_isE hp hz hf T.C (T.e "NotRound" (by decide)) T.iso rfl rfl rfl (.inl rfl)) (pa_cons (pe_isE hp hz hf T.C (T.e "NoTree" (by decide)) T.iso rfl rfl rfl (.inl rfl)) pa_nil))))))))
      (pss_cons (by exact (ps_set (i := 1) nd rfl (Or.inr rfl) (pe_op op_catS (pv 1) (pe_lstS (pa_cons (pe_isE hp hz hf T.C (T.e "NoSign" (by decide)) T.iso rfl rfl rfl (.inl rfl)) (pa_cons (pe_isE hp hz hf T.C (T.e "NotLike" (by decide)) T.iso rfl rfl rfl (.inl rfl)) (pa_cons (pe_isE hp hz hf T.C (T.e "NoPlace" (by decide)) T.iso rfl rfl rfl (.inl rfl)) (pa_cons (pe_isE hp hz hf T.C (T.e "NoCounts" (by decide)) T.iso rfl rfl rfl (.inl rfl)) pa_nil))))))))
      (pss_cons (by exact (ps_set (i := 1) nd rfl (Or.inr rfl) (pe_op op_catS (pv 1) (pe_lstS (pa_cons (pe_isE hp hz hf T.C (T.e "NoWord" (by decide)) T.iso rfl rfl rfl (.inl rfl)) (pa_cons (pe_isE hp hz hf T.C (T.e "Nothing" (by decide)) T.iso rfl rfl rfl (.inl rfl)) (pa_cons (pe_isE hp hz hf T.C (T.e "NoLog" (by decide)) T.iso rfl rfl rfl (.inl rfl)) (pa_cons (pe_isE hp hz hf T.C (T.e "NoRow" (by decide)) T.iso rfl rfl rfl (.inl rfl)) pa_nil))))))))
      (pss_cons (by exact (ps_expr (pe_bm PySem.F.plainAttrs_list PySem.F.slot_list_append PySem.F.type_list_append mt_append (pv 1) (pa_cons (pe_not (pe_callB (call_isP hp) (by rfl) T.iso (by decide +kernel) (pa_cons (pv 0) (pa_cons (pe_bltn (v := .ty "ValueError") (by rfl) T.ve (by decide +kernel) rfl) pa_nil)))) pa_nil))))
      (pss_cons (by exact (ps_set (i := 2) nd rfl (Or.inr rfl) (pe_lstS (pa_cons pe_str (pa_cons pe_str (pa_cons pe_str (pa_cons pe_str (pa_cons pe_str (pa_cons pe_str (pa_cons pe_str (pa_cons pe_str (pa_cons pe_str (pa_cons pe_str pa_nil)))))))))))))
      (pss_cons (by exact (ps_set (i := 2) nd rfl (Or.inr rfl) (pe_op op_catS (pv 2) (pe_lstS (pa_cons pe_str (pa_cons pe_str (pa_cons pe_str (pa_cons pe_str (pa_cons pe_str (pa_cons pe_str (pa_cons pe_str pa_nil)))))))))))
      (pss_one (by exact (ps_ret (pe_lcH (own := [("k", 3)]) (g := (gName 3)) hotX hp nd (L2H.pi_range1H (by rfl) mr (pa_cons pe_int pa_nil)) (blkOk_by (N := nHw) (sc := defScope s_law_words) (by decide +kernel)) (fun _ _ _ _ _ => (pg_name (i := 3) nd rfl (Or.inl rfl))) (fun _ _ _ _ _ => pts_one (pt_val (pe_ix (ix_listK (K := K) rfl) (pv 1) (pv 3) (fun _ _ => rfl)))) (fun _ _ _ _ _ => (pe_ix (ix_listK (K := K) rfl) (pv 2) (pv 3) (fun _ _ => rfl)))))))))))))), ?_⟩
  have l4 : 4 ≤ sizeLine := by decide
  refine ⟨rfl, rfl, rfl, rfl, l4, fun S1 H1 n1 s1 e1 => ?_⟩
  refine ⟨_, rfl, rfl, rfl, rfl, rfl, l4, fun T2 H2 n2 s2 e2 => ⟨S1, T2, _, _, rfl, rfl, s2 _ _ e1, e2, (by show 4 + 4 ≤ sizeLine; decide), fun S2 H3 n3 s3 e3 => ?_⟩⟩
  refine ⟨_, rfl, rfl, rfl, rfl, rfl, l4, fun T4 H4 n4 s4 e4 => ⟨S2, T4, _, _, rfl, rfl, s4 _ _ e3, e4, (by show 8 + 4 ≤ sizeLine; decide), fun S3 H5 n5 s5 e5 => ?_⟩⟩
  refine ⟨_, rfl, rfl, rfl, rfl, rfl, l4, fun T6 H6 n6 s6 e6 => ⟨S3, T6, _, _, rfl, rfl, s6 _ _ e5, e6, (by show 12 + 4 ≤ sizeLine; decide), fun S H7 n7 s7 e7 => ?_⟩⟩
  refine ⟨_, rfl, .inl ⟨rfl, _, SqL.of e7⟩, ?_⟩
  refine ⟨_, rfl, D, .ty "ValueError", _, _, rfl, T.C, hz, hf, .ty _, T.yes, _, rfl, S, _, _, rfl, rfl, e7, (by show 16 < sizeLine; decide), ?_⟩
  have nS : H S = none := (Same.trans s1 (Same.trans s2 (Same.trans s3 (Same.trans s4 (Same.trans s5 s6))))).free n7
  have s8 : Same H (upd H7 S (.lst (hbits nm))) := same_push (Same.trans s1 (Same.trans s2 (Same.trans s3 (Same.trans s4 (Same.trans s5 (Same.trans s6 s7)))))) nS
  have e8 : upd H7 S (.lst (hbits nm)) S = some (.lst (hbits nm)) := upd_same
  refine ⟨(by show 10 ≤ sizeLine; decide), fun N1 H9 n9 s9 e9 => ?_⟩
  refine ⟨_, rfl, (by show 7 ≤ sizeLine; decide), fun N2 H10 n10 s10 e10 => ⟨N1, N2, _, _, rfl, rfl, s10 _ _ e9, e10, (by show 10 + 7 ≤ sizeLine; decide), fun N H11 n11 s11 e11 => ?_⟩⟩
  have t11 : Same H H11 := Same.trans s8 (Same.trans s9 (Same.trans s10 s11))
  have eS : H11 S = some (.lst (hbits nm)) := s11 _ _ (s10 _ _ (s9 _ _ e8))
  have eN : H11 N = some (.lst (hnam.map V.str)) := e11
  refine ⟨17, rfl, by decide, by decide, fun L nL => ?_⟩
  refine lc_it (n := (17 : Int).toNat) walk_range (fun i H' => Same H11 H' ∧ H' L = some (.lst (hgot nm i))) ⟨same_new nL, upd_same⟩ (fun _ _ _ _ => True.intro) ?_ ?_
  · rintro j x2 R1 R2 hj ⟨r1, r2⟩ ⟨rfl, rfl⟩
    have hj17 : j < 17 := hj
    have e0 : (0 + (j : Int)) = ((j : Nat) : Int) := Int.zero_add _
    refine ⟨rfl, _, rfl, _, rfl, S, _, _, V.bl (hb nm j), rfl, rfl, SqL.of (r1 _ _ eS), (by rw [e0]; exact atI_nat (hbits_at hj17)), hb nm j, rfl, ?_⟩
    cases eb : hb nm j with
    | false => exact ⟨r1, by rw [r2, hgot_no eb]⟩
    | true =>
      obtain ⟨g1, g2⟩ := hgot_yes eb
      refine ⟨_, rfl, _, rfl, N, _, _, V.str nm, rfl, rfl, SqL.of (r1 _ _ eN), (by rw [e0]; exact atI_nat g2), _, r2, ?_, same_push r1 nL, by rw [upd_same, g1]⟩
      exact Nat.lt_of_le_of_lt hgot_len (by decide)
  · rintro R1 ⟨r1, r2⟩
    exact q L R1 (Same.trans t11 r1) (by rw [r2]; exact hgot_all hnm)
end
end Lk
end
section
set_option maxRecDepth 100000
set_option maxHeartbeats 2000000
/-! What is no coder; that it can be shown. -/
namespace Lk
open PySem PySem.Spec PyProof.Rows L2
theorem isCd_pr (p : PyData) (ls : List PyData) : isCd (.tuple [p, .tuple ls]) = ((decide (1 ≤ ls.length) && decide (ls.length ≤ 12)) && (inR p 0 ((ls.length : Int) - 1) && ls.all natD)) := rfl
/-- a thing that is not too long -/
def GoodM (d : PyData) : Prop := d.showable = true ∧ d.depth ≤ 7 ∧ wt d ≤ 900
theorem GoodM.good {d : PyData} (h : GoodM d) : Good d := ⟨h.1, by have := h.2.1; omega, by have := h.2.2; omega⟩
theorem GoodS.m {d : PyData} (h : GoodS d) : GoodM d := ⟨h.1, by have := h.2.1; omega, by have := h.2.2; omega⟩
theorem goodM_nats {ls : List Nat} (h : ∀ n ∈ ls, n < 10 ^ 45) (l : ls.length ≤ 18) : GoodM (.tuple (ls.map dN)) := by
  refine ⟨?_, ?_, ?_⟩
  · simp only [PyData.showable, showAll_nats h]
  · simp only [PyData.depth, depthAll_ints]
    decide
  · have b := wts_nats h
    show 3 + wts (ls.map dN) ≤ 900
    omega
theorem goodM_lst {ls : List Nat} (h : ∀ n ∈ ls, n < 10 ^ 45) (l : ls.length ≤ 18) : GoodM (.list (ls.map dN)) := by
  refine ⟨?_, ?_, ?_⟩
  · simp only [PyData.showable, showAll_nats h]
  · simp only [PyData.depth, depthAll_ints]
    decide
  · have b := wts_nats h
    show 2 + wts (ls.map dN) ≤ 900
    omega
theorem goodM_some {ds : List PyData} (h : ∀ d ∈ ds, GoodS d ∧ wt d ≤ 60) (l : ds.length ≤ 14) : GoodM (.tuple ds) := by
  refine ⟨?_, ?_, ?_⟩
  · simp only [PyData.showable]
    exact showAll_of fun d hd => (h d hd).1.1
  · have z := depAll_le (B := 6) fun d hd => (h d hd).1.2.1
    simp only [PyData.depth]
    omega
  · have z := wts_le (B := 60) (ds := ds) fun d hd => (h d hd).2
    have z2 : ds.length * 62 ≤ 14 * 62 := Nat.mul_le_mul_right _ l
    show 3 + wts ds ≤ 900
    omega
/-- a pair or so of such -/
theorem good_of {ds : List PyData} (h : ∀ d ∈ ds, GoodM d) (l : ds.length ≤ 2 ∨ wts ds ≤ 1900) : Good (.tuple ds) := by
  have z3 : wts ds ≤ 1900 := by
    rcases l with l | l
    · have z := wts_le (B := 900) (ds := ds) fun d hd => (h d hd).2.2
      have z2 : ds.length * 902 ≤ 2 * 902 := Nat.mul_le_mul_right _ l
      omega
    · exact l
  refine ⟨?_, ?_, ?_⟩
  · simp only [PyData.showable]
    exact showAll_of fun d hd => (h d hd).1
  · have z := depAll_le (B := 7) fun d hd => (h d hd).2.1
    simp only [PyData.depth]
    omega
  · show 3 + wts ds ≤ 2000
    omega
theorem good_ofL {ds : List PyData} (h : ∀ d ∈ ds, GoodM d) (l : ds.length ≤ 2) : Good (.list ds) := by
  have z := wts_le (B := 900) (ds := ds) fun d hd => (h d hd).2.2
  have z2 : ds.length * 902 ≤ 2 * 902 := Nat.mul_le_mul_right _ l
  refine ⟨?_, ?_, ?_⟩
  · simp only [PyData.showable]
    exact showAll_of fun d hd => (h d hd).1
  · have z := depAll_le (B := 7) fun d hd => (h d hd).2.1
    simp only [PyData.depth]
    omega
  · show 2 + wts ds ≤ 2000
    omega
/-- what no length is, nor a place -/
def OddD (d : PyData) : Prop := natD d = false ∧ (∀ b, inR d 0 b = false) ∧ GoodS d ∧ wt d ≤ 60
def spNoCoders : Sp := fun vs H Q _ => ∃ (a : Addr) (v : V) (c : Cd) (n : Int), vs = [.ref a, v] ∧ Urn H a n ∧ n ≤ 90000 ∧ Cat H v c ∧ CdOk c ∧ (∀ x ∈ c.2, x < 10 ^ 45) ∧
  ∀ D H' ws ds, H' D = some (.lst ws) → ThAll (rm a H') ws ds → (∀ d ∈ ds, isCd d = false) → (∀ d ∈ ds, Good d) → ds.length = 19 → Urn H' a (n + 2) → SameBut a H H' → Q (.ref D) H'
/-- a set of places without place 0 that is not left -/
theorem not_free {g : List Nat} (hg : ∀ x ∈ g, x < g.length) (S : Nat → Prop) (h0 : ¬ S 0) (cl : ∀ i, i < g.length → S i → S (g.getD i 0)) {i : Nat} (hi : i < g.length) (hS : S i) : ¬ Free (cdOf g) := fun h => by
  obtain ⟨k, hk⟩ := h i (by rw [cdOf_len]; exact hi)
  have hok : COk (cdOf g) := cdOf_ok (Nat.lt_of_le_of_lt (Nat.zero_le _) hi)
  have key : ∀ k, gon (cdOf g) k i < g.length ∧ S (gon (cdOf g) k i) := fun k => by
    induction k with
    | zero => exact ⟨hi, hS⟩
    | succ k ih =>
      refine ⟨by rw [← cdOf_len g]; exact gon_lt hok (by rw [cdOf_len]; exact hi) _, ?_⟩
      rw [gon_succ, cdOf_go hg ih.1]
      exact cl _ ih.1 ih.2
  have z := (key k).2
  rw [hk] at z
  exact h0 z
/-- a tree with one goal bent to the place itself -/
theorem bent_own {p k : Nat} {t : List Nat} (ht : TOk p t) (hk : k < t.length) : ¬ IsTr p (tD (t.take k ++ [k + 1] ++ t.drop (k + 1))) := fun ⟨u, eu, l, b, fr⟩ => by
  have e := tD_inj eu
  subst e
  have eS : t.take k ++ [k + 1] ++ t.drop (k + 1) = t.set k (k + 1) := by
    rw [List.set_eq_take_append_cons_drop, if_pos hk, List.append_assoc]
    rfl
  rw [eS] at fr b l
  rw [List.length_set] at l
  refine not_free (g := 0 :: t.set k (k + 1)) (fun x hx => ?_) (fun i => i = k + 1) (by omega) (fun i hi e => ?_) (i := k + 1) ?_ rfl fr
  · rw [List.length_cons, List.length_set, l]
    rcases List.mem_cons.mp hx with rfl | h
    · omega
    · exact b x h
  · rw [e, List.getD_eq_getElem?_getD, List.getElem?_cons_succ, List.getElem?_set_self hk]
    rfl
  · rw [List.length_cons, List.length_set]
    omega
/-- .. with a goal beyond -/
theorem bent_far {p k x : Nat} {t : List Nat} (hx : p ≤ x) : ¬ IsTr p (tD (t.take k ++ [x] ++ t.drop (k + 1))) := fun ⟨u, eu, l, b, fr⟩ => by
  have e := tD_inj eu
  subst e
  have z := b x (by simp)
  omega
/-- .. with what is no place -/
theorem bent_odd {p : Nat} {a b : List PyData} {d : PyData} (hd : natD d = false) : ¬ IsTr p (.tuple (a ++ [d] ++ b)) := fun ⟨u, eu, _⟩ => by
  have e : a ++ [d] ++ b = u.map dN := PyData.tuple.inj eu
  have m : d ∈ u.map dN := by rw [← e]; simp
  obtain ⟨j, _, rfl⟩ := List.mem_map.mp m
  have z : natD (dN j) = true := decide_eq_true (show (0 : Int) ≤ (j : Int) by omega)
  rw [z] at hd
  cases hd
/-- the ring of all places but place 0 -/
theorem bent_ring {p : Nat} (p2 : 2 ≤ p) : ¬ IsTr p (tD ((List.range (p - 2)).map (· + 2) ++ [1])) := fun ⟨u, eu, l, b, fr⟩ => by
  have e := tD_inj eu
  subst e
  have ln : ((List.range (p - 2)).map (· + 2) ++ [1]).length = p - 1 := by
    rw [List.length_append, List.length_map, List.length_range]
    show p - 2 + 1 = p - 1
    omega
  refine not_free (g := 0 :: ((List.range (p - 2)).map (· + 2) ++ [1])) (fun x hx => ?_) (fun i => i ≠ 0) (fun h => h rfl) (fun i hi e => ?_) (i := 1) ?_ (by omega) fr
  · rw [List.length_cons, ln]
    rcases List.mem_cons.mp hx with rfl | h
    · omega
    · have := b x h
      omega
  · obtain ⟨j, rfl⟩ : ∃ j, i = j + 1 := ⟨i - 1, by omega⟩
    rw [List.length_cons, ln] at hi
    rw [List.getD_eq_getElem?_getD, List.getElem?_cons_succ]
    by_cases h : j < p - 2
    · rw [List.getElem?_append_left (by rw [List.length_map, List.length_range]; exact h), List.getElem?_map, List.getElem?_range h]
      show j + 2 ≠ 0
      omega
    · have ej : j = p - 2 := by omega
      rw [List.getElem?_append_right (by rw [List.length_map, List.length_range]; omega), List.length_map, List.length_range, ej, Nat.sub_self]
      show (1 : Nat) ≠ 0
      omega
  · rw [List.length_cons, ln]
    omega
def spBent : Sp := fun vs H Q _ => ∃ (a pt : Addr) (p : Nat) (t : List Nat) (n : Int), vs = [.ref a, .int (p : Int), .ref pt] ∧ Urn H a n ∧ n ≤ 90000 ∧ H pt = some (.tup (t.map vN)) ∧ TOk p t ∧ p ≤ 12 ∧
  ∀ D H' ws ds, D ≠ a → H' D = some (.lst ws) → ThAll (rm a H') ws ds → (∀ d ∈ ds, ¬ IsTr p d) → (∀ d ∈ ds, Good d) → ds.length ≤ 12 → Urn H' a (n + 1) → SameBut a H H' → Q (.ref D) H'
end Lk
end
section
set_option maxRecDepth 100000
set_option maxHeartbeats 4000000
namespace Lk
open PySem PySem.Spec PyProof.Rows L2
section
variable {P : Program} {w : World} {K : PySem.W.Frag} {mg : Str → Option Value} {base : Heap}
abbrev nNc : List Str := ["urn", "coder", "place", "lengths", "p", "at", "odd", "some"]
theorem sc_noCoders : FnScope nNc ["urn", "coder"] (defScope s_law_no_coders) := ⟨rfl, rfl, rfl, by decide +kernel, rfl, by decide +kernel, by decide +kernel⟩
theorem ok_noCoders {f : Addr} {fd : FuncData} (F : Fun K "_law_no_coders" "_law_no_coders" s_law_no_coders f fd) (pull : C8.Cal P w K mg base 1 "_law_pull" spPull []) (mi : mg "list" = none) (ml : mg "len" = none) : FnOk P w K mg base CX0 2 f fd ["urn", "coder"] spNoCoders := by
  refine F.ok sc_noCoders (fun vs H Q E h => ?_) (fun cdv A outer s H vs Q E hr h => ?_)
  · obtain ⟨a, v, c, n, rfl, _⟩ := h
    rfl
  · obtain ⟨a, v, c, n, rfl, bA, hn, cat, hc, hbig, q⟩ := h
    have nd := sc_noCoders.nd
    refine ⟨_, (pss_cons (by exact (ps_asg (pv 1) (pg_tup rfl (pgs_cons (pg_name (i := 2) nd rfl (Or.inl rfl)) (pgs_cons (pg_name (i := 3) nd rfl (Or.inl rfl)) pgs_nil)))))
      (pss_cons (by exact (ps_set (i := 4) nd rfl (Or.inl rfl) (pe_callB call_len_seq (by rfl) ml PySem.boot_len (pa_cons (pv 3) pa_nil))))
      (pss_cons (by exact (ps_set (i := 5) nd rfl (Or.inl rfl) (C8.pe_c pull hr (by decide) rfl (pa_cons (pv 0) (pa_cons (pv 4) pa_nil)))))
      (pss_cons (by exact (ps_set (i := 6) nd rfl (Or.inl rfl) (pe_ix ix_list (pe_lstS (pa_cons (pe_un un_neg pe_int) (pa_cons pe_bl (pa_cons pe_non (pa_cons pe_str (pa_cons (pe_tupS (pa_cons pe_int pa_nil)) (pa_cons (pe_lstS (pa_cons pe_int pa_nil)) pa_nil))))))) (C8.pe_c pull hr (by decide) rfl (pa_cons (pv 0) (pa_cons pe_int pa_nil))) (fun _ _ => rfl))))
      (pss_cons (by exact (ps_set (i := 7) nd rfl (Or.inl rfl) (pe_lstS (pa_cons pe_non (pa_cons pe_int (pa_cons (pe_tupS pa_nil) (pa_cons (pe_tupS (pa_cons (pv 2) pa_nil)) (pa_cons (pe_lstS (pa_cons (pv 2) (pa_cons (pv 3) pa_nil))) (pa_cons (pe_tupS (pa_cons (pv 2) (pa_cons (pe_callTy call_lisS (by rfl) mi (by decide +kernel) (pa_cons (pv 3) pa_nil)) pa_nil))) (pa_cons (pe_tupS (pa_cons (pv 2) (pa_cons (pv 3) (pa_cons pe_int pa_nil)))) (pa_cons (pe_tupS (pa_cons (pv 4) (pa_cons (pv 3) pa_nil))) (pa_cons pe_str pa_nil))))))))))))
      (pss_cons (by exact (ps_set (i := 7) nd rfl (Or.inl rfl) (pe_op op_catS (pv 7) (pe_lstS (pa_cons (pe_tupS (pa_cons (pe_un un_neg pe_int) (pa_cons (pv 3) pa_nil))) (pa_cons (pe_tupS (pa_cons pe_bl (pa_cons (pe_tupS (pa_cons pe_int (pa_cons pe_int pa_nil))) pa_nil))) (pa_cons (pe_tupS (pa_cons (pv 2) (pa_cons (pe_tupS pa_nil) pa_nil))) (pa_cons (pe_tupS (pa_cons pe_int (pa_cons (pe_op op_repTT (pe_tupS (pa_cons pe_int pa_nil)) pe_int) pa_nil))) (pa_cons (pe_tupS (pa_cons (pv 2) (pa_cons (pe_op op_addT (pe_slice sl_cutT (pv 3) po_none (po_some (pv 5))) (pe_tupS (pa_cons (pv 6) pa_nil))) pa_nil))) (pa_cons pe_dnewK pa_nil))))))))))
      (pss_one (by exact (ps_ret (pe_op op_catS (pv 7) (pe_lstS (pa_cons (pe_tupS (pa_cons (pv 6) (pa_cons (pv 3) pa_nil))) (pa_cons (pe_tupS (pa_cons pe_int (pa_cons (pe_op op_addT (pe_op op_addT (pe_slice sl_cutT (pv 3) po_none (po_some (pv 5))) (pe_tupS (pa_cons (pv 6) pa_nil))) (pe_slice sl_cutT (pv 3) (po_some (pe_op op_add (pv 5) pe_int)) po_none)) pa_nil))) (pa_cons (pe_tupS (pa_cons pe_non (pa_cons (pv 3) pa_nil))) (pa_cons (pe_tupS (pa_cons (pv 2) (pa_cons pe_non pa_nil))) pa_nil))))))))))))))), ?_⟩
    have hp := hc.pos
    have h12 := hc.2
    obtain ⟨ca, lb, rfl, hca, hlb⟩ := id cat
    refine ⟨_, rfl, ca, _, rfl, SqT.of hca, rfl, _, _, rfl, _, _, rfl, rfl, ?_⟩
    refine ⟨_, rfl, lb, _, rfl, .inr (SqT.of hlb), ?_⟩
    rw [List.length_map]
    have big : (12 : Int) ≤ 10 ^ 40 := by decide
    refine ⟨_, rfl, _, rfl, a, (c.2.length : Int), n, rfl, bA, by omega, by omega, by omega, fun av H1 a0 a1 b1 sb1 => ?_⟩
    obtain ⟨k, rfl⟩ := Int.eq_ofNat_of_zero_le a0
    have hk : k < c.2.length := by omega
    have z0 : (0 : Nat) ≤ sizeLine := Nat.zero_le _
    have z1 : (1 : Nat) ≤ sizeLine := by decide
    have z2 : (2 : Nat) ≤ sizeLine := by decide
    have z3 : (3 : Nat) ≤ sizeLine := by decide
    have z4 : (4 : Nat) ≤ sizeLine := by decide
    have z6 : (6 : Nat) ≤ sizeLine := by decide
    have z9 : (9 : Nat) ≤ sizeLine := by decide
    have nca : ca ≠ a := fun z => by
      obtain ⟨_, _, _, e, _⟩ := bA
      rw [z, e] at hca
      cases hca
    have nlb : lb ≠ a := fun z => by
      obtain ⟨_, _, _, e, _⟩ := bA
      rw [z, e] at hlb
      cases hlb
    refine ⟨_, rfl, z1, fun t1 G1 m1 w1 e1 => ⟨z1, fun l1 G2 m2 w2 e2 => ⟨z6, fun L0 G3 m3 w3 e3 => ?_⟩⟩⟩
    have b3 := ((b1.same w1).same w2).same w3
    have nt1 : t1 ≠ a := (b1.ne m1).symm
    have nl1 : l1 ≠ a := ((b1.same w1).ne m2).symm
    have nL0 : L0 ≠ a := (((b1.same w1).same w2).ne m3).symm
    have z40 : (6 : Int) ≤ 10 ^ 40 := by decide
    refine ⟨_, rfl, a, 6, _, rfl, b3, by omega, by decide, by decide, fun ov B v0 v6 uB0 sB => ?_⟩
    have hlbB : B lb = some (.tup (c.2.map vN)) := sB _ _ nlb (w3 _ _ (w2 _ _ (w1 _ _ (sb1 _ _ nlb hlb))))
    have et1 : B t1 = some (.tup [.int 1]) := sB _ _ nt1 (w3 _ _ (w2 _ _ e1))
    have el1 : B l1 = some (.lst [.int 1]) := sB _ _ nl1 (w3 _ _ e2)
    have sHB : SameBut a H B := fun b o nb e => sB _ _ nb (w3 _ _ (w2 _ _ (w1 _ _ (sb1 _ _ nb e))))
    have uB : Urn B a (n + 2) := by
      have e : n + 1 + 1 = n + 2 := by omega
      rw [e] at uB0
      exact uB0
    obtain ⟨x, dx, hx, tx, ox⟩ : ∃ x dx, ([V.int (-1), V.bl true, V.non, V.str "2", V.ref t1, V.ref l1] : List V)[ov.toNat]? = some x ∧ Th (rm a B) x dx ∧ OddD dx := by
      have g1 : GoodS (.tuple [.int 1]) := by refine ⟨by decide +kernel, by decide +kernel, by decide +kernel⟩
      have g2 : GoodS (.list [.int 1]) := by refine ⟨by decide +kernel, by decide +kernel, by decide +kernel⟩
      obtain ⟨j, rfl⟩ := Int.eq_ofNat_of_zero_le v0
      match j, v6 with
      | 0, _ => exact ⟨_, _, rfl, .int (-1), (by decide +kernel), fun _ => rfl, by refine ⟨by decide +kernel, by decide +kernel, by decide +kernel⟩, by decide +kernel⟩
      | 1, _ => exact ⟨_, _, rfl, .bl true, rfl, fun _ => rfl, by refine ⟨by decide +kernel, by decide +kernel, by decide +kernel⟩, by decide +kernel⟩
      | 2, _ => exact ⟨_, _, rfl, .non, rfl, fun _ => rfl, by refine ⟨by decide +kernel, by decide +kernel, by decide +kernel⟩, by decide +kernel⟩
      | 3, _ => exact ⟨_, _, rfl, .str _, rfl, fun _ => rfl, by refine ⟨by decide +kernel, by decide +kernel, by decide +kernel⟩, by decide +kernel⟩
      | 4, _ => exact ⟨_, _, rfl, th_tup uB et1 (.cons (.int 1) .nil), rfl, fun _ => rfl, g1, by decide +kernel⟩
      | 5, _ => exact ⟨_, _, rfl, th_lst nl1 el1 (.cons (.int 1) .nil), rfl, fun _ => rfl, g2, by decide +kernel⟩
      | j + 6, z => exact absurd z (by omega)
    refine ⟨L0, _, ov, x, rfl, rfl, SqL.of (sB _ _ nL0 e3), ?_, ?_⟩
    · have e : ov = ((ov.toNat : Nat) : Int) := by omega
      rw [e]
      exact atI_nat hx
    clear e1 e2 e3 m1 m2 m3 w1 w2 w3 b3 sB uB0 sb1 b1 G1 G2 G3 H1
    -- some
    refine ⟨z0, fun u1 K1 i1 x1 f1 => ⟨_, rfl, z1, fun u2 K2 i2 x2 f2 => ⟨_, rfl, _, rfl, z2, fun u3 K3 i3 x3 f3 => ?_⟩⟩⟩
    refine ⟨_, rfl, _, rfl, lb, _, rfl, .inr (x3 _ _ (x2 _ _ (x1 _ _ hlbB))), fun u4 K4 i4 x4 f4 => ⟨z2, fun u5 K5 i5 x5 f5 => ?_⟩⟩
    refine ⟨_, rfl, _, rfl, z3, fun u6 K6 i6 x6 f6 => ⟨_, rfl, _, rfl, z2, fun u7 K7 i7 x7 f7 => ⟨z9, fun S1 K8 i8 x8 f8 => ?_⟩⟩⟩
    have d1 : Same B K8 := Same.trans x1 (Same.trans x2 (Same.trans x3 (Same.trans x4 (Same.trans x5 (Same.trans x6 (Same.trans x7 x8))))))
    have hlb8 := d1 _ _ hlbB
    -- some + [..]
    refine ⟨_, rfl, _, rfl, _, rfl, z2, fun y1 J1 j1 q1 g1 => ⟨z2, fun y2 J2 j2 q2 g2 => ⟨z2, fun y3 J3 j3 q3 g3 => ?_⟩⟩⟩
    refine ⟨_, rfl, z0, fun y4 J4 j4 q4 g4 => ⟨z2, fun y5 J5 j5 q5 g5 => ⟨z1, fun y6 J6 j6 q6 g6 => ?_⟩⟩⟩
    refine ⟨y6, 13, _, rfl, rfl, g6, (fun z => nomatch z), by decide, by decide, by decide, fun y7 J7 q7 g7 => ⟨z2, fun y8 J8 j8 q8 g8 => ?_⟩⟩
    have o8 : Same K8 J8 := Same.trans q1 (Same.trans q2 (Same.trans q3 (Same.trans q4 (Same.trans q5 (Same.trans q6 (Same.trans q7 q8))))))
    have eT : cutV (c.2.map vN) Option.none (some (k : Int)) = (c.2.take k).map vN := by rw [cut_to (by rw [List.length_map]; omega), List.map_take]
    have eD : cutV (c.2.map vN) (some ((k : Int) + 1)) Option.none = (c.2.drop (k + 1)).map vN := by rw [show (k : Int) + 1 = ((k + 1 : Nat) : Int) by omega, cut_from, List.map_drop]
    have zt : ((c.2.take k).map vN).length + 1 ≤ sizeLine := by
      rw [List.length_map, List.length_take, sizeLine_eq]
      omega
    refine ⟨_, rfl, _, rfl, _, rfl, _, rfl, lb, _, rfl, o8 _ _ hlb8, fun y9 J9 q9 g9 => ?_⟩
    rw [eT] at g9
    refine ⟨_, rfl, z1, fun y10 J10 j10 q10 g10 => ⟨y9, y10, _, _, rfl, rfl, q10 _ _ g9, g10, zt, fun y11 J11 q11 g11 => ⟨z2, fun y12 J12 j12 q12 g12 => ?_⟩⟩⟩
    intro y13 j13
    have q13 : Same J12 (upd J12 y13 (.dK [])) := same_new j13
    have g13 : upd J12 y13 (.dK []) y13 = some (.dK []) := upd_same
    generalize upd J12 y13 (.dK []) = J13 at q13 g13
    refine ⟨z6, fun S2 J14 j14 q14 g14 => ?_⟩
    have o14 : Same K8 J14 := Same.trans o8 (Same.trans q9 (Same.trans q10 (Same.trans q11 (Same.trans q12 (Same.trans q13 q14)))))
    refine ⟨S1, S2, _, _, rfl, rfl, o14 _ _ f8, g14, (by show 9 + 6 ≤ sizeLine; decide), fun S3 J15 j15 q15 g15 => ?_⟩
    have o15 : Same K8 J15 := Same.trans o14 q15
    -- some + [..], told
    refine ⟨_, rfl, _, rfl, _, rfl, z2, fun v1 L1 k1 r1 h1 => ?_⟩
    refine ⟨_, rfl, _, rfl, _, rfl, lb, _, rfl, r1 _ _ (o15 _ _ hlb8), fun v2 L2 r2 h2 => ?_⟩
    rw [eT] at h2
    refine ⟨_, rfl, z1, fun v3 L3 k3 r3 h3 => ⟨v2, v3, _, _, rfl, rfl, r3 _ _ h2, h3, zt, fun v4 L4 r4 h4 => ?_⟩⟩
    refine ⟨_, rfl, _, rfl, _, _, rfl, rfl, _, rfl, lb, _, rfl, r4 _ _ (r3 _ _ (r2 _ _ (r1 _ _ (o15 _ _ hlb8)))), fun v5 L5 r5 h5 => ?_⟩
    have h5' : L5 v5 = some (.tup ((c.2.drop (k + 1)).map vN)) := by rw [← eD]; exact h5
    refine ⟨v4, v5, _, _, rfl, rfl, r5 _ _ h4, h5', ?_, fun v6 L6 r6 h6 => ⟨z2, fun v7 L7 k7 r7 h7 => ?_⟩⟩
    · rw [List.length_append, List.length_map, List.length_map, List.length_take, List.length_drop, sizeLine_eq]
      show _ + 1 + _ ≤ _
      omega
    refine ⟨_, rfl, z2, fun v8 L8 k8 r8 h8 => ⟨_, rfl, z2, fun v9 L9 k9 r9 h9 => ⟨z4, fun S4 L10 k10 r10 h10 => ?_⟩⟩⟩
    have p9 : Same J15 L10 := Same.trans r1 (Same.trans r2 (Same.trans r3 (Same.trans r4 (Same.trans r5 (Same.trans r6 (Same.trans r7 (Same.trans r8 (Same.trans r9 r10))))))))
    refine ⟨S3, S4, _, _, rfl, rfl, p9 _ _ g15, h10, (by show 15 + 4 ≤ sizeLine; decide), fun S5 Z k11 r11 h11 => ?_⟩
    have cL9 : Same L9 Z := Same.trans r10 r11
    have cL8 : Same L8 Z := Same.trans r9 cL9
    have cL7 : Same L7 Z := Same.trans r8 cL8
    have cL6 : Same L6 Z := Same.trans r7 cL7
    have cL5 : Same L5 Z := Same.trans r6 cL6
    have cL4 : Same L4 Z := Same.trans r5 cL5
    have cL3 : Same L3 Z := Same.trans r4 cL4
    have cL2 : Same L2 Z := Same.trans r3 cL3
    have cL1 : Same L1 Z := Same.trans r2 cL2
    have cJ15 : Same J15 Z := Same.trans r1 cL1
    have cJ14 : Same J14 Z := Same.trans q15 cJ15
    have cJ13 : Same J13 Z := Same.trans q14 cJ14
    have cJ12 : Same J12 Z := Same.trans q13 cJ13
    have cJ11 : Same J11 Z := Same.trans q12 cJ12
    have cJ10 : Same J10 Z := Same.trans q11 cJ11
    have cJ9 : Same J9 Z := Same.trans q10 cJ10
    have cJ8 : Same J8 Z := Same.trans q9 cJ9
    have cJ7 : Same J7 Z := Same.trans q8 cJ8
    have cJ6 : Same J6 Z := Same.trans q7 cJ7
    have cJ5 : Same J5 Z := Same.trans q6 cJ6
    have cJ4 : Same J4 Z := Same.trans q5 cJ5
    have cJ3 : Same J3 Z := Same.trans q4 cJ4
    have cJ2 : Same J2 Z := Same.trans q3 cJ3
    have cJ1 : Same J1 Z := Same.trans q2 cJ2
    have cK8 : Same K8 Z := Same.trans q1 cJ1
    have cK7 : Same K7 Z := Same.trans x8 cK8
    have cK6 : Same K6 Z := Same.trans x7 cK7
    have cK5 : Same K5 Z := Same.trans x6 cK6
    have cK4 : Same K4 Z := Same.trans x5 cK5
    have cK3 : Same K3 Z := Same.trans x4 cK4
    have cK2 : Same K2 Z := Same.trans x3 cK3
    have cK1 : Same K1 Z := Same.trans x2 cK2
    have cB : Same B Z := Same.trans x1 cK1
    have uZ := uB.same cB
    have nu3 : u3 ≠ a := ((uB.same (Same.trans x1 x2)).ne i3).symm
    have nu4 : u4 ≠ a := ((uB.same (Same.trans x1 (Same.trans x2 x3))).ne i4).symm
    have ny13 : y13 ≠ a := ((uB.same (Same.trans d1 (Same.trans o8 (Same.trans q9 (Same.trans q10 (Same.trans q11 q12)))))).ne j13).symm
    have lT : Th (rm a Z) (.ref lb) (.tuple (c.2.map dN)) := th_tup uZ (cB _ _ hlbB) (ints_nat c.2)
    have txZ : Th (rm a Z) x dx := Th.same (rm_mono cB) _ tx
    have i1' : ∀ k : Nat, Th (rm a Z) (vN k) (dN k) := fun k => .int _
    have T1 : Th (rm a Z) (.ref u1) (.tuple []) := th_tup uZ (cK1 _ _ f1) .nil
    have T2 : Th (rm a Z) (.ref u2) (.tuple [dN c.1]) := th_tup uZ (cK2 _ _ f2) (.cons (.int _) .nil)
    have T3 : Th (rm a Z) (.ref u3) (.list [dN c.1, .tuple (c.2.map dN)]) := th_lst nu3 (cK3 _ _ f3) (.cons (.int _) (.cons lT .nil))
    have T4 : Th (rm a Z) (.ref u4) (.list (c.2.map dN)) := th_lst nu4 (cK4 _ _ f4) (ints_nat c.2)
    have T5 : Th (rm a Z) (.ref u5) (.tuple [dN c.1, .list (c.2.map dN)]) := th_tup uZ (cK5 _ _ f5) (.cons (.int _) (.cons T4 .nil))
    have T6 : Th (rm a Z) (.ref u6) (.tuple [dN c.1, .tuple (c.2.map dN), .int 0]) := th_tup uZ (cK6 _ _ f6) (.cons (.int _) (.cons lT (.cons (.int _) .nil)))
    have T7 : Th (rm a Z) (.ref u7) (.tuple [dN c.2.length, .tuple (c.2.map dN)]) := th_tup uZ (cK7 _ _ f7) (.cons (.int _) (.cons lT .nil))
    have Y1 : Th (rm a Z) (.ref y1) (.tuple [.int (-1), .tuple (c.2.map dN)]) := th_tup uZ (cJ1 _ _ g1) (.cons (.int _) (.cons lT .nil))
    have Y3 : Th (rm a Z) (.ref y3) (.tuple [.bool true, .tuple [.int 1, .int 1]]) := th_tup uZ (cJ3 _ _ g3) (.cons (.bl _) (.cons (th_tup uZ (cJ2 _ _ g2) (.cons (.int _) (.cons (.int _) .nil))) .nil))
    have Y5 : Th (rm a Z) (.ref y5) (.tuple [dN c.1, .tuple []]) := th_tup uZ (cJ5 _ _ g5) (.cons (.int _) (.cons (th_tup uZ (cJ4 _ _ g4) .nil) .nil))
    have Y8 : Th (rm a Z) (.ref y8) (.tuple [.int 0, .tuple (List.replicate 13 (.int 1))]) := th_tup uZ (cJ8 _ _ g8) (.cons (.int _) (.cons (th_tup uZ (cJ7 _ _ g7) (thAll_rep (.int 1) 13)) .nil))
    have Y12 : Th (rm a Z) (.ref y12) (.tuple [dN c.1, .tuple ((c.2.take k).map dN ++ [dx])]) := th_tup uZ (cJ12 _ _ g12) (.cons (.int _) (.cons (th_tup uZ (cJ11 _ _ g11) (ThAll.append (ints_nat _) (.cons txZ .nil))) .nil))
    have Y13 : Th (rm a Z) (.ref y13) (.dict []) := th_dct ny13 (cJ13 _ _ g13)
    have V1 : Th (rm a Z) (.ref v1) (.tuple [dx, .tuple (c.2.map dN)]) := th_tup uZ (cL1 _ _ h1) (.cons txZ (.cons lT .nil))
    have V7 : Th (rm a Z) (.ref v7) (.tuple [.int 0, .tuple ((c.2.take k).map dN ++ [dx] ++ (c.2.drop (k + 1)).map dN)]) := th_tup uZ (cL7 _ _ h7) (.cons (.int _) (.cons (th_tup uZ (cL6 _ _ h6) (ThAll.append (ThAll.append (ints_nat _) (.cons txZ .nil)) (ints_nat _))) .nil))
    have V8 : Th (rm a Z) (.ref v8) (.tuple [.none, .tuple (c.2.map dN)]) := th_tup uZ (cL8 _ _ h8) (.cons .non (.cons lT .nil))
    have V9 : Th (rm a Z) (.ref v9) (.tuple [dN c.1, .none]) := th_tup uZ (cL9 _ _ h9) (.cons (.int _) (.cons .non .nil))
    refine q S5 Z _ [.none, .int 0, .tuple [], .tuple [dN c.1], .list [dN c.1, .tuple (c.2.map dN)], .tuple [dN c.1, .list (c.2.map dN)], .tuple [dN c.1, .tuple (c.2.map dN), .int 0], .tuple [dN c.2.length, .tuple (c.2.map dN)], .str "coder",
      .tuple [.int (-1), .tuple (c.2.map dN)], .tuple [.bool true, .tuple [.int 1, .int 1]], .tuple [dN c.1, .tuple []], .tuple [.int 0, .tuple (List.replicate 13 (.int 1))], .tuple [dN c.1, .tuple ((c.2.take k).map dN ++ [dx])], .dict [],
      .tuple [dx, .tuple (c.2.map dN)], .tuple [.int 0, .tuple ((c.2.take k).map dN ++ [dx] ++ (c.2.drop (k + 1)).map dN)], .tuple [.none, .tuple (c.2.map dN)], .tuple [dN c.1, .none]] h11 ?_ ?_ ?_ rfl uZ (fun b o nb e => cB _ _ (sHB b o nb e))
    · exact .cons .non (.cons (.int _) (.cons T1 (.cons T2 (.cons T3 (.cons T5 (.cons T6 (.cons T7 (.cons (.str _) (.cons Y1 (.cons Y3 (.cons Y5 (.cons Y8 (.cons Y12 (.cons Y13 (.cons V1 (.cons V7 (.cons V8 (.cons V9 .nil))))))))))))))))))
    · have out : inR (dN c.2.length) 0 (((c.2.map dN).length : Int) - 1) = false := by
        rw [List.length_map]
        show (decide ((0 : Int) ≤ (c.2.length : Int)) && decide ((c.2.length : Int) ≤ (c.2.length : Int) - 1)) = false
        rw [decide_eq_false (show ¬ (c.2.length : Int) ≤ (c.2.length : Int) - 1 by omega), Bool.and_false]
      intro d hd
      simp only [List.mem_cons, List.not_mem_nil, or_false] at hd
      rcases hd with rfl | rfl | rfl | rfl | rfl | rfl | rfl | rfl | rfl | rfl | rfl | rfl | rfl | rfl | rfl | rfl | rfl | rfl | rfl
      · rfl
      · rfl
      · rfl
      · rfl
      · rfl
      · rfl
      · rfl
      · rw [isCd_pr, out, Bool.false_and, Bool.and_false]
      · rfl
      · rw [isCd_pr]
        exact Bool.and_false _
      · rfl
      · rfl
      · decide +kernel
      · have e0 : ((c.2.take k).map dN ++ [dx]).all natD = false := by
          rw [List.all_append]
          show (_ && (natD dx && true)) = false
          rw [ox.1, Bool.false_and, Bool.and_false]
        rw [isCd_pr, e0, Bool.and_false, Bool.and_false]
      · rfl
      · rw [isCd_pr, ox.2.1, Bool.false_and, Bool.and_false]
      · have e0 : ((c.2.take k).map dN ++ [dx] ++ (c.2.drop (k + 1)).map dN).all natD = false := by
          rw [List.all_append, List.all_append]
          show (_ && (natD dx && true) && _) = false
          rw [ox.1, Bool.false_and, Bool.and_false, Bool.false_and]
        rw [isCd_pr, e0, Bool.and_false, Bool.and_false]
      · rw [isCd_pr]
        exact Bool.and_false _
      · rfl
    · have e45 : (12 : Nat) < 10 ^ 45 := by decide
      have gN : ∀ j : Nat, j < 10 ^ 45 → GoodS (dN j) ∧ wt (dN j) ≤ 60 := fun j hj => ⟨goodS_int (by show ((j : Int)).natAbs < _; omega), by have := wt_nat hj; omega⟩
      have gc : GoodS (dN c.1) ∧ wt (dN c.1) ≤ 60 := gN _ (by have := hc.1; unfold COk at this; omega)
      have gl : GoodS (dN c.2.length) ∧ wt (dN c.2.length) ≤ 60 := gN _ (by omega)
      have g0 : GoodS (.int 0) ∧ wt (.int 0) ≤ 60 := gN 0 (by decide)
      have gT : GoodM (.tuple (c.2.map dN)) := goodM_nats hbig (by omega)
      have gTl : GoodM (.list (c.2.map dN)) := goodM_lst hbig (by omega)
      have sm : ∀ l : List Nat, (∀ j ∈ l, j < 10 ^ 45) → ∀ d ∈ l.map dN, GoodS d ∧ wt d ≤ 60 := fun l hl d hd => by
        obtain ⟨j, hj, rfl⟩ := List.mem_map.mp hd
        exact gN j (hl j hj)
      have sx : ∀ d ∈ [dx], GoodS d ∧ wt d ≤ 60 := fun d hd => by
        rw [List.mem_singleton.mp hd]
        exact ⟨ox.2.2.1, ox.2.2.2⟩
      have ga : GoodM (.tuple ((c.2.take k).map dN ++ [dx])) := goodM_some (fun d hd => (List.mem_append.mp hd).elim (sm _ (fun j hj => hbig j (List.mem_of_mem_take hj)) d) (sx d)) (by rw [List.length_append, List.length_map, List.length_take]; show _ + 1 ≤ 14; omega)
      have gb : GoodM (.tuple ((c.2.take k).map dN ++ [dx] ++ (c.2.drop (k + 1)).map dN)) := goodM_some (fun d hd => (List.mem_append.mp hd).elim (fun hd => (List.mem_append.mp hd).elim (sm _ (fun j hj => hbig j (List.mem_of_mem_take hj)) d) (sx d)) (sm _ (fun j hj => hbig j (List.mem_of_mem_drop hj)) d)) (by rw [List.length_append, List.length_append, List.length_map, List.length_take, List.length_map, List.length_drop]; show _ + 1 + _ ≤ 14; omega)
      have small : ∀ {d : PyData}, d.showable = true → d.depth ≤ 6 → wt d ≤ 200 → GoodM d := fun a b c => GoodS.m ⟨a, b, c⟩
      have two : ∀ {d e : PyData}, GoodM d → GoodM e → Good (.tuple [d, e]) := fun {d e} x y => good_of (fun z hz => by
        simp only [List.mem_cons, List.not_mem_nil, or_false] at hz
        rcases hz with rfl | rfl
        · exact x
        · exact y) (.inl (Nat.le_refl 2))
      have gNone : GoodM .none := small rfl (by decide +kernel) (by decide +kernel)
      intro d hd
      simp only [List.mem_cons, List.not_mem_nil, or_false] at hd
      rcases hd with rfl | rfl | rfl | rfl | rfl | rfl | rfl | rfl | rfl | rfl | rfl | rfl | rfl | rfl | rfl | rfl | rfl | rfl | rfl
      · exact gNone.good
      · exact g0.1.good
      · exact ⟨by decide +kernel, by decide +kernel, by decide +kernel⟩
      · exact good_of (fun z hz => by rw [List.mem_singleton.mp hz]; exact gc.1.m) (.inl (Nat.le_succ 1))
      · exact good_ofL (fun z hz => by
          simp only [List.mem_cons, List.not_mem_nil, or_false] at hz
          rcases hz with rfl | rfl
          · exact gc.1.m
          · exact gT) (Nat.le_refl 2)
      · exact two gc.1.m gTl
      · refine good_of (fun z hz => by
          simp only [List.mem_cons, List.not_mem_nil, or_false] at hz
          rcases hz with rfl | rfl | rfl
          · exact gc.1.m
          · exact gT
          · exact g0.1.m) (.inr ?_)
        have a1 := gc.2
        have a2 := gT.2.2
        have a3 := g0.2
        show wt (dN c.1) + 2 + (wt (.tuple (c.2.map dN)) + 2 + (wt (.int 0) + 2 + 0)) ≤ 1900
        omega
      · exact two gl.1.m gT
      · exact ⟨by decide +kernel, by decide +kernel, by decide +kernel⟩
      · exact two (small (by decide +kernel) (by decide +kernel) (by decide +kernel)) gT
      · exact ⟨by decide +kernel, by decide +kernel, by decide +kernel⟩
      · exact two gc.1.m (small (by decide +kernel) (by decide +kernel) (by decide +kernel))
      · exact ⟨by decide +kernel, by decide +kernel, by decide +kernel⟩
      · exact two gc.1.m ga
      · exact ⟨by decide +kernel, by decide +kernel, by decide +kernel⟩
      · exact two ox.2.2.1.m gT
      · exact two g0.1.m gb
      · exact two gNone gT
      · exact two gc.1.m gNone
end
end Lk
end
section
set_option maxRecDepth 100000
set_option maxHeartbeats 2000000
/-! A def taken out of a list, called. -/
namespace Lk
open PySem PySem.Spec PyProof.Rows L2
def FnV (P : Program) (w : World) (K : PySem.W.Frag) (mg : Str → Option Value) (base : Heap) (CX : CXT) (f : Addr) (k : Nat) (sp : Sp) : Prop :=
  ∃ (fd : FuncData) (ps : List Str), FnOk P w K mg base CX k f fd ps sp ∧ PySem.W.keepIn K (.ref f) = true ∧ Binds K fd ps []
def tCallV (P : Program) (w : World) (K : PySem.W.Frag) (mg : Str → Option Value) (base : Heap) (j : Nat) (tf : TE) (E : L2.St → XK) (t : TA) : TE := fun σ H Q => tf σ H fun x H1 => ∃ (f : Addr) (k : Nat) (sp : Sp), x = .ref f ∧ k ≤ j ∧ FnV P w K mg base (L2.CX P w) f k sp ∧ t σ H1 fun vs H2 => sp vs H2 Q (E σ)
section
variable {X : Cx} {P : Program} {w : World} {K : PySem.W.Frag} {mg : Str → Option Value} {base : Heap} {j : Nat} {fe e : Expr} {es : List Expr} {tf : TE} {t : TA} {W : WX} {pos : Pos}
/-- fe(e, ..) -/
theorem pe_callV (e1 : X.prog = P) (e2 : X.w = w) (e3 : X.K = K) (e4 : X.mg = mg) (e5 : X.base = base) (hf : PE X fe tf) (tk : Takes X W) (hr : Room j X.A) (ha : PA X (e :: es) t)
    (hc : eval (.Call fe (e :: es) [] pos) X.env = (do callWith pos (← eval fe X.env) [] (backTo pos (starEach (e :: es) X.env)) (backToKw pos (keywordEach [] X.env))) := by rfl)
    (he : starEach (e :: es) X.env = (false, eval e X.env) :: starEach es X.env := by rfl) (hpl : (backTo pos (starEach es X.env)).any (·.1) = false := by rfl) :
    PE X (.Call fe (e :: es) [] pos) (tCallV P w K mg base j tf (WE W) t) := by
  subst e1 e2 e3 e4 e5
  refine ⟨fun pins s σ H Q I h => Call_ (thn (hf.run pins s σ H _ I h) fun u s1 ⟨x, H1, I1, r1, f, k, sp, ex, hk, ⟨fd, ps, F, kp, b⟩, q⟩ => ?_) hc⟩
  subst ex
  cases (show u = Value.ref f from r1)
  exact PySem.W.callWith_K (h₀ := X.base) I1.ok.mod.kin kp (thn (ha.run pos pins s1 σ H1 _ I1 q) fun us s2 ⟨vs, H2, I2, r, q2⟩ => ⟨I2.kIn, run_fnS F (hr.mono hk) b (passAt tk σ) I2 r q2⟩) he hpl
end
def tCallN (P : Program) (w : World) (K : PySem.W.Frag) (mg : Str → Option Value) (base : Heap) (j : Nat) (tf : TE) (E : L2.St → XK) (t : TA) : TE := fun σ H Q => tf σ H fun x H1 => ∃ (f : Addr) (k : Nat) (sp : Sp), x = .ref f ∧ k ≤ j ∧ FnV P w K mg base (L2N.CX P w) f k sp ∧ t σ H1 fun vs H2 => sp vs H2 Q (E σ)
section
variable {X : Cx} {P : Program} {w : World} {K : PySem.W.Frag} {mg : Str → Option Value} {base : Heap} {j : Nat} {fe e : Expr} {es : List Expr} {tf : TE} {t : TA} {W : WX} {pos : Pos}
/-- .. with the context that is None -/
theorem pe_callN (e1 : X.prog = P) (e2 : X.w = w) (e3 : X.K = K) (e4 : X.mg = mg) (e5 : X.base = base) (hf : PE X fe tf) (tk : L2N.Takes X W) (hr : Room j X.A) (ha : PA X (e :: es) t)
    (hc : eval (.Call fe (e :: es) [] pos) X.env = (do callWith pos (← eval fe X.env) [] (backTo pos (starEach (e :: es) X.env)) (backToKw pos (keywordEach [] X.env))) := by rfl)
    (he : starEach (e :: es) X.env = (false, eval e X.env) :: starEach es X.env := by rfl) (hpl : (backTo pos (starEach es X.env)).any (·.1) = false := by rfl) :
    PE X (.Call fe (e :: es) [] pos) (tCallN P w K mg base j tf (WE W) t) := by
  subst e1 e2 e3 e4 e5
  refine ⟨fun pins s σ H Q I h => Call_ (thn (hf.run pins s σ H _ I h) fun u s1 ⟨x, H1, I1, r1, f, k, sp, ex, hk, ⟨fd, ps, F, kp, b⟩, q⟩ => ?_) hc⟩
  subst ex
  cases (show u = Value.ref f from r1)
  exact PySem.W.callWith_K (h₀ := X.base) I1.ok.mod.kin kp (thn (ha.run pos pins s1 σ H1 _ I1 q) fun us s2 ⟨vs, H2, I2, r, q2⟩ => ⟨I2.kIn, run_fnS F (hr.mono hk) b (L2N.passAt tk σ) I2 r q2⟩) he hpl
end
end Lk
end
section
set_option maxRecDepth 100000
set_option maxHeartbeats 4000000
namespace Lk
open PySem PySem.Spec PyProof.Rows L2 L2H HotX
def isTwo (n : Int) : Prop := n = 1 ∨ n = 2
/-- the words by which it is refused, or told -/
def spAsked : Sp := fun vs H Q _ => ∃ (n : Int) (u v : V) (e d : PyData), vs = [.int n, u, v] ∧ 0 ≤ n ∧ n ≤ 4 ∧ Th H u e ∧ Th H v d ∧
  (n = 0 → (isCd e = false → toldW "NoCoder" Q H) ∧ (∀ c, e = cdD c → CdOk c → toldW "told" Q H)) ∧
  (isTwo n → (isCd e = false → toldW "NoCoder" Q H) ∧ (isCd e = true → isCd d = false → toldW "NoCoder" Q H) ∧ (∀ c c2, e = cdD c → CdOk c → d = cdD c2 → CdOk c2 → (c.2.length ≠ c2.2.length → toldW "NotLike" Q H) ∧ (c.2.length = c2.2.length → (n = 1 ∨ Free c ∧ Free c2 → toldW "told" Q H) ∧ (n = 2 → ¬ (Free c ∧ Free c2) → toldW "NotRound" Q H)))) ∧
  (n = 3 → (inR e 1 12 = false → toldW "NoCount" Q H) ∧ (∀ p : Nat, e = .int (p : Int) → 1 ≤ p → p ≤ 12 → toldW "told" Q H)) ∧
  (n = 4 → (inR e 1 6 = false → toldW "NoCount" Q H) ∧ (∀ p : Nat, e = .int (p : Int) → 1 ≤ p → p ≤ 6 → (¬ IsSg p d → toldW "NoSign" Q H) ∧ (IsSg p d → toldW "told" Q H)))
section
variable {P : Program} {w : World} {K : PySem.W.Frag} {mg : Str → Option Value} {base : Heap}
abbrev nAs : List Str := ["door", "one", "other", "found", "e"]
theorem sc_asked : FnScope nAs ["door", "one", "other"] (defScope s_law_asked) := ⟨rfl, rfl, rfl, by decide +kernel, rfl, by decide +kernel, by decide +kernel⟩
theorem ok_asked {f C1 C2 C3 C4 C5 LE : Addr} {fd : FuncData} (F : Fun K "_law_asked" "_law_asked" s_law_asked f fd) (cs : CalN P w K mg base 5 "sign_of" (spOne C1 toldSign)) (co : CalN P w K mg base 6 "one_round" (spTwo C1 C3 toldOne)) (cb : CalN P w K mg base 7 "steps_between" (spBtw C1 C3 C4)) (ci : CalN P w K mg base 4 "is_sign" (spIsSign C2)) (ct : CalN P w K mg base 7 "tree_by" (spTreeBy C2 C5))
    (cw : CalE P w K mg base 1 "_law_words" "e" toldW [(C1, "NoCoder"), (C2, "NoCount"), (C3, "NotLike"), (C4, "NotRound"), (C5, "NoSign")]) (gE : mg "LearnError" = some (.ref LE)) (te1 : PySem.W.exmOne K (.ref C1) (.ref LE) = some true) (te2 : PySem.W.exmOne K (.ref C2) (.ref LE) = some true) (te3 : PySem.W.exmOne K (.ref C3) (.ref LE) = some true) (te4 : PySem.W.exmOne K (.ref C4) (.ref LE) = some true) (te5 : PySem.W.exmOne K (.ref C5) (.ref LE) = some true) :
    FnOk P w K mg base CX0 9 f fd ["door", "one", "other"] spAsked := by
  refine F.ok sc_asked (fun vs H Q E h => ?_) (fun cdv A outer s H vs Q E hr h => ?_)
  · obtain ⟨n, u, v, e, d, rfl, _⟩ := h
    rfl
  · obtain ⟨n, u, v, e, d, rfl, n0, n4, he, hv, q0, q1, q3, q4⟩ := h
    have nd := sc_asked.nd
    obtain ⟨f1, fd1, ps1, F1, g1, kp1, b1⟩ := co.ex
    obtain ⟨f2, fd2, ps2, F2, g2, kp2, b2⟩ := cb.ex
    obtain ⟨f3, fd3, ps3, F3, g3, kp3, b3⟩ := ci.ex
    refine ⟨_, pss_cons (ps_set (i := 3) nd rfl (Or.inl rfl) (pe_lstS (pa_cons pe_str pa_nil)))
      (pss_cons (L2N.ps_try_as (i := 4) (ts := fun a cls d => tAsg (fun σ H Q => ∃ D nm, cls = .ref D ∧ d = none ∧ (D, nm) ∈ [(C1, ("NoCoder" : Str)), (C2, "NoCount"), (C3, "NotLike"), (C4, "NotRound"), (C5, "NoSign")] ∧ σ[4]? = some (some (.ref a)) ∧ toldW nm Q H) (gName 3)) rfl rfl nd rfl rfl ⟨rfl, by decide, Or.inl gE⟩ takes_no
        (fun W pn xe tk _ => (by exact (pss_one (by exact (ps_if (pt_cmpR op_eq (pv 0) pe_int (nomark _)) (pss_one (by exact (ps_expr (pe_cN cs tk hr (by decide) rfl (pa_cons (pv 1) pa_nil))))) (by exact (pss_one (by exact (ps_if (pt_cmpR op_eq (pv 0) pe_int (nomark _)) (pss_one (by exact (ps_expr (pe_cN ct tk hr (by decide) rfl (pa_cons (pv 1) (pa_cons (pv 2) pa_nil)))))) (by exact (pss_one (by exact (ps_expr (pe_callN (P := P) (w := w) (K := K) (mg := mg) (base := base) rfl rfl rfl rfl rfl (pe_ix (ix_listK (K := K) rfl) (pe_lstS (pa_cons (pe_glob (v := .ref f1) rfl g1 rfl) (pa_cons (pe_glob (v := .ref f2) rfl g2 rfl) (pa_cons (pe_glob (v := .ref f3) rfl g3 rfl) pa_nil)))) (pe_op op_sub (pv 0) pe_int) (fun _ _ => rfl)) tk hr (pa_cons (pv 1) (pa_cons (pv 2) pa_nil))))))))))))))))
        (fun a oe cls d pn hz hf => by exact (pss_one (ps_set (i := 3) nd rfl (Or.inl rfl) (pe_cE cw (show RoomH 8 _ from ⟨hr.dp, hr.un⟩) (by decide) hz hf rfl List.mem_cons_self rfl rfl (.inl rfl))))))
      (pss_one (ps_ret (pv 3)))), ?_⟩
    have m1 : (C1, ("NoCoder" : Str)) ∈ [(C1, ("NoCoder" : Str)), (C2, "NoCount"), (C3, "NotLike"), (C4, "NotRound"), (C5, "NoSign")] := List.mem_cons_self
    have m2 : (C2, ("NoCount" : Str)) ∈ [(C1, ("NoCoder" : Str)), (C2, "NoCount"), (C3, "NotLike"), (C4, "NotRound"), (C5, "NoSign")] := List.mem_cons_of_mem _ List.mem_cons_self
    have m3 : (C3, ("NotLike" : Str)) ∈ [(C1, ("NoCoder" : Str)), (C2, "NoCount"), (C3, "NotLike"), (C4, "NotRound"), (C5, "NoSign")] := List.mem_cons_of_mem _ (List.mem_cons_of_mem _ List.mem_cons_self)
    have m4 : (C4, ("NotRound" : Str)) ∈ [(C1, ("NoCoder" : Str)), (C2, "NoCount"), (C3, "NotLike"), (C4, "NotRound"), (C5, "NoSign")] := List.mem_cons_of_mem _ (List.mem_cons_of_mem _ (List.mem_cons_of_mem _ List.mem_cons_self))
    have m5 : (C5, ("NoSign" : Str)) ∈ [(C1, ("NoCoder" : Str)), (C2, "NoCount"), (C3, "NotLike"), (C4, "NotRound"), (C5, "NoSign")] := List.mem_cons_of_mem _ (List.mem_cons_of_mem _ (List.mem_cons_of_mem _ (List.mem_cons_of_mem _ List.mem_cons_self)))
    have val : ∀ {k : Int}, ¬ (decide (V.int n = V.int k) = true) → n ≠ k := fun z e => z (decide_eq_true (by rw [e]))
    have z3 : (3 : Nat) ≤ sizeLine := by decide
    refine ⟨(by show 1 ≤ sizeLine; decide), fun L HL nL sL eL => ?_⟩
    have heL := Th.same sL _ he
    have hvL := Th.same sL _ hv
    refine ⟨_, rfl, rfl, _, rfl, ite2 (fun g => ?_) (fun g0 => ⟨_, rfl, rfl, _, rfl, ite2 (fun g => ?_) (fun g4 => ?_)⟩)⟩
    · have en : n = 0 := V.int.inj (of_decide_eq_true g)
      obtain ⟨y1, y2⟩ := q0 en
      have eLX := eL
      refine ⟨_, rfl, u, e, rfl, heL, fun hd H1 s1 => ⟨true, te1, fun _ a na => ⟨C1, "NoCoder", rfl, rfl, m1, rfl, fun p H2 s2 e2 => ⟨_, rfl, (y1 hd) p H2 (Same.trans sL (Same.trans s1 s2)) e2⟩⟩, fun z => nomatch z⟩, fun c ec hc t H1 s1 ep => ?_⟩
      exact ⟨_, rfl, (y2 c ec hc) L H1 (Same.trans sL s1) (s1 _ _ eLX)⟩
    · have en : n = 4 := V.int.inj (of_decide_eq_true g)
      obtain ⟨y1, y2⟩ := q4 en
      have eLX := eL
      refine ⟨_, rfl, _, rfl, u, v, e, d, rfl, heL, hvL, fun hd H1 s1 => ⟨true, te2, fun _ a na => ⟨C2, "NoCount", rfl, rfl, m2, rfl, fun p H2 s2 e2 => ⟨_, rfl, (y1 hd) p H2 (Same.trans sL (Same.trans s1 s2)) e2⟩⟩, fun z => nomatch z⟩, fun p' ep p1 p6 => ⟨fun ns H1 s1 => ⟨true, te5, fun _ a na => ⟨C5, "NoSign", rfl, rfl, m5, rfl, fun p H2 s2 e2 => ⟨_, rfl, ((y2 p' ep p1 p6).1 ns) p H2 (Same.trans sL (Same.trans s1 s2)) e2⟩⟩, fun z => nomatch z⟩, fun sg v' H1 s1 => ?_⟩⟩
      exact ⟨_, rfl, ((y2 p' ep p1 p6).2 sg) L H1 (Same.trans sL s1) (s1 _ _ eLX)⟩
    · have e0 := val g0
      have e4' := val g4
      refine ⟨z3, fun L2 H2' n2 s2' e2' => ?_⟩
      have sX := Same.trans sL s2'
      have heX := Th.same sX _ he
      have hvX := Th.same sX _ hv
      have eLX := s2' _ _ eL
      have cs : n = 1 ∨ n = 2 ∨ n = 3 := by omega
      rcases cs with rfl | rfl | rfl
      · obtain ⟨y1, y2, y3⟩ := q1 (.inl rfl)
        refine ⟨_, rfl, _, _, rfl, rfl, L2, _, _, .ref f1, rfl, rfl, SqL.of e2', atI_nat (j := 0) rfl, f1, 6, _, rfl, by decide, ⟨fd1, ps1, F1, kp1, b1⟩, _, rfl, _, rfl, ?_⟩
        refine ⟨u, v, e, d, rfl, heX, hvX, fun hd H1 s1 => ⟨true, te1, fun _ a na => ⟨C1, "NoCoder", rfl, rfl, m1, rfl, fun p H2 s2 e2 => ⟨_, rfl, (y1 hd) p H2 (Same.trans sX (Same.trans s1 s2)) e2⟩⟩, fun z => nomatch z⟩, fun h1 h2 H1 s1 => ⟨true, te1, fun _ a na => ⟨C1, "NoCoder", rfl, rfl, m1, rfl, fun p H2 s2 e2 => ⟨_, rfl, (y2 h1 h2) p H2 (Same.trans sX (Same.trans s1 s2)) e2⟩⟩, fun z => nomatch z⟩, fun c c2 ec hc ed hc2 ll H1 s1 => ⟨true, te3, fun _ a na => ⟨C3, "NotLike", rfl, rfl, m3, rfl, fun p H2 s2 e2 => ⟨_, rfl, ((y3 c c2 ec hc ed hc2).1 ll) p H2 (Same.trans sX (Same.trans s1 s2)) e2⟩⟩, fun z => nomatch z⟩, fun c c2 ec hc ed hc2 ll b H1 hb s1 => ?_⟩
        exact ⟨_, rfl, (((y3 c c2 ec hc ed hc2).2 ll).1 (.inl rfl)) L H1 (Same.trans sX s1) (s1 _ _ eLX)⟩
      · obtain ⟨y1, y2, y3⟩ := q1 (.inr rfl)
        refine ⟨_, rfl, _, _, rfl, rfl, L2, _, _, .ref f2, rfl, rfl, SqL.of e2', atI_nat (j := 1) rfl, f2, 7, _, rfl, by decide, ⟨fd2, ps2, F2, kp2, b2⟩, _, rfl, _, rfl, ?_⟩
        refine ⟨u, v, e, d, rfl, heX, hvX, fun hd H1 s1 => ⟨true, te1, fun _ a na => ⟨C1, "NoCoder", rfl, rfl, m1, rfl, fun p H2 s2 e2 => ⟨_, rfl, (y1 hd) p H2 (Same.trans sX (Same.trans s1 s2)) e2⟩⟩, fun z => nomatch z⟩, fun h1 h2 H1 s1 => ⟨true, te1, fun _ a na => ⟨C1, "NoCoder", rfl, rfl, m1, rfl, fun p H2 s2 e2 => ⟨_, rfl, (y2 h1 h2) p H2 (Same.trans sX (Same.trans s1 s2)) e2⟩⟩, fun z => nomatch z⟩, fun c c2 ec hc ed hc2 ll H1 s1 => ⟨true, te3, fun _ a na => ⟨C3, "NotLike", rfl, rfl, m3, rfl, fun p H2 s2 e2 => ⟨_, rfl, ((y3 c c2 ec hc ed hc2).1 ll) p H2 (Same.trans sX (Same.trans s1 s2)) e2⟩⟩, fun z => nomatch z⟩, fun c c2 ec hc ed hc2 ll => ⟨fun fr r H1 hr s1 => ?_, fun nf H1 s1 => ⟨true, te4, fun _ a na => ⟨C4, "NotRound", rfl, rfl, m4, rfl, fun p H2 s2 e2 => ⟨_, rfl, (((y3 c c2 ec hc ed hc2).2 ll).2 rfl nf) p H2 (Same.trans sX (Same.trans s1 s2)) e2⟩⟩, fun z => nomatch z⟩⟩⟩
        exact ⟨_, rfl, (((y3 c c2 ec hc ed hc2).2 ll).1 (.inr fr)) L H1 (Same.trans sX s1) (s1 _ _ eLX)⟩
      · obtain ⟨y1, y2⟩ := q3 rfl
        refine ⟨_, rfl, _, _, rfl, rfl, L2, _, _, .ref f3, rfl, rfl, SqL.of e2', atI_nat (j := 2) rfl, f3, 4, _, rfl, by decide, ⟨fd3, ps3, F3, kp3, b3⟩, _, rfl, _, rfl, ?_⟩
        refine ⟨u, v, e, d, rfl, heX, hvX, fun hd H1 s1 => ⟨true, te2, fun _ a na => ⟨C2, "NoCount", rfl, rfl, m2, rfl, fun p H2 s2 e2 => ⟨_, rfl, (y1 hd) p H2 (Same.trans sX (Same.trans s1 s2)) e2⟩⟩, fun z => nomatch z⟩, fun p ep p1 p12 b H1 hb s1 => ?_⟩
        exact ⟨_, rfl, (y2 p ep p1 p12) L H1 (Same.trans sX s1) (s1 _ _ eLX)⟩
end
end Lk
end
section
set_option maxRecDepth 100000
set_option maxHeartbeats 4000000
namespace Lk
open PySem PySem.Spec PyProof.Rows L2
theorem in12' {p : Nat} (h1 : 1 ≤ p) (h2 : p ≤ 12) (z : inR (.int (p : Int)) 1 12 = false) : False := by
  have y : (decide ((1 : Int) ≤ (p : Int)) && decide ((p : Int) ≤ 12)) = false := z
  rw [decide_eq_true (by omega), decide_eq_true (by omega)] at y
  cases y
theorem in6' {p : Nat} (h1 : 1 ≤ p) (h2 : p ≤ 6) (z : inR (.int (p : Int)) 1 6 = false) : False := by
  have y : (decide ((1 : Int) ≤ (p : Int)) && decide ((p : Int) ≤ 6)) = false := z
  rw [decide_eq_true (by omega), decide_eq_true (by omega)] at y
  cases y
theorem no2 {n : Int} (h1 : n ≠ 1) (h2 : n ≠ 2) {X : Prop} (z : isTwo n) : X := (z.elim h1 h2).elim
theorem ask3n {H : Hp} {u v : V} {e d : PyData} {Q : VK} (he : Th H u e) (hv : Th H v d) (h : inR e 1 12 = false) (t : toldW "NoCount" Q H) : spAsked [.int 3, u, v] H Q C8.E0 :=
  ⟨3, u, v, e, d, rfl, by decide, by decide, he, hv, fun z => absurd z (by decide), fun z => no2 (by decide) (by decide) z, fun _ => ⟨fun _ => t, fun p ep p1 p12 => (in12' p1 p12 (ep ▸ h)).elim⟩, fun z => absurd z (by decide)⟩
theorem ask3t {H : Hp} {v : V} {d : PyData} {p : Nat} {Q : VK} (p1 : 1 ≤ p) (p12 : p ≤ 12) (hv : Th H v d) (t : toldW "told" Q H) : spAsked [.int 3, .int (p : Int), v] H Q C8.E0 :=
  ⟨3, _, v, _, d, rfl, by decide, by decide, .int _, hv, fun z => absurd z (by decide), fun z => no2 (by decide) (by decide) z, fun _ => ⟨fun z => (in12' p1 p12 z).elim, fun _ _ _ _ => t⟩, fun z => absurd z (by decide)⟩
theorem ask4n {H : Hp} {u v : V} {e d : PyData} {Q : VK} (he : Th H u e) (hv : Th H v d) (h : inR e 1 6 = false) (t : toldW "NoCount" Q H) : spAsked [.int 4, u, v] H Q C8.E0 :=
  ⟨4, u, v, e, d, rfl, by decide, by decide, he, hv, fun z => absurd z (by decide), fun z => no2 (by decide) (by decide) z, fun z => absurd z (by decide), fun _ => ⟨fun _ => t, fun p ep p1 p6 => (in6' p1 p6 (ep ▸ h)).elim⟩⟩
theorem ask4x {H : Hp} {v : V} {d : PyData} {p : Nat} {Q : VK} (p1 : 1 ≤ p) (p6 : p ≤ 6) (hv : Th H v d) (h : ¬ IsSg p d) (t : toldW "NoSign" Q H) : spAsked [.int 4, .int (p : Int), v] H Q C8.E0 :=
  ⟨4, _, v, _, d, rfl, by decide, by decide, .int _, hv, fun z => absurd z (by decide), fun z => no2 (by decide) (by decide) z, fun z => absurd z (by decide), fun _ => ⟨fun z => (in6' p1 p6 z).elim, fun p' ep _ _ => (by
    have e : p' = p := (by injection ep with ep; omega)
    subst e
    exact ⟨fun _ => t, fun sg => absurd sg h⟩)⟩⟩
theorem ask4t {H : Hp} {v : V} {d : PyData} {p : Nat} {Q : VK} (p1 : 1 ≤ p) (p6 : p ≤ 6) (hv : Th H v d) (h : IsSg p d) (t : toldW "told" Q H) : spAsked [.int 4, .int (p : Int), v] H Q C8.E0 :=
  ⟨4, _, v, _, d, rfl, by decide, by decide, .int _, hv, fun z => absurd z (by decide), fun z => no2 (by decide) (by decide) z, fun z => absurd z (by decide), fun _ => ⟨fun z => (in6' p1 p6 z).elim, fun p' ep _ _ => (by
    have e : p' = p := (by injection ep with ep; omega)
    subst e
    exact ⟨fun n => absurd h n, fun _ => t⟩)⟩⟩
def oddV (o1 o2 o3 : Addr) : List V := [.int 0, .int (-1), .int 13, .bl true, .bl false, .non, .str "3", .ref o1, .ref o2, .int (10 ^ (36 : Int).toNat), .ref o3]
def oddL : List PyData := [.int 0, .int (-1), .int 13, .bool true, .bool false, .none, .str "3", .tuple [.int 3], .list [.int 3], .int (10 ^ (36 : Int).toNat), .dict []]
theorem odd_no : ∀ d ∈ oddL, inR d 1 12 = false ∧ inR d 1 6 = false := by
  intro d hd
  simp only [oddL, List.mem_cons, List.not_mem_nil, or_false] at hd
  rcases hd with rfl | rfl | rfl | rfl | rfl | rfl | rfl | rfl | rfl | rfl | rfl
  all_goals exact ⟨by decide +kernel, by decide +kernel⟩
def signsD (t : List Nat) (p : Nat) : List PyData := [.none, .list (t.map dN), .tuple (t.map dN ++ [.int 0]), .tuple ((t.drop 1).map dN), .str "0", .int 0, .tuple ([.int 1] ++ (t.drop 1).map dN), .tuple ([.bool false] ++ (t.drop 1).map dN), .tuple (List.replicate (p + 1) (.int 0))]
theorem signs_no {t : List Nat} {p : Nat} (p1 : 1 ≤ p) (l : t.length = p) : ∀ d ∈ signsD t p, ¬ IsSg p d := by
  intro d hd
  simp only [signsD, List.mem_cons, List.not_mem_nil, or_false] at hd
  have no : ∀ {d : PyData}, (∀ u : List Nat, d ≠ tD u) → ¬ IsSg p d := fun h ⟨u, e, _⟩ => h u e
  have bl : ∀ {d : PyData} (u : List Nat), d = tD u → u.length ≠ p → ¬ IsSg p d := fun u e ne ⟨u', e', l', _⟩ => ne (by
    have e2 : tD u = tD u' := e.symm.trans e'
    rw [tD_inj e2]
    exact l')
  rcases hd with rfl | rfl | rfl | rfl | rfl | rfl | rfl | rfl | rfl
  · exact no fun u e => nomatch e
  · exact no fun u e => nomatch e
  · exact bl (t ++ [0]) (by unfold tD; rw [List.map_append]; rfl) (by rw [List.length_append]; show t.length + 1 ≠ p; omega)
  · exact bl (t.drop 1) rfl (by rw [List.length_drop]; omega)
  · exact no fun u e => nomatch e
  · exact no fun u e => nomatch e
  · intro ⟨u, e, _, _, h0, _⟩
    have e2 : tD (1 :: t.drop 1) = tD u := by rw [← e]; rfl
    rw [← tD_inj e2] at h0
    have h1 : (1 : Nat) = 0 := h0
    omega
  · intro ⟨u, e, _⟩
    have e2 : [PyData.bool false] ++ (t.drop 1).map dN = u.map dN := PyData.tuple.inj e
    cases u with
    | nil => cases e2
    | cons x u =>
      rw [List.map_cons] at e2
      injection e2 with e3 _
      cases e3
  · exact bl (List.replicate (p + 1) 0) (by unfold tD; rw [List.map_replicate]; rfl) (by rw [List.length_replicate]; omega)
def spPlaces : Sp := fun vs H Q _ => ∃ (a : Addr) (n : Int), vs = [.ref a] ∧ Urn H a n ∧ n ≤ 90000 ∧ ∀ H', Urn H' a (n + 40) → SameBut a H H' → Q (.bl true) H'
section
variable {P : Program} {w : World} {K : PySem.W.Frag} {mg : Str → Option Value} {base : Heap}
abbrev nPl : List Str := ["urn", "p", "sign", "odd", "door", "no_signs", "one", "thing"]
theorem sc_places : FnScope nPl ["urn"] (defScope s_law_places_right) := ⟨rfl, rfl, rfl, by decide +kernel, rfl, by decide +kernel, by decide +kernel⟩
theorem ok_places {f : Addr} {fd : FuncData} (F : Fun K "_law_places_right" "_law_places_right" s_law_places_right f fd) (pull : C8.Cal P w K mg base 1 "_law_pull" spPull []) (ds : C8.Cal P w K mg base 2 "_law_drawn_sign" spDSign []) (ca : C8.Cal P w K mg base 9 "_law_asked" spAsked []) (mi : mg "list" = none) : FnOk P w K mg base CX0 10 f fd ["urn"] spPlaces := by
  refine F.ok sc_places (fun vs H Q E h => ?_) (fun cdv A outer s H vs Q E hr h => ?_)
  · obtain ⟨a, n, rfl, _⟩ := h
    rfl
  · obtain ⟨a, n, rfl, bA, hn, q⟩ := h
    have nd := sc_places.nd
    have hu := hr.units
    refine ⟨_, (pss_cons (by exact (ps_set (i := 1) nd rfl (Or.inr rfl) (pe_op op_add pe_int (C8.pe_c pull hr (by decide) rfl (pa_cons (pv 0) (pa_cons pe_int pa_nil))))))
      (pss_cons (by exact (ps_set (i := 2) nd rfl (Or.inr rfl) (C8.pe_c ds hr (by decide) rfl (pa_cons (pv 0) (pa_cons (pv 1) pa_nil)))))
      (pss_cons (by exact (ps_set (i := 3) nd rfl (Or.inl rfl) (pe_lstS (pa_cons pe_int (pa_cons (pe_un un_neg pe_int) (pa_cons pe_int (pa_cons pe_bl (pa_cons pe_bl (pa_cons pe_non (pa_cons pe_str (pa_cons (pe_tupS (pa_cons pe_int pa_nil)) (pa_cons (pe_lstS (pa_cons pe_int pa_nil)) (pa_cons (pe_op op_pow pe_int pe_int) (pa_cons pe_dnewK pa_nil))))))))))))))
      (pss_cons (by exact (ps_for PassesOwn.never rfl (pi_list (pe_lstS (pa_cons pe_int (pa_cons pe_int pa_nil)))) (pg_name (i := 4) nd rfl (Or.inr rfl)) (pss_cons (by exact (ps_if (pt_cmpR (op_neD hu) (pe_lc (own := [("one", 6)]) (g := (gName 6)) rfl nd (pi_list (pv 3)) (blkOk_by (N := nPl) (sc := defScope s_law_places_right) (by decide +kernel)) (fun _ _ _ _ _ => (pg_name (i := 6) nd rfl (Or.inl rfl))) (fun _ _ _ _ _ => pts_one (pt_cmpR (op_neDK (K := K) rfl hu) (C8.pe_c ca hr (by decide) rfl (pa_cons (pv 4) (pa_cons (pv 6) (pa_cons (pv 2) pa_nil)))) (pe_lstS (pa_cons pe_str pa_nil)) (nomark _))) (fun _ _ _ _ _ => (pv 6))) (pe_lstS pa_nil) (nomark _)) (pss_one (by exact (ps_ret pe_bl))) pss_nil))
      (pss_one (by exact (ps_if (pt_cmpR (op_neD hu) (pe_lc (own := [("one", 6)]) (g := (gName 6)) rfl nd (pi_list (pv 3)) (blkOk_by (N := nPl) (sc := defScope s_law_places_right) (by decide +kernel)) (fun _ _ _ _ _ => (pg_name (i := 6) nd rfl (Or.inl rfl))) (fun _ _ _ _ _ => pts_one (pt_cmpR (op_neDK (K := K) rfl hu) (C8.pe_c ca hr (by decide) rfl (pa_cons (pv 4) (pa_cons (pv 6) (pa_cons pe_non pa_nil)))) (pe_lstS (pa_cons pe_str pa_nil)) (nomark _))) (fun _ _ _ _ _ => (pv 6))) (pe_lstS pa_nil) (nomark _)) (pss_one (by exact (ps_ret pe_bl))) pss_nil))))))
      (pss_cons (by exact (ps_set (i := 5) nd rfl (Or.inl rfl) (pe_lstS (pa_cons pe_non (pa_cons (pe_callTy call_lisS (by rfl) mi (by decide +kernel) (pa_cons (pv 2) pa_nil)) (pa_cons (pe_op op_addT (pv 2) (pe_tupS (pa_cons pe_int pa_nil))) (pa_cons (pe_slice sl_cutT (pv 2) (po_some pe_int) po_none) (pa_cons pe_str (pa_cons pe_int (pa_cons (pe_op op_addT (pe_tupS (pa_cons pe_int pa_nil)) (pe_slice sl_cutT (pv 2) (po_some pe_int) po_none)) (pa_cons (pe_op op_addT (pe_tupS (pa_cons pe_bl pa_nil)) (pe_slice sl_cutT (pv 2) (po_some pe_int) po_none)) (pa_cons (pe_op op_repTT (pe_tupS (pa_cons pe_int pa_nil)) (pe_op op_add (pv 1) pe_int)) pa_nil))))))))))))
      (pss_cons (by exact (ps_if (pt_cmpR (op_neD hu) (pe_lc (own := [("thing", 7)]) (g := (gName 7)) rfl nd (pi_list (pv 5)) (blkOk_by (N := nPl) (sc := defScope s_law_places_right) (by decide +kernel)) (fun _ _ _ _ _ => (pg_name (i := 7) nd rfl (Or.inl rfl))) (fun _ _ _ _ _ => pts_one (pt_cmpR (op_neDK (K := K) rfl hu) (C8.pe_c ca hr (by decide) rfl (pa_cons pe_int (pa_cons (pv 1) (pa_cons (pv 7) pa_nil)))) (pe_lstS (pa_cons pe_str pa_nil)) (nomark _))) (fun _ _ _ _ _ => (pv 7))) (pe_lstS pa_nil) (nomark _)) (pss_one (by exact (ps_ret pe_bl))) pss_nil))
      (pss_cons (by exact (ps_if (pt_cmpR (op_neD hu) (pe_lc (own := [("thing", 7)]) (g := (gName 7)) rfl nd (pi_list (pv 5)) (blkOk_by (N := nPl) (sc := defScope s_law_places_right) (by decide +kernel)) (fun _ _ _ _ _ => (pg_name (i := 7) nd rfl (Or.inl rfl))) (fun _ _ _ _ _ => pts_one (pt_cmpR (op_neDK (K := K) rfl hu) (C8.pe_c ca hr (by decide) rfl (pa_cons pe_int (pa_cons (pv 1) (pa_cons (pv 7) pa_nil)))) (pe_lstS (pa_cons pe_str pa_nil)) (nomark _))) (fun _ _ _ _ _ => (pv 7))) (pe_lstS pa_nil) (nomark _)) (pss_one (by exact (ps_ret pe_bl))) pss_nil))
      (pss_cons (by exact (ps_if (pt_cmpR (op_neD hu) (C8.pe_c ca hr (by decide) rfl (pa_cons pe_int (pa_cons (pe_op op_add pe_int (C8.pe_c pull hr (by decide) rfl (pa_cons (pv 0) (pa_cons pe_int pa_nil)))) (pa_cons (pv 2) pa_nil)))) (pe_lstS (pa_cons pe_str pa_nil)) (nomark _)) (pss_one (by exact (ps_ret pe_bl))) pss_nil))
      (pss_one (by exact (ps_ret (pe_chain (op_eqD hu) (op_eqD hu) (C8.pe_c ca hr (by decide) rfl (pa_cons pe_int (pa_cons (pv 1) (pa_cons (pv 2) pa_nil)))) (C8.pe_c ca hr (by decide) rfl (pa_cons pe_int (pa_cons (pv 1) (pa_cons (pv 2) pa_nil)))) (pe_lstS (pa_cons pe_str pa_nil)))))))))))))), ?_⟩
    have z1 : (1 : Nat) ≤ sizeLine := by decide
    have z40 : (6 : Int) ≤ 10 ^ 40 := by decide
    refine ⟨_, rfl, a, 6, n, rfl, bA, by omega, by decide, z40, fun v1 H1 a0 a1 b1 sb1 => ⟨_, _, rfl, rfl, ?_⟩⟩
    obtain ⟨p, hp⟩ : ∃ p : Nat, 1 + v1 = (p : Int) := ⟨(1 + v1).toNat, by omega⟩
    dsimp only
    rw [hp]
    have p1 : 1 ≤ p := by omega
    have p6 : p ≤ 6 := by omega
    refine ⟨_, rfl, _, rfl, a, p, n + 1, rfl, b1, by omega, p1, by omega, fun t pt H2 lt bt h0 hs b2 sb2 npt ept => ?_⟩
    have sg : IsSg p (tD t) := ⟨t, rfl, lt, bt, h0, hs⟩
    have s02 : SameBut a H H2 := fun b o nb e => sb2 _ _ nb (sb1 _ _ nb e)
    have ept0 := ept
    -- odd
    refine ⟨_, rfl, z1, fun o1 K1 i1 x1 f1 => ⟨z1, fun o2 K2 i2 x2 f2 => ⟨10, 36, rfl, rfl, ⟨by decide, by decide, by decide⟩, ?_⟩⟩⟩
    intro o3 i3
    have x3 : Same K2 (upd K2 o3 (.dK [])) := same_new i3
    have f3 : upd K2 o3 (.dK []) o3 = some (.dK []) := upd_same
    generalize upd K2 o3 (.dK []) = K3 at x3 f3
    refine ⟨(by show 11 ≤ sizeLine; decide), fun S1 K4 i4 x4 f4 => ?_⟩
    have c4 : Same H2 K4 := Same.trans x1 (Same.trans x2 (Same.trans x3 x4))
    have tO : ThAll K4 (oddV o1 o2 o3) oddL := .cons (.int _) (.cons (.int _) (.cons (.int _) (.cons (.bl _) (.cons (.bl _) (.cons .non (.cons (.str _) (.cons (.tup (x4 _ _ (x3 _ _ (x2 _ _ f1))) (.cons (.int _) .nil)) (.cons (.lst (x4 _ _ (x3 _ _ f2)) (.cons (.int _) .nil)) (.cons (.int _) (.cons (.dct (x4 _ _ f3)) .nil))))))))))
    have eS1 : K4 S1 = some (.lst (oddV o1 o2 o3)) := f4
    have b4 := b2.same c4
    have ept4 := c4 _ _ ept
    have tpt4 : Th K4 (.ref pt) (tD t) := th_tD ept4
    have s04 : SameBut a H K4 := fun b o nb e => c4 _ _ (s02 _ _ nb e)
    clear x1 x2 x3 x4 f1 f2 f3 f4 i1 i2 i3 i4 c4 sb1 sb2 s02 b1 b2
    -- doors
    refine ⟨(by show 2 ≤ sizeLine; decide), fun W G1 nW sW eW => ?_⟩
    refine ⟨W, rfl, ⟨_, SqL.of eW⟩, for_list (K := K) (a := W) (xs := [V.int 3, V.int 4]) (fun i σ' H' => ∃ y4, σ' = [some (.ref a), some (.int (p : Int)), some (.ref pt), some (.ref S1), y4, none, none, none] ∧ Same G1 H') ⟨none, rfl, Same.refl _⟩ (fun i σ' H' _ h => by
      obtain ⟨_, _, r⟩ := h
      exact SqL.of (r _ _ eW)) ?_ ?_⟩
    · rintro i x σ' R hx ⟨y4, rfl, sR⟩
      have s4R : Same K4 R := Same.trans sW sR
      have ask : ∀ {x : V} {v u : V} {d e : PyData} {Hx : Hp} {Q1 : VK}, x = .int 3 ∨ x = .int 4 → Th Hx v d → inR d 1 12 = false ∧ inR d 1 6 = false → Th Hx u e → toldW "NoCount" Q1 Hx → spAsked [x, v, u] Hx Q1 C8.E0 := fun hx hv ho hu t => by
        rcases hx with rfl | rfl
        · exact ask3n hv hu ho.1 t
        · exact ask4n hv hu ho.2 t
      have hxx : x = .int 3 ∨ x = .int 4 := by
        match i, hx with
        | 0, h => cases h; exact .inl rfl
        | 1, h => cases h; exact .inr rfl
        | i + 2, h => simp at h
      refine sift_none (S := S1) (ws := oddV o1 o2 o3) rfl (s4R _ _ eS1) (fun _ => rfl) (by decide +kernel) (fun k y G Q1 hy sG t => ?_) (fun G sG => iteF ?_)
      · obtain ⟨d, hd, ty⟩ := tO.get hy
        exact ⟨_, rfl, _, rfl, _, rfl, ask hxx (Th.same (Same.trans s4R sG) _ ty) (odd_no d (List.mem_of_getElem? hd)) (Th.same (Same.trans s4R sG) _ tpt4) t⟩
      refine sift_none (S := S1) (ws := oddV o1 o2 o3) rfl (sG _ _ (s4R _ _ eS1)) (fun _ => rfl) (by decide +kernel) (fun k y G2 Q1 hy sG2 t => ?_) (fun G2 sG2 => iteF ?_)
      · obtain ⟨d, hd, ty⟩ := tO.get hy
        exact ⟨_, rfl, _, rfl, ask hxx (Th.same (Same.trans s4R (Same.trans sG sG2)) _ ty) (odd_no d (List.mem_of_getElem? hd)) .non t⟩
      exact ⟨_, rfl, Same.trans sR (Same.trans sG sG2)⟩
    rintro σ5 H5 ⟨y4, rfl, s5⟩
    have s45 : Same K4 H5 := Same.trans sW s5
    have ept5 := s45 _ _ ept4
    have b5 := b4.same s45
    have s05 : SameBut a H H5 := fun b o nb e => s45 _ _ (s04 _ _ nb e)
    -- no_signs
    have eD : cutV (t.map vN) (some 1) Option.none = (t.drop 1).map vN := by rw [show (1 : Int) = ((1 : Nat) : Int) from rfl, cut_from, List.map_drop]
    refine ⟨_, rfl, pt, _, rfl, .inr ept5, fun l1 M1 j1 q1 g1 => ?_⟩
    refine ⟨_, rfl, z1, fun l2 M2 j2 q2 g2 => ⟨pt, l2, _, _, rfl, rfl, q2 _ _ (q1 _ _ ept5), g2, (by rw [List.length_map, sizeLine_eq]; show _ + 1 ≤ _; omega), fun l3 M3 q3 g3 => ?_⟩⟩
    have e3 := q3 _ _ (q2 _ _ (q1 _ _ ept5))
    refine ⟨_, rfl, _, rfl, pt, _, rfl, e3, fun l4 M4 q4 g4 => ?_⟩
    rw [eD] at g4
    have e4 := q4 _ _ e3
    refine ⟨z1, fun l5 M5 j5 q5 g5 => ⟨_, rfl, _, rfl, pt, _, rfl, q5 _ _ e4, fun l6 M6 q6 g6 => ?_⟩⟩
    rw [eD] at g6
    refine ⟨l5, l6, _, _, rfl, rfl, q6 _ _ g5, g6, (by rw [List.length_map, List.length_drop, sizeLine_eq]; show 1 + _ ≤ _; omega), fun l7 M7 q7 g7 => ?_⟩
    have e7 := q7 _ _ (q6 _ _ (q5 _ _ e4))
    refine ⟨z1, fun l8 M8 j8 q8 g8 => ⟨_, rfl, _, rfl, pt, _, rfl, q8 _ _ e7, fun l9 M9 q9 g9 => ?_⟩⟩
    rw [eD] at g9
    refine ⟨l8, l9, _, _, rfl, rfl, q9 _ _ g8, g9, (by rw [List.length_map, List.length_drop, sizeLine_eq]; show 1 + _ ≤ _; omega), fun l10 M10 q10 g10 => ?_⟩
    refine ⟨z1, fun l11 M11 j11 q11 g11 => ⟨_, rfl, _, _, rfl, rfl, l11, _, _, rfl, rfl, g11, (fun z => nomatch z), by omega, by omega, (by show 1 ≤ 1000; decide), fun l12 M12 q12 g12 => ?_⟩⟩
    refine ⟨(by show 9 ≤ sizeLine; decide), fun S2 M13 j13 q13 g13 => ?_⟩
    rw [show ((p : Int) + 1).toNat = p + 1 by omega, flat_any] at g12
    have c12 : Same M12 M13 := q13
    have c11 : Same M11 M13 := Same.trans q12 c12
    have c10 : Same M10 M13 := Same.trans q11 c11
    have c9 : Same M9 M13 := Same.trans q10 c10
    have c8 : Same M8 M13 := Same.trans q9 c9
    have c7 : Same M7 M13 := Same.trans q8 c8
    have c6 : Same M6 M13 := Same.trans q7 c7
    have c5 : Same M5 M13 := Same.trans q6 c6
    have c4 : Same M4 M13 := Same.trans q5 c5
    have c3 : Same M3 M13 := Same.trans q4 c4
    have c2 : Same M2 M13 := Same.trans q3 c3
    have c1 : Same M1 M13 := Same.trans q2 c2
    have c0 : Same H5 M13 := Same.trans q1 c1
    have tN : ThAll M13 [.non, .ref l1, .ref l3, .ref l4, .str "0", .int 0, .ref l7, .ref l10, .ref l12] (signsD t p) := .cons .non (.cons (.lst (c1 _ _ g1) (ints_nat _)) (.cons (.tup (c3 _ _ g3) (ThAll.append (ints_nat _) (.cons (.int _) .nil))) (.cons (.tup (c4 _ _ g4) (ints_nat _)) (.cons (.str _) (.cons (.int _) (.cons (.tup (c7 _ _ g7) (ThAll.append (.cons (.int _) .nil) (ints_nat _))) (.cons (.tup (c10 _ _ g10) (ThAll.append (.cons (.bl _) .nil) (ints_nat _))) (.cons (.tup (c12 _ _ g12) (thAll_rep (.int 0) _)) .nil))))))))
    have eS2 : M13 S2 = some (.lst [.non, .ref l1, .ref l3, .ref l4, .str "0", .int 0, .ref l7, .ref l10, .ref l12]) := g13
    have b13 := b5.same c0
    have ept13 := c0 _ _ ept5
    have s013 : SameBut a H M13 := fun b o nb e => c0 _ _ (s05 _ _ nb e)
    clear c1 c2 c3 c4 c5 c6 c7 c8 c9 c10 c11 c12 c0 q1 q2 q3 q4 q5 q6 q7 q8 q9 q10 q11 q12 q13 g1 g2 g3 g4 g5 g6 g7 g8 g9 g10 g11 g12 g13
    have npt : pt ≠ a := fun e => by
      obtain ⟨_, _, _, eb, _⟩ := id b13
      rw [e, eb] at ept13
      cases ept13
    refine sift_none (S := S2) rfl eS2 (fun _ => rfl) (by decide +kernel) (fun k y G Q1 hy sG t' => ?_) (fun G sG => iteF ?_)
    · obtain ⟨d, hd, ty⟩ := tN.get hy
      exact ⟨_, rfl, _, rfl, ask4x p1 p6 (Th.same sG _ ty) (signs_no p1 lt d (List.mem_of_getElem? hd)) t'⟩
    refine sift_none (S := S2) rfl (sG _ _ eS2) (fun _ => rfl) (by decide +kernel) (fun k y G2 Q1 hy sG2 t' => ?_) (fun G2 sG2 => iteF ?_)
    · obtain ⟨d, hd, ty⟩ := tN.get hy
      exact ⟨_, rfl, _, rfl, ask3t p1 (by omega) (Th.same (Same.trans sG sG2) _ ty) t'⟩
    have sGG := Same.trans sG sG2
    have bG := b13.same sGG
    have eptG := sGG _ _ ept13
    refine ⟨_, rfl, a, 6, _, rfl, bG, by omega, by decide, z40, fun ov R v0 v6 bR sR => ⟨_, _, rfl, rfl, _, rfl, ask4n (.int _) (th_tD (sR _ _ npt eptG)) ?_ (fun pp G3 sG3 eG3 => ⟨z1, fun p2 G4 n4 s4 e4' => ⟨_, _, dp_w (s4 _ _ eG3), dp_w e4', shaped_w (by decide +kernel), shaped_w (by decide +kernel), _, rfl, ?_⟩⟩)⟩⟩
    · show (decide ((1 : Int) ≤ 7 + ov) && decide (7 + ov ≤ 6)) = false
      rw [decide_eq_false (show ¬ (7 + ov ≤ 6) by omega), Bool.and_false]
    rw [eqv_w]
    refine iteF ?_
    have sR4 : Same R G4 := Same.trans sG3 s4
    have ept4' := sR4 _ _ (sR _ _ npt eptG)
    have bE := bR.same sR4
    have sE : SameBut a H G4 := fun b o nb e => sR4 _ _ (sR _ _ nb (sGG _ _ (s013 _ _ nb e)))
    refine ⟨_, rfl, _, rfl, ask4t p1 p6 (th_tD ept4') sg fun r1 R1 x1 f1 => ?_⟩
    refine ⟨_, rfl, _, rfl, ask3t p1 (by omega) (th_tD (x1 _ _ ept4')) fun r2 R2 x2 f2 => ?_⟩
    refine ⟨_, _, dp_w (x2 _ _ f1), dp_w f2, shaped_w (by decide +kernel), shaped_w (by decide +kernel), _, rfl, ?_⟩
    rw [eqv_w]
    refine iteT ⟨z1, fun r3 R3 n3 x3 f3 => ⟨_, _, dp_w (x3 _ _ f2), dp_w f3, shaped_w (by decide +kernel), shaped_w (by decide +kernel), ?_⟩⟩
    rw [eqv_w]
    exact q R3 ((bE.same (Same.trans x1 (Same.trans x2 x3))).le (by omega)) (fun b o nb e => x3 _ _ (x2 _ _ (x1 _ _ (sE _ _ nb e))))
end
end Lk
end
section
set_option maxRecDepth 100000
set_option maxHeartbeats 4000000
namespace Lk
open PySem PySem.Spec PyProof.Rows L2
/-- what the law calls -/
structure Calls (P : Program) (w : World) (K : PySem.W.Frag) (mg : Str → Option Value) (base : Heap) (C1 : Addr) : Prop where
  urn : C8.Cal P w K mg base 1 "_law_urn" spUrn []
  coder : C8.Cal P w K mg base 2 "_law_coder" spUCoder []
  noc : C8.Cal P w K mg base 2 "_law_no_coders" spNoCoders []
  lin : C8.Cal P w K mg base 2 "_law_in_round" spEnter []
  asked : C8.Cal P w K mg base 9 "_law_asked" spAsked []
  places : C8.Cal P w K mg base 10 "_law_places_right" spPlaces []
  inr : CalN P w K mg base 6 "in_round" (spOne C1 toldIn)
  len : mg "len" = none
  repr : mg "repr" = none
theorem ask0n {H : Hp} {u v : V} {e d : PyData} {Q : VK} (he : Th H u e) (hv : Th H v d) (h : isCd e = false) (t : toldW "NoCoder" Q H) : spAsked [.int 0, u, v] H Q C8.E0 :=
  ⟨0, u, v, e, d, rfl, by decide, by decide, he, hv, fun _ => ⟨fun _ => t, fun c ec hc => (by rw [ec, isCd_cdD hc] at h; cases h)⟩, fun z => no2 (by decide) (by decide) z, fun z => absurd z (by decide), fun z => absurd z (by decide)⟩
theorem ask0t {H : Hp} {u v : V} {d : PyData} {c : Cd} {Q : VK} (he : Th H u (cdD c)) (hv : Th H v d) (h : CdOk c) (t : toldW "told" Q H) : spAsked [.int 0, u, v] H Q C8.E0 :=
  ⟨0, u, v, _, d, rfl, by decide, by decide, he, hv, fun _ => ⟨fun z => (by rw [isCd_cdD h] at z; cases z), fun _ _ _ => t⟩, fun z => no2 (by decide) (by decide) z, fun z => absurd z (by decide), fun z => absurd z (by decide)⟩
theorem two3 {n : Int} (h : isTwo n) : 0 ≤ n ∧ n ≤ 4 ∧ n ≠ 0 ∧ n ≠ 3 ∧ n ≠ 4 := by rcases h with rfl | rfl <;> decide
theorem askx {n : Int} {H : Hp} {u v : V} {e d : PyData} {Q : VK} (hn : isTwo n) (he : Th H u e) (hv : Th H v d) (h : isCd e = false) (t : toldW "NoCoder" Q H) : spAsked [.int n, u, v] H Q C8.E0 :=
  ⟨n, u, v, e, d, rfl, (two3 hn).1, (two3 hn).2.1, he, hv, fun z => absurd z (two3 hn).2.2.1, fun _ => ⟨fun _ => t, fun z => (by rw [z] at h; cases h), fun c _ ec hc => (by rw [ec, isCd_cdD hc] at h; cases h)⟩, fun z => absurd z (two3 hn).2.2.2.1, fun z => absurd z (two3 hn).2.2.2.2⟩
theorem asky {n : Int} {H : Hp} {u v : V} {c : Cd} {d : PyData} {Q : VK} (hn : isTwo n) (he : Th H u (cdD c)) (hc : CdOk c) (hv : Th H v d) (h : isCd d = false) (t : toldW "NoCoder" Q H) : spAsked [.int n, u, v] H Q C8.E0 :=
  ⟨n, u, v, _, d, rfl, (two3 hn).1, (two3 hn).2.1, he, hv, fun z => absurd z (two3 hn).2.2.1, fun _ => ⟨fun _ => t, fun _ _ => t, fun _ c2 _ _ ed hc2 => (by rw [ed, isCd_cdD hc2] at h; cases h)⟩, fun z => absurd z (two3 hn).2.2.2.1, fun z => absurd z (two3 hn).2.2.2.2⟩
/-- which word is due -/
structure Due (n : Int) (c c2 : Cd) (wd : Str) : Prop where
  ne : c.2.length ≠ c2.2.length → wd = "NotLike"
  yes : c.2.length = c2.2.length → (n = 1 ∨ Free c ∧ Free c2) → wd = "told"
  no : c.2.length = c2.2.length → n = 2 → ¬ (Free c ∧ Free c2) → wd = "NotRound"
  ok : PyData.strOk wd = true
theorem askc {n : Int} {H : Hp} {u v : V} {c c2 : Cd} {wd : Str} {Q : VK} (hn : isTwo n) (he : Th H u (cdD c)) (hc : CdOk c) (hv : Th H v (cdD c2)) (hc2 : CdOk c2) (D : Due n c c2 wd) (t : toldW wd Q H) : spAsked [.int n, u, v] H Q C8.E0 :=
  ⟨n, u, v, _, _, rfl, (two3 hn).1, (two3 hn).2.1, he, hv, fun z => absurd z (two3 hn).2.2.1, fun _ => ⟨fun z => (by rw [isCd_cdD hc] at z; cases z), fun _ z => (by rw [isCd_cdD hc2] at z; cases z), fun c' c2' ec _ ed _ => (by
    have e1 := cdD_inj ec
    have e2 := cdD_inj ed
    subst e1 e2
    exact ⟨fun ne => D.ne ne ▸ t, fun le => ⟨fun h => D.yes le h ▸ t, fun h nf => D.no le h nf ▸ t⟩⟩)⟩, fun z => absurd z (two3 hn).2.2.2.1, fun z => absurd z (two3 hn).2.2.2.2⟩
theorem dps2 {K : PySem.W.Frag} {H : Hp} : ∀ {rs : List (Addr × Str)}, (∀ q ∈ rs, H q.1 = some (.lst [.str q.2])) → DpAll K H (rs.map fun q => V.ref q.1) (rs.map fun q => .list [.str q.2])
  | [], _ => .nil
  | r :: rs, h => .cons (dp_w (h r List.mem_cons_self)) (dps2 fun x hx => h x (List.mem_cons_of_mem _ hx))
theorem shaped3 {a b c : Str} (ha : PyData.strOk a = true) (hb : PyData.strOk b = true) (hc : PyData.strOk c = true) : SeqAt.shaped (.list [.list [.str a], .list [.str b], .list [.str c]]) = true := by
  unfold SeqAt.shaped
  simp [PyData.canLay0, PyData.canLayAll0, PyData.depth, PyData.depthAll, ha, hb, hc]
theorem eqv3 (a b c : Str) : PyData.eqv (.list [.list [.str a], .list [.str b], .list [.str c]]) (.list [.list [.str a], .list [.str b], .list [.str c]]) = true := by simp [PyData.eqv, PyData.eqvAll]
def spLaw (K : PySem.W.Frag) : Sp := fun vs H Q _ => ∃ (a : Addr) (ns : List Int), vs = [.ref a] ∧ SqL K H a (ns.map V.int) ∧ ns.length ≤ 63 ∧ ∀ H', Q (.bl true) H'
abbrev nL : List Str := ["script", "cell", "urn", "coder", "mate", "bad", "kept", "thing", "told", "unlike", "due", "there", "late"]
section
variable {P : Program} {w : World} {K : PySem.W.Frag} {mg : Str → Option Value} {base : Heap}
theorem sc_law : FnScope nL ["script"] (defScope s_law) := ⟨rfl, rfl, rfl, by decide +kernel, rfl, by decide +kernel, by decide +kernel⟩
theorem ok_law {f C1 : Addr} {fd : FuncData} (F : Fun K "law" "law" s_law f fd) (T : Calls P w K mg base C1) : FnG P w K mg base CX0 12 f fd ["script"] (spLaw K) := by
  refine fnG F sc_law (fun {vs H Q E} h => ?_) (fun cdv A outer s H vs Q E gA hr h => ?_)
  · obtain ⟨a, ns, rfl, _⟩ := h
    rfl
  · obtain ⟨a, ns, rfl, hS, h63, q⟩ := h
    have nd := sc_law.nd
    have hu0 := hr.un
    have hv : (A.deeper (envOfC "law" (defScope s_law) s.heap.objs.size f cdv)).units + 100 < cLine := by omega
    have hu : (A.deeper (envOfC "law" (defScope s_law) s.heap.objs.size f cdv)).units + 64 < cLine := by omega
    refine ⟨_, (pss_cons (by exact (ps_for PassesOwn.never rfl (pi_list (pe_op op_catS (pe_slice sl_list (pv 0) po_none (po_some pe_int)) (pe_lstS (pa_cons pe_int pa_nil)))) (pg_name (i := 1) nd rfl (Or.inl rfl)) (pss_cons (by exact (ps_set (i := 2) nd rfl (Or.inl rfl) (C8.pe_c T.urn hr (by decide) rfl (pa_cons (pv 1) pa_nil))))
      (pss_cons (by exact (ps_par (i := 3) (j := 4) (by rfl) nd rfl rfl (by decide) rfl rfl (pa_cons (C8.pe_c T.coder hr (by decide) rfl (pa_cons (pv 2) (pa_cons pe_int pa_nil))) (pa_cons (C8.pe_c T.coder hr (by decide) rfl (pa_cons (pv 2) (pa_cons pe_int pa_nil))) pa_nil)) (by rfl)))
      (pss_cons (by exact (ps_set (i := 5) nd rfl (Or.inl rfl) (C8.pe_c T.noc hr (by decide) rfl (pa_cons (pv 2) (pa_cons (pv 3) pa_nil)))))
      (pss_cons (by exact (ps_set (i := 6) nd rfl (Or.inl rfl) (pe_callB (call_rep gA hv) (by rfl) T.repr (by decide +kernel) (pa_cons (pe_lstS (pa_cons (pv 3) (pa_cons (pv 4) (pa_cons (pv 5) pa_nil)))) pa_nil))))
      (C8.pss_cut (by exact (ps_for PassesOwn.never rfl (pi_list (pv 5)) (pg_name (i := 7) nd rfl (Or.inl rfl)) (pss_cons (by exact (ps_set (i := 8) nd rfl (Or.inl rfl) (pe_lstS (pa_cons (C8.pe_c T.asked hr (by decide) rfl (pa_cons pe_int (pa_cons (pv 7) (pa_cons pe_non pa_nil)))) (pa_cons (C8.pe_c T.asked hr (by decide) rfl (pa_cons pe_int (pa_cons (pv 7) (pa_cons (pv 4) pa_nil)))) (pa_cons (C8.pe_c T.asked hr (by decide) rfl (pa_cons pe_int (pa_cons (pv 3) (pa_cons (pv 7) pa_nil)))) pa_nil))))))
      (pss_cons (by exact (ps_set (i := 8) nd rfl (Or.inl rfl) (pe_op op_catS (pv 8) (pe_lstS (pa_cons (C8.pe_c T.asked hr (by decide) rfl (pa_cons pe_int (pa_cons (pv 7) (pa_cons pe_non pa_nil)))) (pa_cons (C8.pe_c T.asked hr (by decide) rfl (pa_cons pe_int (pa_cons (pv 3) (pa_cons (pv 7) pa_nil)))) pa_nil))))))
      (pss_one (by exact (ps_if (pt_cmpR (op_neD hu) (pv 8) (pe_op op_rep (pe_lstS (pa_cons (pe_lstS (pa_cons pe_str pa_nil)) pa_nil)) pe_int) (nomark _)) (pss_one (by exact (ps_ret pe_bl))) pss_nil)))))))
      (C8.pss_cut (by exact (ps_set (i := 9) nd rfl (Or.inl rfl) (pe_cmpR op_ne (pe_callB call_len_seq (by rfl) T.len PySem.boot_len (pa_cons (pe_ix ix_tup (pv 3) pe_int (fun _ _ => rfl)) pa_nil)) (pe_callB call_len_seq (by rfl) T.len PySem.boot_len (pa_cons (pe_ix ix_tup (pv 4) pe_int (fun _ _ => rfl)) pa_nil)) (nomark _))))
      (C8.pss_cut (by exact (ps_set (i := 10) nd rfl (Or.inl rfl) (pe_ifExp (pt_val (pv 9)) (pe_lstS (pa_cons pe_str pa_nil)) (pe_lstS (pa_cons pe_str pa_nil)))))
      (C8.pss_cut (by exact (ps_if (pt_cmpR (op_neD hu) (C8.pe_c T.asked hr (by decide) rfl (pa_cons pe_int (pa_cons (pv 3) (pa_cons (pv 4) pa_nil)))) (pv 10) (nomark _)) (pss_one (by exact (ps_ret pe_bl))) pss_nil))
      (C8.pss_cut (by exact (ps_if (PW.pt (pw_and (pt_not (pt_val (pv 9))) (pw_and1 (pt_not (PW.pt (pw_and (pt_val (pe_cN0 T.inr hr (by decide) rfl (pa_cons (pv 3) pa_nil))) (pw_and1 (pt_val (pe_cN0 T.inr hr (by decide) rfl (pa_cons (pv 4) pa_nil)))))))))) (pss_one (by exact (ps_set (i := 10) nd rfl (Or.inl rfl) (pe_lstS (pa_cons pe_str pa_nil))))) pss_nil))
      (C8.pss_cut (by exact (ps_set (i := 11) nd rfl (Or.inl rfl) (pe_ix ix_tup (C8.pe_c T.lin hr (by decide) rfl (pa_cons (pv 3) pa_nil)) pe_int (fun _ _ => rfl))))
      (C8.pss_cut (by exact (ps_set (i := 12) nd rfl (Or.inl rfl) (pe_ifExp (pt_val (pe_cN0 T.inr hr (by decide) rfl (pa_cons (pv 3) pa_nil))) (pe_lstS (pa_cons pe_str pa_nil)) (pe_lstS (pa_cons pe_str pa_nil)))))
      (C8.pss_cut (by exact (ps_set (i := 8) nd rfl (Or.inl rfl) (pe_lstS (pa_cons (C8.pe_c T.asked hr (by decide) rfl (pa_cons pe_int (pa_cons (pv 3) (pa_cons (pv 4) pa_nil)))) (pa_cons (C8.pe_c T.asked hr (by decide) rfl (pa_cons pe_int (pa_cons (pv 11) (pa_cons (pv 3) pa_nil)))) (pa_cons (C8.pe_c T.asked hr (by decide) rfl (pa_cons pe_int (pa_cons (pv 3) (pa_cons (pv 11) pa_nil)))) pa_nil))))))
      (C8.pss_cut (by exact (ps_if (PW.pt (pw_or (pt_cmpR (op_neD hu) (pv 8) (pe_lstS (pa_cons (pv 10) (pa_cons (pv 12) (pa_cons (pv 12) pa_nil)))) (nomark _)) (pw_or1 (pt_cmpR (op_neD hu) (C8.pe_c T.asked hr (by decide) rfl (pa_cons pe_int (pa_cons (pv 3) (pa_cons pe_non pa_nil)))) (pe_lstS (pa_cons pe_str pa_nil)) (nomark _))))) (pss_one (by exact (ps_ret pe_bl))) pss_nil))
      (pss_one (by exact (ps_if (PW.pt (pw_or (pt_cmpR op_ne (pe_callB (call_rep gA hv) (by rfl) T.repr (by decide +kernel) (pa_cons (pe_lstS (pa_cons (pv 3) (pa_cons (pv 4) (pa_cons (pv 5) pa_nil)))) pa_nil)) (pv 6) (nomark _)) (pw_or1 (pt_not (pt_val (C8.pe_c T.places hr (by decide) rfl (pa_cons (pv 2) pa_nil))))))) (pss_one (by exact (ps_ret pe_bl))) pss_nil))))))))))))))))))
      (pss_one (by exact (ps_ret pe_bl)))), ?_⟩
    refine ⟨_, rfl, _, rfl, a, _, rfl, hS, fun p1 n1 => ⟨(by show 1 ≤ sizeLine; decide), fun p2 HB n2 sB e2 => ?_⟩⟩
    refine ⟨p1, p2, _, _, rfl, rfl, sB _ _ upd_same, e2, ?_, fun L HL nL sL eL => ?_⟩
    · have z := cells_len (k := 6) h63
      show _ + 1 ≤ sizeLine
      rw [sizeLine_eq]
      omega
    have cint := cells_ints (ns := ns) (k := 6)
    generalize cutV (ns.map V.int) Option.none (some 6) ++ [V.int 0] = cells at cint eL
    have z1 : (1 : Nat) ≤ sizeLine := by decide
    have z3 : (3 : Nat) ≤ sizeLine := by decide
    refine ⟨L, rfl, ⟨_, SqL.of eL⟩, for_list (K := K) (a := L) (xs := cells) (fun i σ H1 => ∃ y1 y2 y3 y4 y5 y6 y7 y8 y9 y10 y11 y12, σ = [some (.ref a), y1, y2, y3, y4, y5, y6, y7, y8, y9, y10, y11, y12] ∧ Same HL H1) ⟨none, none, none, none, none, none, none, none, none, none, none, none, rfl, Same.refl _⟩ (fun i σ H1 _ h => by
      obtain ⟨_, _, _, _, _, _, _, _, _, _, _, _, _, q⟩ := h
      exact SqL.of (q _ _ eL)) ?_ ?_⟩
    · rintro i x σ H1 hx ⟨y1, y2, y3, y4, y5, y6, y7, y8, y9, y10, y11, y12, rfl, s1⟩
      obtain ⟨z, rfl⟩ := cint x (List.mem_of_getElem? hx)
      refine ⟨_, rfl, z, rfl, fun A1 H2 nA sA bA => ?_⟩
      have nLA : HL A1 = none := s1.free nA
      have sHL2 : Same HL H2 := Same.trans s1 sA
      refine ⟨_, rfl, A1, 12, 0, rfl, bA, by decide, by decide, by decide, fun cv c H3 hc hlt hbig b3 sb3 cat => ⟨_, rfl, A1, 12, 0 + 100, rfl, b3, by decide, by decide, by decide, fun cw c2 H4 hc2 hlt2 hbig2 b4 sb4 cat2 => ⟨_, _, rfl, ?_⟩⟩⟩
      obtain ⟨ca, la, rfl, hca, hla⟩ := id cat
      obtain ⟨cb, lb, rfl, hcb, hlb⟩ := id cat2
      have cat4 : Cat H4 (.ref ca) c := by
        obtain ⟨_, _, _, eb, _⟩ := id b3
        exact cat.but eb sb4
      have hB45 : ∀ x ∈ c.2, x < 10 ^ 45 := fun x hx => Nat.lt_trans (hbig x hx) (by decide)
      have hB45' : ∀ x ∈ c2.2, x < 10 ^ 45 := fun x hx => Nat.lt_trans (hbig2 x hx) (by decide)
      refine ⟨_, rfl, _, rfl, A1, .ref ca, c, 0 + 100 + 100, rfl, b4, by decide, cat4, hc, hB45, fun D1 H5 w1 d1 eD1 tD1 no1 gd1 l1 b5 sb5 => ?_⟩
      have cat5 : Cat H5 (.ref ca) c := by
        obtain ⟨_, _, _, eb, _⟩ := id b4
        exact cat4.but eb sb5
      have cat5' : Cat H5 (.ref cb) c2 := by
        obtain ⟨_, _, _, eb, _⟩ := id b4
        exact cat2.but eb sb5
      have nD1 : D1 ≠ A1 := fun e => by
        obtain ⟨_, _, _, eb, _⟩ := id b5
        rw [e, eb] at eD1
        have z := l1
        rw [← tD1.length, ← (HO.lst.inj (Option.some.inj eD1))] at z
        cases z
      have sHL5 : Same HL H5 := fun b o e => sb5 b o (ne_of_none e nLA) (sb4 b o (ne_of_none e nLA) (sb3 b o (ne_of_none e nLA) (sHL2 b o e)))
      clear cat hca hla cat4 cat2 hcb hlb b3 sb3 b4 sb4 sb5 sHL2 s1 sA bA nA
      have tD5 : ThAll H5 w1 d1 := ThAll.same rm_same _ tD1
      have shown : ∀ {H' : Hp} {p' : Addr} {Q' : VK}, Same H5 H' → H' p' = some (.lst [.ref ca, .ref cb, .ref D1]) → Q' (.str (PyData.list [cdD c, cdD c2, .list d1]).shown) H' → rRep K [.ref p'] H' Q' := fun {H' p' Q'} s e q => by
        refine rep_lists e (.cons (cat5.same s).th (.cons (cat5'.same s).th (.cons (.lst (s _ _ eD1) (ThAll.same s _ tD5)) .nil))) (fun d hd => ?_) (by show 3 ≤ 10; decide) q
        simp only [List.mem_cons, List.not_mem_nil, or_false] at hd
        rcases hd with rfl | rfl | rfl
        · exact (good_cd hc hB45).x
        · exact (good_cd hc2 hB45').x
        · exact goodX_list gd1 (by omega)
      refine ⟨_, rfl, _, rfl, _, rfl, z3, fun S4 N3 n4 s4 e4 => ?_⟩
      try dsimp only [tNil]
      refine shown s4 e4 ?_
      obtain ⟨kS, ekS⟩ : ∃ kS, V.str (PyData.list [cdD c, cdD c2, .list d1]).shown = kS := ⟨_, rfl⟩
      rw [ekS]
      -- bad
      refine ⟨fun σ' H' => ∃ y7 y8, σ' = [some (.ref a), some (.int z), some (.ref A1), some (.ref ca), some (.ref cb), some (.ref D1), some kS, y7, y8, y9, y10, y11, y12] ∧ Same N3 H', ?_, ?_⟩
      · refine ⟨_, rfl, D1, rfl, ⟨_, SqL.of (s4 _ _ eD1)⟩, for_list (K := K) (a := D1) (xs := w1) (fun i σ' H' => ∃ y7 y8, σ' = [some (.ref a), some (.int z), some (.ref A1), some (.ref ca), some (.ref cb), some (.ref D1), some kS, y7, y8, y9, y10, y11, y12] ∧ Same N3 H') ⟨_, _, rfl, Same.refl _⟩ (fun i σ' H' _ h => by
          obtain ⟨_, _, _, r⟩ := h
          exact SqL.of (r _ _ (s4 _ _ eD1))) ?_ ?_⟩
        · rintro i x σ' R hx ⟨y7', y8', rfl, sR⟩
          obtain ⟨d, hd, tx0⟩ := tD5.get hx
          have hno := no1 d (List.mem_of_getElem? hd)
          have s5R : Same H5 R := Same.trans s4 sR
          have tx := Th.same s5R _ tx0
          have tc := (cat5.same s5R).th
          have tm := (cat5'.same s5R).th
          refine ⟨_, rfl, ask0n tx .non hno fun r1 R1 x1 f1 => ?_⟩
          refine ⟨_, rfl, _, rfl, askx (.inl rfl) (Th.same x1 _ tx) (Th.same x1 _ tm) hno fun r2 R2 x2 f2 => ?_⟩
          have x12 := Same.trans x1 x2
          refine ⟨_, rfl, _, rfl, asky (.inl rfl) (Th.same x12 _ tc) hc (Th.same x12 _ tx) hno fun r3 R3 x3 f3 => ?_⟩
          have x13 := Same.trans x12 x3
          refine ⟨z3, fun T1 R4 n4' x4 f4 => ?_⟩
          have x14 := Same.trans x13 x4
          refine ⟨_, rfl, _, rfl, askx (.inr rfl) (Th.same x14 _ tx) .non hno fun r5 R5 x5 f5 => ?_⟩
          have x15 := Same.trans x14 x5
          refine ⟨_, rfl, _, rfl, asky (.inr rfl) (Th.same x15 _ tc) hc (Th.same x15 _ tx) hno fun r6 R6 x6 f6 => ⟨(by show 2 ≤ sizeLine; decide), fun T2 R7 n7 x7 f7 => ?_⟩⟩
          refine ⟨T1, T2, _, _, rfl, rfl, x7 _ _ (x6 _ _ (x5 _ _ f4)), f7, (by show 3 + 2 ≤ sizeLine; decide), fun T3 R8 n8 x8 f8 => ?_⟩
          refine ⟨_, rfl, z1, fun Z1 R9 nZ1 sZ1 eZ1 => ⟨z1, fun Z2 R10 nZ2 sZ2 eZ2 => ⟨Z2, 5, _, rfl, rfl, eZ2, by decide, by decide, (by show 1 * 5 ≤ sizeLine; decide), fun pz npz => ?_⟩⟩⟩
          have s13 : Same R8 (upd R10 pz (.lst (List.replicate (5 : Int).toNat [V.ref Z1]).flatten)) := Same.trans sZ1 (Same.trans sZ2 (same_new npz))
          have k8 : Same R7 (upd R10 pz (.lst (List.replicate (5 : Int).toNat [V.ref Z1]).flatten)) := Same.trans x8 s13
          have k6 : Same R6 (upd R10 pz (.lst (List.replicate (5 : Int).toNat [V.ref Z1]).flatten)) := Same.trans x7 k8
          have k5 : Same R5 (upd R10 pz (.lst (List.replicate (5 : Int).toNat [V.ref Z1]).flatten)) := Same.trans x6 k6
          have k4 : Same R4 (upd R10 pz (.lst (List.replicate (5 : Int).toNat [V.ref Z1]).flatten)) := Same.trans x5 k5
          have k3 : Same R3 (upd R10 pz (.lst (List.replicate (5 : Int).toNat [V.ref Z1]).flatten)) := Same.trans x4 k4
          have k2 : Same R2 (upd R10 pz (.lst (List.replicate (5 : Int).toNat [V.ref Z1]).flatten)) := Same.trans x3 k3
          have k1 : Same R1 (upd R10 pz (.lst (List.replicate (5 : Int).toNat [V.ref Z1]).flatten)) := Same.trans x2 k2
          have e1 : ∀ r ∈ [r1, r2, r3, r5, r6], upd R10 pz (.lst (List.replicate (5 : Int).toNat [V.ref Z1]).flatten) r = some (.lst [.str "NoCoder"]) := fun r hr => by
            simp only [List.mem_cons, List.not_mem_nil, or_false] at hr
            rcases hr with rfl | rfl | rfl | rfl | rfl
            · exact k1 _ _ f1
            · exact k2 _ _ f2
            · exact k3 _ _ f3
            · exact k5 _ _ f5
            · exact k6 _ _ f6
          have eZ : ∀ r ∈ [Z1, Z1, Z1, Z1, Z1], upd R10 pz (.lst (List.replicate (5 : Int).toNat [V.ref Z1]).flatten) r = some (.lst [.str "NoCoder"]) := fun r hr => by
            have e : r = Z1 := by
              simp only [List.mem_cons, List.not_mem_nil, or_false, or_self] at hr
              exact hr
            rw [e]
            exact same_new npz _ _ (sZ2 _ _ eZ1)
          refine ⟨.list (List.replicate 5 (.list [.str "NoCoder"])), .list (List.replicate 5 (.list [.str "NoCoder"])), .lst (SqL.of (s13 _ _ f8)) (dps_w (K := K) e1), .lst (SqL.of upd_same) (dps_w (K := K) eZ), shaped_wl (by decide +kernel) 5, shaped_wl (by decide +kernel) 5, _, rfl, ?_⟩
          rw [show (!PyData.eqv (.list (List.replicate 5 (.list [.str "NoCoder"]))) (.list (List.replicate 5 (.list [.str "NoCoder"])))) = false from by rw [eqv_self_w]; rfl]
          exact iteF ⟨_, _, rfl, Same.trans sR (Same.trans x1 k1)⟩
        · rintro σ' R ⟨y7', y8', rfl, sR⟩
          exact ⟨_, _, rfl, sR⟩
      · rintro σ5 H6 ⟨y7', y8', rfl, s6⟩
        have cA : ∀ {G : Hp}, Same N3 G → Cat G (.ref ca) c := fun g => cat5.same (Same.trans s4 g)
        have cB : ∀ {G : Hp}, Same N3 G → Cat G (.ref cb) c2 := fun g => cat5'.same (Same.trans s4 g)
        have noC : ∀ {X : Prop}, isCd (cdD c) = false → X := fun z => by rw [isCd_cdD hc] at z; cases z
        have noC2 : ∀ {X : Prop}, isCd (cdD c2) = false → X := fun z => by rw [isCd_cdD hc2] at z; cases z
        have okL : PyData.strOk "NotLike" = true := by decide +kernel
        have okT : PyData.strOk "told" = true := by decide +kernel
        have okR : PyData.strOk "NotRound" = true := by decide +kernel
        -- unlike
        refine ⟨fun σ' H' => ∃ b : Bool, σ' = [some (.ref a), some (.int z), some (.ref A1), some (.ref ca), some (.ref cb), some (.ref D1), some kS, y7', y8', some (.bl b), y10, y11, y12] ∧ Same N3 H' ∧ (b = true ↔ c.2.length ≠ c2.2.length), ?_, ?_⟩
        · obtain ⟨ca', la, ec, hca, hla⟩ := cA s6
          cases ec
          obtain ⟨cb', lb, ec, hcb, hlb⟩ := cB s6
          cases ec
          refine ⟨_, rfl, ca, _, 1, .ref la, rfl, rfl, SqT.of hca, rfl, la, _, rfl, .inr (SqT.of hla), _, rfl, cb, _, 1, .ref lb, rfl, rfl, SqT.of hcb, rfl, lb, _, rfl, .inr (SqT.of hlb), rfl, _, rfl, s6, ?_⟩
          rw [List.length_map, List.length_map]
          by_cases e : c.2.length = c2.2.length
          · rw [e, decide_eq_true rfl]
            exact ⟨(fun z => nomatch z), fun z => absurd rfl z⟩
          · rw [decide_eq_false (show ¬ (V.int (c.2.length : Int) = V.int (c2.2.length : Int)) from fun z => e (by have y := V.int.inj z; omega))]
            exact ⟨fun _ => e, fun _ => rfl⟩
        rintro σ7 H7 ⟨b, rfl, s7, hb⟩
        -- due
        refine ⟨fun σ' H' => ∃ D wd, σ' = [some (.ref a), some (.int z), some (.ref A1), some (.ref ca), some (.ref cb), some (.ref D1), some kS, y7', y8', some (.bl b), some (.ref D), y11, y12] ∧ Same N3 H' ∧ H' D = some (.lst [.str wd]) ∧ Due 1 c c2 wd, ?_, ?_⟩
        · refine ⟨_, rfl, b, rfl, ?_⟩
          cases b with
          | true => exact iteT ⟨z1, fun D G nG sG eG => ⟨D, "NotLike", rfl, Same.trans s7 sG, eG, fun _ => rfl, fun e _ => absurd e (hb.mp rfl), fun e _ _ => absurd e (hb.mp rfl), okL⟩⟩
          | false =>
            have le : ¬ (c.2.length ≠ c2.2.length) := fun z => by cases hb.mpr z
            exact iteF ⟨z1, fun D G nG sG eG => ⟨D, "told", rfl, Same.trans s7 sG, eG, fun ne => absurd ne le, fun _ _ => rfl, fun _ h _ => absurd h (by decide), okT⟩⟩
        rintro σ8 H8 ⟨D, wd, rfl, s8, eD, due1⟩
        refine ⟨fun σ' H' => σ' = [some (.ref a), some (.int z), some (.ref A1), some (.ref ca), some (.ref cb), some (.ref D1), some kS, y7', y8', some (.bl b), some (.ref D), y11, y12] ∧ Same N3 H' ∧ H' D = some (.lst [.str wd]), ?_, ?_⟩
        · refine ⟨_, rfl, _, rfl, askc (.inl rfl) (cA s8).th hc (cB s8).th hc2 due1 fun p G sG eG => ⟨_, rfl, _, _, dp_w eG, dp_w (sG _ _ eD), shaped_w due1.ok, shaped_w due1.ok, _, rfl, ?_⟩⟩
          rw [eqv_w]
          exact iteF ⟨rfl, Same.trans s8 sG, sG _ _ eD⟩
        clear s8 eD H8
        rintro σ8 H8 ⟨rfl, s8, eD⟩
        -- due, of rounds
        refine ⟨fun σ' H' => ∃ D wd, σ' = [some (.ref a), some (.int z), some (.ref A1), some (.ref ca), some (.ref cb), some (.ref D1), some kS, y7', y8', some (.bl b), some (.ref D), y11, y12] ∧ Same N3 H' ∧ H' D = some (.lst [.str wd]) ∧ Due 2 c c2 wd, ?_, ?_⟩
        · refine ⟨_, rfl, b, rfl, ?_⟩
          cases b with
          | true =>
            have ne := hb.mp rfl
            exact iteF (iteF ⟨D, wd, rfl, s8, eD, fun _ => due1.ne ne, fun e _ => absurd e ne, fun e _ _ => absurd e ne, due1.ok⟩)
          | false =>
            have le : c.2.length = c2.2.length := Classical.byContradiction fun z => by cases hb.mpr z
            have told1 : wd = "told" := due1.yes le (.inl rfl)
            refine iteT ⟨_, rfl, .ref ca, cdD c, rfl, (cA s8).th, noC, fun c' ec _ b1 G1 hb1 g1 => ⟨b1, rfl, ?_⟩⟩
            have ec' := cdD_inj ec
            subst ec'
            have s9 := Same.trans s8 g1
            have dr : ¬ (Free c ∧ Free c2) → Due 2 c c2 "NotRound" := fun nf => ⟨fun ne => absurd le ne, fun _ h => absurd h (fun h => h.elim (fun z => absurd z (by decide)) nf), fun _ _ _ => rfl, okR⟩
            cases b1 with
            | false => exact iteF (iteT ⟨z1, fun D2 H2 n2 s2 e2 => ⟨D2, "NotRound", rfl, Same.trans s9 s2, e2, dr (fun z => by cases hb1.mpr z.1)⟩⟩)
            | true =>
              refine iteT ⟨_, rfl, .ref cb, cdD c2, rfl, (cB s9).th, noC2, fun c' ec _ b2 G2 hb2 g2 => ⟨b2, rfl, ?_⟩⟩
              have ec' := cdD_inj ec
              subst ec'
              have s10 := Same.trans s9 g2
              cases b2 with
              | false => exact iteT ⟨z1, fun D2 H2 n2 s2 e2 => ⟨D2, "NotRound", rfl, Same.trans s10 s2, e2, dr (fun z => by cases hb2.mpr z.2)⟩⟩
              | true => exact iteF ⟨D, wd, rfl, s10, g2 _ _ (g1 _ _ eD), fun ne => absurd le ne, fun _ _ => told1, fun _ _ nf => absurd ⟨hb1.mp rfl, hb2.mp rfl⟩ nf, due1.ok⟩
        clear s8 eD due1 D wd H8
        rintro σ8 H8 ⟨D, wd, rfl, s8, eD, due2⟩
        -- there
        refine ⟨fun σ' H' => ∃ vt n, σ' = [some (.ref a), some (.int z), some (.ref A1), some (.ref ca), some (.ref cb), some (.ref D1), some kS, y7', y8', some (.bl b), some (.ref D), some vt, y12] ∧ Same N3 H' ∧ H' D = some (.lst [.str wd]) ∧ Cat H' vt (it n c) ∧ Ahead c n, ?_, ?_⟩
        · exact ⟨_, rfl, .ref ca, c, rfl, cA s8, hc, fun n v p G hN g cv ep => ⟨p, _, 1, v, rfl, rfl, SqT.of ep, rfl, v, n, rfl, Same.trans s8 g, g _ _ eD, cv, hN⟩⟩
        clear s8 eD H8
        rintro σ8 H8 ⟨vt, n, rfl, s8, eD, ct, ah⟩
        have okn := it_cdOk n hc
        have frn : Free (it n c) := ah.1
        -- late
        refine ⟨fun σ' H' => ∃ E2 w2, σ' = [some (.ref a), some (.int z), some (.ref A1), some (.ref ca), some (.ref cb), some (.ref D1), some kS, y7', y8', some (.bl b), some (.ref D), some vt, some (.ref E2)] ∧ Same N3 H' ∧ H' D = some (.lst [.str wd]) ∧ Cat H' vt (it n c) ∧ H' E2 = some (.lst [.str w2]) ∧ (Free c → w2 = "told") ∧ (¬ Free c → w2 = "NotRound") ∧ PyData.strOk w2 = true, ?_, ?_⟩
        · refine ⟨_, rfl, .ref ca, cdD c, rfl, (cA s8).th, noC, fun c' ec _ b1 G1 hb1 g1 => ⟨b1, rfl, ?_⟩⟩
          have ec' := cdD_inj ec
          subst ec'
          cases b1 with
          | true => exact iteT ⟨z1, fun E2 G2 n2 g2 e2 => ⟨E2, "told", rfl, Same.trans s8 (Same.trans g1 g2), g2 _ _ (g1 _ _ eD), ct.same (Same.trans g1 g2), e2, fun _ => rfl, fun nf => absurd (hb1.mp rfl) nf, okT⟩⟩
          | false => exact iteF ⟨z1, fun E2 G2 n2 g2 e2 => ⟨E2, "NotRound", rfl, Same.trans s8 (Same.trans g1 g2), g2 _ _ (g1 _ _ eD), ct.same (Same.trans g1 g2), e2, fun fr => (by cases hb1.mpr fr), fun _ => rfl, okR⟩⟩
        clear s8 eD ct H8
        rintro σ8 H8 ⟨E2, w2, rfl, s8, eD, ct, eE, wt2, wn2, ok2⟩
        have ltn : (it n c).2.length = c.2.length := it_len n
        have dueA : Due 2 (it n c) c w2 := ⟨fun ne => absurd ltn ne, fun _ h => h.elim (fun z => absurd z (by decide)) fun fr => wt2 fr.2, fun _ _ nf => wn2 fun fr => nf ⟨frn, fr⟩, ok2⟩
        have dueB : Due 2 c (it n c) w2 := ⟨fun ne => absurd ltn.symm ne, fun _ h => h.elim (fun z => absurd z (by decide)) fun fr => wt2 fr.1, fun _ _ nf => wn2 fun fr => nf ⟨fr, frn⟩, ok2⟩
        -- told
        refine ⟨fun σ' H' => ∃ T1 r1 r2 r3, σ' = [some (.ref a), some (.int z), some (.ref A1), some (.ref ca), some (.ref cb), some (.ref D1), some kS, y7', some (.ref T1), some (.bl b), some (.ref D), some vt, some (.ref E2)] ∧ Same N3 H' ∧ H' D = some (.lst [.str wd]) ∧ H' E2 = some (.lst [.str w2]) ∧ H' T1 = some (.lst [.ref r1, .ref r2, .ref r3]) ∧ H' r1 = some (.lst [.str wd]) ∧ H' r2 = some (.lst [.str w2]) ∧ H' r3 = some (.lst [.str w2]), ?_, ?_⟩
        · refine ⟨_, rfl, _, rfl, askc (.inr rfl) (cA s8).th hc (cB s8).th hc2 due2 fun r1 R1 x1 f1 => ?_⟩
          have s9 := Same.trans s8 x1
          refine ⟨_, rfl, _, rfl, askc (.inr rfl) (ct.same x1).th okn (cA s9).th hc dueA fun r2 R2 x2 f2 => ?_⟩
          have s10 := Same.trans s9 x2
          refine ⟨_, rfl, _, rfl, askc (.inr rfl) (cA s10).th hc (ct.same (Same.trans x1 x2)).th okn dueB fun r3 R3 x3 f3 => ⟨z3, fun T1 R4 n4' x4 f4 => ?_⟩⟩
          have x14 : Same H8 R4 := Same.trans x1 (Same.trans x2 (Same.trans x3 x4))
          exact ⟨T1, r1, r2, r3, rfl, Same.trans s8 x14, x14 _ _ eD, x14 _ _ eE, f4, x4 _ _ (x3 _ _ (x2 _ _ f1)), x4 _ _ (x3 _ _ f2), x4 _ _ f3⟩
        clear s8 eD eE ct H8
        rintro σ8 H8 ⟨T1, r1, r2, r3, rfl, s8, eD, eE, eT, e1, e2', e3⟩
        -- alike
        refine ⟨fun σ' H' => σ' = [some (.ref a), some (.int z), some (.ref A1), some (.ref ca), some (.ref cb), some (.ref D1), some kS, y7', some (.ref T1), some (.bl b), some (.ref D), some vt, some (.ref E2)] ∧ Same N3 H', ?_, ?_⟩
        · dsimp only [tIfS, tOr]
          refine ⟨_, rfl, _, rfl, _, rfl, _, rfl, z3, fun T2 R1 n1' x1 f1 => ⟨.list [.list [.str wd], .list [.str w2], .list [.str w2]], .list [.list [.str wd], .list [.str w2], .list [.str w2]], .lst (SqL.of (x1 _ _ eT)) (dps2 (K := K) (rs := [(r1, wd), (r2, w2), (r3, w2)]) fun q hq => ?_), .lst (SqL.of f1) (dps2 (K := K) (rs := [(D, wd), (E2, w2), (E2, w2)]) fun q hq => ?_), shaped3 due2.ok ok2 ok2, shaped3 due2.ok ok2 ok2, _, rfl, ?_⟩⟩
          · simp only [List.mem_cons, List.not_mem_nil, or_false] at hq
            rcases hq with rfl | rfl | rfl
            · exact x1 _ _ e1
            · exact x1 _ _ e2'
            · exact x1 _ _ e3
          · simp only [List.mem_cons, List.not_mem_nil, or_false] at hq
            rcases hq with rfl | rfl | rfl
            · exact x1 _ _ eD
            · exact x1 _ _ eE
            · exact x1 _ _ eE
          rw [eqv3]
          refine iteF ?_
          refine ne_w (by decide +kernel) (fun Q1 t => ⟨_, rfl, ask0t (cA (Same.trans s8 x1)).th .non hc t⟩) (fun G sG => ?_)
          exact iteF ⟨rfl, Same.trans s8 (Same.trans x1 sG)⟩
        clear s8 eD eE eT e1 e2' e3 H8
        rintro σ8 H8 ⟨rfl, s8⟩
        dsimp only [tIfS, tOr]
        refine ⟨_, rfl, _, rfl, _, rfl, z3, fun S5 R5 n5 s5' e5 => ?_⟩
        have s5N := Same.trans s8 s5'
        try dsimp only [tNil]
        refine shown (Same.trans s4 s5N) e5 ?_
        subst ekS
        refine ⟨_, rfl, rfl, _, rfl, ne_no rfl ?_⟩
        have sEnd := Same.trans s4 s5N
        refine ⟨_, rfl, A1, _, rfl, b5.same sEnd, by decide, fun H' bH sH => ⟨true, rfl, iteF ?_⟩⟩
        exact ⟨_, _, _, _, _, _, _, _, _, _, _, _, rfl, fun b o e => sH b o (ne_of_none e nLA) (sEnd _ _ (sHL5 b o e))⟩
    · rintro σ H1 ⟨y1, y2, y3, y4, y5, y6, y7, y8, y9, y10, y11, y12, rfl, s1⟩
      exact q H1
end
end Lk
end
section
set_option maxRecDepth 100000
set_option maxHeartbeats 4000000
namespace Lk
open PySem PySem.Spec PyProof.Rows L2
theorem mkCal {P : Program} {w : World} {K : PySem.W.Frag} {mg : Str → Option Value} {base : Heap} {k : Nat} {x q : Str} {st : Stmt} {f : Addr} {fd : FuncData} {ps : List Str} {sp : Sp} (F : Fun K x q st f fd) (g : mg x = some (.ref f)) (b : Binds K fd ps []) (ok : FnOk P w K mg base CX0 k f fd ps sp) : C8.Cal P w K mg base k x sp [] :=
  ⟨f, fd, ps, [], ok, g, F.kp, b, .nil⟩
theorem mkCalX {P : Program} {w : World} {K : PySem.W.Frag} {mg : Str → Option Value} {base : Heap} {k : Nat} {x q : Str} {st : Stmt} {f : Addr} {fd : FuncData} {ps : List Str} {sp : Sp} (F : Fun K x q st f fd) (g : mg x = some (.ref f)) (b : Binds K fd ps []) (ok : FnOk P w K mg base (L2.CX P w) k f fd ps sp) : CalX P w K mg base k x sp :=
  ⟨f, fd, ps, ok, g, F.kp, b⟩
theorem mkCalG {P : Program} {w : World} {K : PySem.W.Frag} {mg : Str → Option Value} {base : Heap} {k : Nat} {x q : Str} {st : Stmt} {f : Addr} {fd : FuncData} {ps : List Str} {sp : Sp} (F : Fun K x q st f fd) (g : mg x = some (.ref f)) (b : Binds K fd ps []) (ok : FnG P w K mg base CX0 k f fd ps sp) : CalG P w K mg base k x sp :=
  ⟨f, fd, ps, ok, g, F.kp, b⟩
theorem kit_no {K : PySem.W.Frag} {C D : Addr} (self : PySem.W.subIn K (.ref C) (.ref C) = some true) (hc : PySem.W.isClsIn K D = true) (ht : PySem.W.typeIn K (.ref D) = some (.type "type")) (hs : PySem.W.subIn K (.ref C) (.ref D) = some false) : PySem.W.kitOne K (.ref C) (.ref D) = some false := by
  have ne : ¬ ((Value.ref C == Value.ref D) = true) := fun z => by
    have e : C = D := Value.ref.inj (eq_of_beq z)
    rw [← e, self] at hs
    cases hs
  have hc' : (PySem.W.clsIn K D).isSome = true := hc
  unfold PySem.W.kitOne
  rw [if_neg ne]
  show (if ((PySem.W.clsIn K D).isSome && PySem.W.typeIn K (.ref D) == some (.type "type")) = true then PySem.W.subIn K (.ref C) (.ref D) else none) = some false
  rw [hc', ht, if_pos (by rfl)]
  exact hs
theorem kit_ve {K : PySem.W.Frag} {C : Addr} (hs : PySem.W.subIn K (.ref C) (.type "ValueError") = some true) : PySem.W.kitOne K (.ref C) (.type "ValueError") = some true := by
  unfold PySem.W.kitOne
  rw [if_neg (show ¬ ((Value.ref C == Value.type "ValueError") = true) from fun z => nomatch z)]
  show (if PySem.W.kitMeta "ValueError" = true then PySem.W.subIn K (.ref C) (.type "ValueError") else none) = some true
  rw [if_pos (by decide +kernel)]
  exact hs
theorem mkCalN {P : Program} {w : World} {K : PySem.W.Frag} {mg : Str → Option Value} {base : Heap} {k : Nat} {x q : Str} {st : Stmt} {f : Addr} {fd : FuncData} {ps : List Str} {sp : Sp} (F : Fun K x q st f fd) (g : mg x = some (.ref f)) (b : Binds K fd ps []) (ok : FnOk P w K mg base (L2N.CX P w) k f fd ps sp) : CalN P w K mg base k x sp :=
  ⟨f, fd, ps, ok, g, F.kp, b⟩

theorem isb_to {K : PySem.W.Frag} {mg : Str → Option Value} {C : Addr} {x : Str} {b b' : Bool} (e : b' = b) (h : IsB K mg C x b) : IsB K mg C x b' := by
  rw [e]
  exact h
theorem all_mk {l : PySem.W.OpenLaw} {w : World} {K : PySem.W.Frag} {h : Heap} {mg : Str → Option Value} {fa : Addr} (X : K.In h) (G : h.Ns mainGlobals mg) (hfa : mg "law" = some (.ref fa))
    {f_is_whole f_is_within f_refuse_no_count f_is_coder f_refuse_no_coder f_one_longer f_next_coder f_last_goings f_ring_from f_ring f_in_round f_all_come_first f_is_tree f_coder_of f_all_trees f_ends_ahead f_sign_of f_is_sign f_refuse_no_sign f_refuse_unlike f_one_round f_modulo_places f_steps_between f_tree_by f__law_urn f__law_pull f__law_coder f__law_step f__law_goals f__law_home f__law_in_round f__law_drawn_sign f__law_words f__law_no_coders f__law_asked f__law_places_right f_law : Addr} {od_is_whole an_is_whole od_is_within an_is_within od_refuse_no_count an_refuse_no_count od_is_coder an_is_coder od_refuse_no_coder an_refuse_no_coder od_one_longer an_one_longer od_next_coder an_next_coder od_last_goings an_last_goings od_ring_from an_ring_from od_ring an_ring od_in_round an_in_round od_all_come_first an_all_come_first od_is_tree an_is_tree od_coder_of an_coder_of od_all_trees an_all_trees od_ends_ahead an_ends_ahead od_sign_of an_sign_of od_is_sign an_is_sign od_refuse_no_sign an_refuse_no_sign od_refuse_unlike an_refuse_unlike od_one_round an_one_round od_modulo_places an_modulo_places od_steps_between an_steps_between od_tree_by an_tree_by od__law_urn an__law_urn od__law_pull an__law_pull od__law_coder an__law_coder od__law_step an__law_step od__law_goals an__law_goals od__law_home an__law_home od__law_in_round an__law_in_round od__law_drawn_sign an__law_drawn_sign od__law_words an__law_words od__law_no_coders an__law_no_coders od__law_asked an__law_asked od__law_places_right an__law_places_right od_law an_law : Option Addr} {sl_is_whole sl_is_within sl_refuse_no_count sl_is_coder sl_refuse_no_coder sl_one_longer sl_next_coder sl_last_goings sl_ring_from sl_ring sl_in_round sl_all_come_first sl_is_tree sl_coder_of sl_all_trees sl_ends_ahead sl_sign_of sl_is_sign sl_refuse_no_sign sl_refuse_unlike sl_one_round sl_modulo_places sl_steps_between sl_tree_by sl__law_urn sl__law_pull sl__law_coder sl__law_step sl__law_goals sl__law_home sl__law_in_round sl__law_drawn_sign sl__law_words sl__law_no_coders sl__law_asked sl__law_places_right sl_law : Array (Option Value)} {oc_is_whole kV_is_whole dc_is_whole pm_is_whole cd_is_whole ct_is_whole oc_is_within kV_is_within dc_is_within pm_is_within cd_is_within ct_is_within oc_refuse_no_count kV_refuse_no_count dc_refuse_no_count pm_refuse_no_count cd_refuse_no_count ct_refuse_no_count oc_is_coder kV_is_coder dc_is_coder pm_is_coder cd_is_coder ct_is_coder oc_refuse_no_coder kV_refuse_no_coder dc_refuse_no_coder pm_refuse_no_coder cd_refuse_no_coder ct_refuse_no_coder oc_one_longer kV_one_longer dc_one_longer pm_one_longer cd_one_longer ct_one_longer oc_next_coder kV_next_coder dc_next_coder pm_next_coder cd_next_coder ct_next_coder oc_last_goings kV_last_goings dc_last_goings pm_last_goings cd_last_goings ct_last_goings oc_ring_from kV_ring_from dc_ring_from pm_ring_from cd_ring_from ct_ring_from oc_ring kV_ring dc_ring pm_ring cd_ring ct_ring oc_in_round kV_in_round dc_in_round pm_in_round cd_in_round ct_in_round oc_all_come_first kV_all_come_first dc_all_come_first pm_all_come_first cd_all_come_first ct_all_come_first oc_is_tree kV_is_tree dc_is_tree pm_is_tree cd_is_tree ct_is_tree oc_coder_of kV_coder_of dc_coder_of pm_coder_of cd_coder_of ct_coder_of oc_all_trees kV_all_trees dc_all_trees pm_all_trees cd_all_trees ct_all_trees oc_ends_ahead kV_ends_ahead dc_ends_ahead pm_ends_ahead cd_ends_ahead ct_ends_ahead oc_sign_of kV_sign_of dc_sign_of pm_sign_of cd_sign_of ct_sign_of oc_is_sign kV_is_sign dc_is_sign pm_is_sign cd_is_sign ct_is_sign oc_refuse_no_sign kV_refuse_no_sign dc_refuse_no_sign pm_refuse_no_sign cd_refuse_no_sign ct_refuse_no_sign oc_refuse_unlike kV_refuse_unlike dc_refuse_unlike pm_refuse_unlike cd_refuse_unlike ct_refuse_unlike oc_one_round kV_one_round dc_one_round pm_one_round cd_one_round ct_one_round oc_modulo_places kV_modulo_places dc_modulo_places pm_modulo_places cd_modulo_places ct_modulo_places oc_steps_between kV_steps_between dc_steps_between pm_steps_between cd_steps_between ct_steps_between oc_tree_by kV_tree_by dc_tree_by pm_tree_by cd_tree_by ct_tree_by oc__law_urn kV__law_urn dc__law_urn pm__law_urn cd__law_urn ct__law_urn oc__law_pull kV__law_pull dc__law_pull pm__law_pull cd__law_pull ct__law_pull oc__law_coder kV__law_coder dc__law_coder pm__law_coder cd__law_coder ct__law_coder oc__law_step kV__law_step dc__law_step pm__law_step cd__law_step ct__law_step oc__law_goals kV__law_goals dc__law_goals pm__law_goals cd__law_goals ct__law_goals oc__law_home kV__law_home dc__law_home pm__law_home cd__law_home ct__law_home oc__law_in_round kV__law_in_round dc__law_in_round pm__law_in_round cd__law_in_round ct__law_in_round oc__law_drawn_sign kV__law_drawn_sign dc__law_drawn_sign pm__law_drawn_sign cd__law_drawn_sign ct__law_drawn_sign oc__law_words kV__law_words dc__law_words pm__law_words cd__law_words ct__law_words oc__law_no_coders kV__law_no_coders dc__law_no_coders pm__law_no_coders cd__law_no_coders ct__law_no_coders oc__law_asked kV__law_asked dc__law_asked pm__law_asked cd__law_asked ct__law_asked oc__law_places_right kV__law_places_right dc__law_places_right pm__law_places_right cd__law_places_right ct__law_places_right oc_law kV_law dc_law pm_law cd_law ct_law : Value}
    {A_LearnError A_NoCoder A_NoCount A_NoCounts A_NoKnown A_NoLog A_NoLoop A_NoPairs A_NoPlace A_NoRow A_NoSign A_NoText A_NoTree A_NoWord A_NotLike A_NotRound A_Nothing : Addr}
    {t_MOST_PLACES t_MOST_PLACES_OF_ALL : Tok}
    (a_is_whole : PySem.W.nsIn K mainGlobals "is_whole" = some (some (.ref f_is_whole))) (l_is_whole : K.lookup f_is_whole = some ⟨oc_is_whole, od_is_whole, .func (PySem.W.fnOf "is_whole" "is_whole" (defArgs s_is_whole) (defBody s_is_whole) (defScope s_is_whole) .none kV_is_whole dc_is_whole pm_is_whole an_is_whole cd_is_whole ct_is_whole), sl_is_whole⟩) (c_is_whole : PySem.W.codeIn K cd_is_whole "is_whole" = true) (k_is_whole : PySem.W.keepIn K (.ref f_is_whole) = true)
    (a_is_within : PySem.W.nsIn K mainGlobals "is_within" = some (some (.ref f_is_within))) (l_is_within : K.lookup f_is_within = some ⟨oc_is_within, od_is_within, .func (PySem.W.fnOf "is_within" "is_within" (defArgs s_is_within) (defBody s_is_within) (defScope s_is_within) .none kV_is_within dc_is_within pm_is_within an_is_within cd_is_within ct_is_within), sl_is_within⟩) (c_is_within : PySem.W.codeIn K cd_is_within "is_within" = true) (k_is_within : PySem.W.keepIn K (.ref f_is_within) = true)
    (a_refuse_no_count : PySem.W.nsIn K mainGlobals "refuse_no_count" = some (some (.ref f_refuse_no_count))) (l_refuse_no_count : K.lookup f_refuse_no_count = some ⟨oc_refuse_no_count, od_refuse_no_count, .func (PySem.W.fnOf "refuse_no_count" "refuse_no_count" (defArgs s_refuse_no_count) (defBody s_refuse_no_count) (defScope s_refuse_no_count) .none kV_refuse_no_count dc_refuse_no_count pm_refuse_no_count an_refuse_no_count cd_refuse_no_count ct_refuse_no_count), sl_refuse_no_count⟩) (c_refuse_no_count : PySem.W.codeIn K cd_refuse_no_count "refuse_no_count" = true) (k_refuse_no_count : PySem.W.keepIn K (.ref f_refuse_no_count) = true)
    (a_is_coder : PySem.W.nsIn K mainGlobals "is_coder" = some (some (.ref f_is_coder))) (l_is_coder : K.lookup f_is_coder = some ⟨oc_is_coder, od_is_coder, .func (PySem.W.fnOf "is_coder" "is_coder" (defArgs s_is_coder) (defBody s_is_coder) (defScope s_is_coder) .none kV_is_coder dc_is_coder pm_is_coder an_is_coder cd_is_coder ct_is_coder), sl_is_coder⟩) (c_is_coder : PySem.W.codeIn K cd_is_coder "is_coder" = true) (k_is_coder : PySem.W.keepIn K (.ref f_is_coder) = true)
    (a_refuse_no_coder : PySem.W.nsIn K mainGlobals "refuse_no_coder" = some (some (.ref f_refuse_no_coder))) (l_refuse_no_coder : K.lookup f_refuse_no_coder = some ⟨oc_refuse_no_coder, od_refuse_no_coder, .func (PySem.W.fnOf "refuse_no_coder" "refuse_no_coder" (defArgs s_refuse_no_coder) (defBody s_refuse_no_coder) (defScope s_refuse_no_coder) .none kV_refuse_no_coder dc_refuse_no_coder pm_refuse_no_coder an_refuse_no_coder cd_refuse_no_coder ct_refuse_no_coder), sl_refuse_no_coder⟩) (c_refuse_no_coder : PySem.W.codeIn K cd_refuse_no_coder "refuse_no_coder" = true) (k_refuse_no_coder : PySem.W.keepIn K (.ref f_refuse_no_coder) = true)
    (a_one_longer : PySem.W.nsIn K mainGlobals "one_longer" = some (some (.ref f_one_longer))) (l_one_longer : K.lookup f_one_longer = some ⟨oc_one_longer, od_one_longer, .func (PySem.W.fnOf "one_longer" "one_longer" (defArgs s_one_longer) (defBody s_one_longer) (defScope s_one_longer) .none kV_one_longer dc_one_longer pm_one_longer an_one_longer cd_one_longer ct_one_longer), sl_one_longer⟩) (c_one_longer : PySem.W.codeIn K cd_one_longer "one_longer" = true) (k_one_longer : PySem.W.keepIn K (.ref f_one_longer) = true)
    (a_next_coder : PySem.W.nsIn K mainGlobals "next_coder" = some (some (.ref f_next_coder))) (l_next_coder : K.lookup f_next_coder = some ⟨oc_next_coder, od_next_coder, .func (PySem.W.fnOf "next_coder" "next_coder" (defArgs s_next_coder) (defBody s_next_coder) (defScope s_next_coder) .none kV_next_coder dc_next_coder pm_next_coder an_next_coder cd_next_coder ct_next_coder), sl_next_coder⟩) (c_next_coder : PySem.W.codeIn K cd_next_coder "next_coder" = true) (k_next_coder : PySem.W.keepIn K (.ref f_next_coder) = true)
    (a_last_goings : PySem.W.nsIn K mainGlobals "last_goings" = some (some (.ref f_last_goings))) (l_last_goings : K.lookup f_last_goings = some ⟨oc_last_goings, od_last_goings, .func (PySem.W.fnOf "last_goings" "last_goings" (defArgs s_last_goings) (defBody s_last_goings) (defScope s_last_goings) .none kV_last_goings dc_last_goings pm_last_goings an_last_goings cd_last_goings ct_last_goings), sl_last_goings⟩) (c_last_goings : PySem.W.codeIn K cd_last_goings "last_goings" = true) (k_last_goings : PySem.W.keepIn K (.ref f_last_goings) = true)
    (a_ring_from : PySem.W.nsIn K mainGlobals "ring_from" = some (some (.ref f_ring_from))) (l_ring_from : K.lookup f_ring_from = some ⟨oc_ring_from, od_ring_from, .func (PySem.W.fnOf "ring_from" "ring_from" (defArgs s_ring_from) (defBody s_ring_from) (defScope s_ring_from) .none kV_ring_from dc_ring_from pm_ring_from an_ring_from cd_ring_from ct_ring_from), sl_ring_from⟩) (c_ring_from : PySem.W.codeIn K cd_ring_from "ring_from" = true) (k_ring_from : PySem.W.keepIn K (.ref f_ring_from) = true)
    (a_ring : PySem.W.nsIn K mainGlobals "ring" = some (some (.ref f_ring))) (l_ring : K.lookup f_ring = some ⟨oc_ring, od_ring, .func (PySem.W.fnOf "ring" "ring" (defArgs s_ring) (defBody s_ring) (defScope s_ring) .none kV_ring dc_ring pm_ring an_ring cd_ring ct_ring), sl_ring⟩) (c_ring : PySem.W.codeIn K cd_ring "ring" = true) (k_ring : PySem.W.keepIn K (.ref f_ring) = true)
    (a_in_round : PySem.W.nsIn K mainGlobals "in_round" = some (some (.ref f_in_round))) (l_in_round : K.lookup f_in_round = some ⟨oc_in_round, od_in_round, .func (PySem.W.fnOf "in_round" "in_round" (defArgs s_in_round) (defBody s_in_round) (defScope s_in_round) .none kV_in_round dc_in_round pm_in_round an_in_round cd_in_round ct_in_round), sl_in_round⟩) (c_in_round : PySem.W.codeIn K cd_in_round "in_round" = true) (k_in_round : PySem.W.keepIn K (.ref f_in_round) = true)
    (a_all_come_first : PySem.W.nsIn K mainGlobals "all_come_first" = some (some (.ref f_all_come_first))) (l_all_come_first : K.lookup f_all_come_first = some ⟨oc_all_come_first, od_all_come_first, .func (PySem.W.fnOf "all_come_first" "all_come_first" (defArgs s_all_come_first) (defBody s_all_come_first) (defScope s_all_come_first) .none kV_all_come_first dc_all_come_first pm_all_come_first an_all_come_first cd_all_come_first ct_all_come_first), sl_all_come_first⟩) (c_all_come_first : PySem.W.codeIn K cd_all_come_first "all_come_first" = true) (k_all_come_first : PySem.W.keepIn K (.ref f_all_come_first) = true)
    (a_is_tree : PySem.W.nsIn K mainGlobals "is_tree" = some (some (.ref f_is_tree))) (l_is_tree : K.lookup f_is_tree = some ⟨oc_is_tree, od_is_tree, .func (PySem.W.fnOf "is_tree" "is_tree" (defArgs s_is_tree) (defBody s_is_tree) (defScope s_is_tree) .none kV_is_tree dc_is_tree pm_is_tree an_is_tree cd_is_tree ct_is_tree), sl_is_tree⟩) (c_is_tree : PySem.W.codeIn K cd_is_tree "is_tree" = true) (k_is_tree : PySem.W.keepIn K (.ref f_is_tree) = true)
    (a_coder_of : PySem.W.nsIn K mainGlobals "coder_of" = some (some (.ref f_coder_of))) (l_coder_of : K.lookup f_coder_of = some ⟨oc_coder_of, od_coder_of, .func (PySem.W.fnOf "coder_of" "coder_of" (defArgs s_coder_of) (defBody s_coder_of) (defScope s_coder_of) .none kV_coder_of dc_coder_of pm_coder_of an_coder_of cd_coder_of ct_coder_of), sl_coder_of⟩) (c_coder_of : PySem.W.codeIn K cd_coder_of "coder_of" = true) (k_coder_of : PySem.W.keepIn K (.ref f_coder_of) = true)
    (a_all_trees : PySem.W.nsIn K mainGlobals "all_trees" = some (some (.ref f_all_trees))) (l_all_trees : K.lookup f_all_trees = some ⟨oc_all_trees, od_all_trees, .func (PySem.W.fnOf "all_trees" "all_trees" (defArgs s_all_trees) (defBody s_all_trees) (defScope s_all_trees) .none kV_all_trees dc_all_trees pm_all_trees an_all_trees cd_all_trees ct_all_trees), sl_all_trees⟩) (c_all_trees : PySem.W.codeIn K cd_all_trees "all_trees" = true) (k_all_trees : PySem.W.keepIn K (.ref f_all_trees) = true)
    (a_ends_ahead : PySem.W.nsIn K mainGlobals "ends_ahead" = some (some (.ref f_ends_ahead))) (l_ends_ahead : K.lookup f_ends_ahead = some ⟨oc_ends_ahead, od_ends_ahead, .func (PySem.W.fnOf "ends_ahead" "ends_ahead" (defArgs s_ends_ahead) (defBody s_ends_ahead) (defScope s_ends_ahead) .none kV_ends_ahead dc_ends_ahead pm_ends_ahead an_ends_ahead cd_ends_ahead ct_ends_ahead), sl_ends_ahead⟩) (c_ends_ahead : PySem.W.codeIn K cd_ends_ahead "ends_ahead" = true) (k_ends_ahead : PySem.W.keepIn K (.ref f_ends_ahead) = true)
    (a_sign_of : PySem.W.nsIn K mainGlobals "sign_of" = some (some (.ref f_sign_of))) (l_sign_of : K.lookup f_sign_of = some ⟨oc_sign_of, od_sign_of, .func (PySem.W.fnOf "sign_of" "sign_of" (defArgs s_sign_of) (defBody s_sign_of) (defScope s_sign_of) .none kV_sign_of dc_sign_of pm_sign_of an_sign_of cd_sign_of ct_sign_of), sl_sign_of⟩) (c_sign_of : PySem.W.codeIn K cd_sign_of "sign_of" = true) (k_sign_of : PySem.W.keepIn K (.ref f_sign_of) = true)
    (a_is_sign : PySem.W.nsIn K mainGlobals "is_sign" = some (some (.ref f_is_sign))) (l_is_sign : K.lookup f_is_sign = some ⟨oc_is_sign, od_is_sign, .func (PySem.W.fnOf "is_sign" "is_sign" (defArgs s_is_sign) (defBody s_is_sign) (defScope s_is_sign) .none kV_is_sign dc_is_sign pm_is_sign an_is_sign cd_is_sign ct_is_sign), sl_is_sign⟩) (c_is_sign : PySem.W.codeIn K cd_is_sign "is_sign" = true) (k_is_sign : PySem.W.keepIn K (.ref f_is_sign) = true)
    (a_refuse_no_sign : PySem.W.nsIn K mainGlobals "refuse_no_sign" = some (some (.ref f_refuse_no_sign))) (l_refuse_no_sign : K.lookup f_refuse_no_sign = some ⟨oc_refuse_no_sign, od_refuse_no_sign, .func (PySem.W.fnOf "refuse_no_sign" "refuse_no_sign" (defArgs s_refuse_no_sign) (defBody s_refuse_no_sign) (defScope s_refuse_no_sign) .none kV_refuse_no_sign dc_refuse_no_sign pm_refuse_no_sign an_refuse_no_sign cd_refuse_no_sign ct_refuse_no_sign), sl_refuse_no_sign⟩) (c_refuse_no_sign : PySem.W.codeIn K cd_refuse_no_sign "refuse_no_sign" = true) (k_refuse_no_sign : PySem.W.keepIn K (.ref f_refuse_no_sign) = true)
    (a_refuse_unlike : PySem.W.nsIn K mainGlobals "refuse_unlike" = some (some (.ref f_refuse_unlike))) (l_refuse_unlike : K.lookup f_refuse_unlike = some ⟨oc_refuse_unlike, od_refuse_unlike, .func (PySem.W.fnOf "refuse_unlike" "refuse_unlike" (defArgs s_refuse_unlike) (defBody s_refuse_unlike) (defScope s_refuse_unlike) .none kV_refuse_unlike dc_refuse_unlike pm_refuse_unlike an_refuse_unlike cd_refuse_unlike ct_refuse_unlike), sl_refuse_unlike⟩) (c_refuse_unlike : PySem.W.codeIn K cd_refuse_unlike "refuse_unlike" = true) (k_refuse_unlike : PySem.W.keepIn K (.ref f_refuse_unlike) = true)
    (a_one_round : PySem.W.nsIn K mainGlobals "one_round" = some (some (.ref f_one_round))) (l_one_round : K.lookup f_one_round = some ⟨oc_one_round, od_one_round, .func (PySem.W.fnOf "one_round" "one_round" (defArgs s_one_round) (defBody s_one_round) (defScope s_one_round) .none kV_one_round dc_one_round pm_one_round an_one_round cd_one_round ct_one_round), sl_one_round⟩) (c_one_round : PySem.W.codeIn K cd_one_round "one_round" = true) (k_one_round : PySem.W.keepIn K (.ref f_one_round) = true)
    (a_modulo_places : PySem.W.nsIn K mainGlobals "modulo_places" = some (some (.ref f_modulo_places))) (l_modulo_places : K.lookup f_modulo_places = some ⟨oc_modulo_places, od_modulo_places, .func (PySem.W.fnOf "modulo_places" "modulo_places" (defArgs s_modulo_places) (defBody s_modulo_places) (defScope s_modulo_places) .none kV_modulo_places dc_modulo_places pm_modulo_places an_modulo_places cd_modulo_places ct_modulo_places), sl_modulo_places⟩) (c_modulo_places : PySem.W.codeIn K cd_modulo_places "modulo_places" = true) (k_modulo_places : PySem.W.keepIn K (.ref f_modulo_places) = true)
    (a_steps_between : PySem.W.nsIn K mainGlobals "steps_between" = some (some (.ref f_steps_between))) (l_steps_between : K.lookup f_steps_between = some ⟨oc_steps_between, od_steps_between, .func (PySem.W.fnOf "steps_between" "steps_between" (defArgs s_steps_between) (defBody s_steps_between) (defScope s_steps_between) .none kV_steps_between dc_steps_between pm_steps_between an_steps_between cd_steps_between ct_steps_between), sl_steps_between⟩) (c_steps_between : PySem.W.codeIn K cd_steps_between "steps_between" = true) (k_steps_between : PySem.W.keepIn K (.ref f_steps_between) = true)
    (a_tree_by : PySem.W.nsIn K mainGlobals "tree_by" = some (some (.ref f_tree_by))) (l_tree_by : K.lookup f_tree_by = some ⟨oc_tree_by, od_tree_by, .func (PySem.W.fnOf "tree_by" "tree_by" (defArgs s_tree_by) (defBody s_tree_by) (defScope s_tree_by) .none kV_tree_by dc_tree_by pm_tree_by an_tree_by cd_tree_by ct_tree_by), sl_tree_by⟩) (c_tree_by : PySem.W.codeIn K cd_tree_by "tree_by" = true) (k_tree_by : PySem.W.keepIn K (.ref f_tree_by) = true)
    (a__law_urn : PySem.W.nsIn K mainGlobals "_law_urn" = some (some (.ref f__law_urn))) (l__law_urn : K.lookup f__law_urn = some ⟨oc__law_urn, od__law_urn, .func (PySem.W.fnOf "_law_urn" "_law_urn" (defArgs s_law_urn) (defBody s_law_urn) (defScope s_law_urn) .none kV__law_urn dc__law_urn pm__law_urn an__law_urn cd__law_urn ct__law_urn), sl__law_urn⟩) (c__law_urn : PySem.W.codeIn K cd__law_urn "_law_urn" = true) (k__law_urn : PySem.W.keepIn K (.ref f__law_urn) = true)
    (a__law_pull : PySem.W.nsIn K mainGlobals "_law_pull" = some (some (.ref f__law_pull))) (l__law_pull : K.lookup f__law_pull = some ⟨oc__law_pull, od__law_pull, .func (PySem.W.fnOf "_law_pull" "_law_pull" (defArgs s_law_pull) (defBody s_law_pull) (defScope s_law_pull) .none kV__law_pull dc__law_pull pm__law_pull an__law_pull cd__law_pull ct__law_pull), sl__law_pull⟩) (c__law_pull : PySem.W.codeIn K cd__law_pull "_law_pull" = true) (k__law_pull : PySem.W.keepIn K (.ref f__law_pull) = true)
    (a__law_coder : PySem.W.nsIn K mainGlobals "_law_coder" = some (some (.ref f__law_coder))) (l__law_coder : K.lookup f__law_coder = some ⟨oc__law_coder, od__law_coder, .func (PySem.W.fnOf "_law_coder" "_law_coder" (defArgs s_law_coder) (defBody s_law_coder) (defScope s_law_coder) .none kV__law_coder dc__law_coder pm__law_coder an__law_coder cd__law_coder ct__law_coder), sl__law_coder⟩) (c__law_coder : PySem.W.codeIn K cd__law_coder "_law_coder" = true) (k__law_coder : PySem.W.keepIn K (.ref f__law_coder) = true)
    (a__law_step : PySem.W.nsIn K mainGlobals "_law_step" = some (some (.ref f__law_step))) (l__law_step : K.lookup f__law_step = some ⟨oc__law_step, od__law_step, .func (PySem.W.fnOf "_law_step" "_law_step" (defArgs s_law_step) (defBody s_law_step) (defScope s_law_step) .none kV__law_step dc__law_step pm__law_step an__law_step cd__law_step ct__law_step), sl__law_step⟩) (c__law_step : PySem.W.codeIn K cd__law_step "_law_step" = true) (k__law_step : PySem.W.keepIn K (.ref f__law_step) = true)
    (a__law_goals : PySem.W.nsIn K mainGlobals "_law_goals" = some (some (.ref f__law_goals))) (l__law_goals : K.lookup f__law_goals = some ⟨oc__law_goals, od__law_goals, .func (PySem.W.fnOf "_law_goals" "_law_goals" (defArgs s_law_goals) (defBody s_law_goals) (defScope s_law_goals) .none kV__law_goals dc__law_goals pm__law_goals an__law_goals cd__law_goals ct__law_goals), sl__law_goals⟩) (c__law_goals : PySem.W.codeIn K cd__law_goals "_law_goals" = true) (k__law_goals : PySem.W.keepIn K (.ref f__law_goals) = true)
    (a__law_home : PySem.W.nsIn K mainGlobals "_law_home" = some (some (.ref f__law_home))) (l__law_home : K.lookup f__law_home = some ⟨oc__law_home, od__law_home, .func (PySem.W.fnOf "_law_home" "_law_home" (defArgs s_law_home) (defBody s_law_home) (defScope s_law_home) .none kV__law_home dc__law_home pm__law_home an__law_home cd__law_home ct__law_home), sl__law_home⟩) (c__law_home : PySem.W.codeIn K cd__law_home "_law_home" = true) (k__law_home : PySem.W.keepIn K (.ref f__law_home) = true)
    (a__law_in_round : PySem.W.nsIn K mainGlobals "_law_in_round" = some (some (.ref f__law_in_round))) (l__law_in_round : K.lookup f__law_in_round = some ⟨oc__law_in_round, od__law_in_round, .func (PySem.W.fnOf "_law_in_round" "_law_in_round" (defArgs s_law_in_round) (defBody s_law_in_round) (defScope s_law_in_round) .none kV__law_in_round dc__law_in_round pm__law_in_round an__law_in_round cd__law_in_round ct__law_in_round), sl__law_in_round⟩) (c__law_in_round : PySem.W.codeIn K cd__law_in_round "_law_in_round" = true) (k__law_in_round : PySem.W.keepIn K (.ref f__law_in_round) = true)
    (a__law_drawn_sign : PySem.W.nsIn K mainGlobals "_law_drawn_sign" = some (some (.ref f__law_drawn_sign))) (l__law_drawn_sign : K.lookup f__law_drawn_sign = some ⟨oc__law_drawn_sign, od__law_drawn_sign, .func (PySem.W.fnOf "_law_drawn_sign" "_law_drawn_sign" (defArgs s_law_drawn_sign) (defBody s_law_drawn_sign) (defScope s_law_drawn_sign) .none kV__law_drawn_sign dc__law_drawn_sign pm__law_drawn_sign an__law_drawn_sign cd__law_drawn_sign ct__law_drawn_sign), sl__law_drawn_sign⟩) (c__law_drawn_sign : PySem.W.codeIn K cd__law_drawn_sign "_law_drawn_sign" = true) (k__law_drawn_sign : PySem.W.keepIn K (.ref f__law_drawn_sign) = true)
    (a__law_words : PySem.W.nsIn K mainGlobals "_law_words" = some (some (.ref f__law_words))) (l__law_words : K.lookup f__law_words = some ⟨oc__law_words, od__law_words, .func (PySem.W.fnOf "_law_words" "_law_words" (defArgs s_law_words) (defBody s_law_words) (defScope s_law_words) .none kV__law_words dc__law_words pm__law_words an__law_words cd__law_words ct__law_words), sl__law_words⟩) (c__law_words : PySem.W.codeIn K cd__law_words "_law_words" = true) (k__law_words : PySem.W.keepIn K (.ref f__law_words) = true)
    (a__law_no_coders : PySem.W.nsIn K mainGlobals "_law_no_coders" = some (some (.ref f__law_no_coders))) (l__law_no_coders : K.lookup f__law_no_coders = some ⟨oc__law_no_coders, od__law_no_coders, .func (PySem.W.fnOf "_law_no_coders" "_law_no_coders" (defArgs s_law_no_coders) (defBody s_law_no_coders) (defScope s_law_no_coders) .none kV__law_no_coders dc__law_no_coders pm__law_no_coders an__law_no_coders cd__law_no_coders ct__law_no_coders), sl__law_no_coders⟩) (c__law_no_coders : PySem.W.codeIn K cd__law_no_coders "_law_no_coders" = true) (k__law_no_coders : PySem.W.keepIn K (.ref f__law_no_coders) = true)
    (a__law_asked : PySem.W.nsIn K mainGlobals "_law_asked" = some (some (.ref f__law_asked))) (l__law_asked : K.lookup f__law_asked = some ⟨oc__law_asked, od__law_asked, .func (PySem.W.fnOf "_law_asked" "_law_asked" (defArgs s_law_asked) (defBody s_law_asked) (defScope s_law_asked) .none kV__law_asked dc__law_asked pm__law_asked an__law_asked cd__law_asked ct__law_asked), sl__law_asked⟩) (c__law_asked : PySem.W.codeIn K cd__law_asked "_law_asked" = true) (k__law_asked : PySem.W.keepIn K (.ref f__law_asked) = true)
    (a__law_places_right : PySem.W.nsIn K mainGlobals "_law_places_right" = some (some (.ref f__law_places_right))) (l__law_places_right : K.lookup f__law_places_right = some ⟨oc__law_places_right, od__law_places_right, .func (PySem.W.fnOf "_law_places_right" "_law_places_right" (defArgs s_law_places_right) (defBody s_law_places_right) (defScope s_law_places_right) .none kV__law_places_right dc__law_places_right pm__law_places_right an__law_places_right cd__law_places_right ct__law_places_right), sl__law_places_right⟩) (c__law_places_right : PySem.W.codeIn K cd__law_places_right "_law_places_right" = true) (k__law_places_right : PySem.W.keepIn K (.ref f__law_places_right) = true)
    (a_law : PySem.W.nsIn K mainGlobals "law" = some (some (.ref f_law))) (l_law : K.lookup f_law = some ⟨oc_law, od_law, .func (PySem.W.fnOf "law" "law" (defArgs s_law) (defBody s_law) (defScope s_law) .none kV_law dc_law pm_law an_law cd_law ct_law), sl_law⟩) (c_law : PySem.W.codeIn K cd_law "law" = true) (k_law : PySem.W.keepIn K (.ref f_law) = true)
    (z_isinstance : PySem.W.nsIn K mainGlobals "isinstance" = some none)
    (z_int : PySem.W.nsIn K mainGlobals "int" = some none)
    (z_bool : PySem.W.nsIn K mainGlobals "bool" = some none)
    (z_tuple : PySem.W.nsIn K mainGlobals "tuple" = some none)
    (z_len : PySem.W.nsIn K mainGlobals "len" = some none)
    (z_all : PySem.W.nsIn K mainGlobals "all" = some none)
    (z_enumerate : PySem.W.nsIn K mainGlobals "enumerate" = some none)
    (z_range : PySem.W.nsIn K mainGlobals "range" = some none)
    (z_list : PySem.W.nsIn K mainGlobals "list" = some none)
    (z_zip : PySem.W.nsIn K mainGlobals "zip" = some none)
    (z_sum : PySem.W.nsIn K mainGlobals "sum" = some none)
    (z_max : PySem.W.nsIn K mainGlobals "max" = some none)
    (z_repr : PySem.W.nsIn K mainGlobals "repr" = some none)
    (z_ValueError : PySem.W.nsIn K mainGlobals "ValueError" = some none)
    (m_MOST_PLACES : PySem.W.nsIn K mainGlobals "MOST_PLACES" = some (some (.int 12 t_MOST_PLACES)))
    (m_MOST_PLACES_OF_ALL : PySem.W.nsIn K mainGlobals "MOST_PLACES_OF_ALL" = some (some (.int 6 t_MOST_PLACES_OF_ALL)))
    (gC_LearnError : PySem.W.nsIn K mainGlobals "LearnError" = some (some (.ref A_LearnError)))
    (gC_NoCoder : PySem.W.nsIn K mainGlobals "NoCoder" = some (some (.ref A_NoCoder)))
    (gC_NoCount : PySem.W.nsIn K mainGlobals "NoCount" = some (some (.ref A_NoCount)))
    (gC_NoCounts : PySem.W.nsIn K mainGlobals "NoCounts" = some (some (.ref A_NoCounts)))
    (gC_NoKnown : PySem.W.nsIn K mainGlobals "NoKnown" = some (some (.ref A_NoKnown)))
    (gC_NoLog : PySem.W.nsIn K mainGlobals "NoLog" = some (some (.ref A_NoLog)))
    (gC_NoLoop : PySem.W.nsIn K mainGlobals "NoLoop" = some (some (.ref A_NoLoop)))
    (gC_NoPairs : PySem.W.nsIn K mainGlobals "NoPairs" = some (some (.ref A_NoPairs)))
    (gC_NoPlace : PySem.W.nsIn K mainGlobals "NoPlace" = some (some (.ref A_NoPlace)))
    (gC_NoRow : PySem.W.nsIn K mainGlobals "NoRow" = some (some (.ref A_NoRow)))
    (gC_NoSign : PySem.W.nsIn K mainGlobals "NoSign" = some (some (.ref A_NoSign)))
    (gC_NoText : PySem.W.nsIn K mainGlobals "NoText" = some (some (.ref A_NoText)))
    (gC_NoTree : PySem.W.nsIn K mainGlobals "NoTree" = some (some (.ref A_NoTree)))
    (gC_NoWord : PySem.W.nsIn K mainGlobals "NoWord" = some (some (.ref A_NoWord)))
    (gC_NotLike : PySem.W.nsIn K mainGlobals "NotLike" = some (some (.ref A_NotLike)))
    (gC_NotRound : PySem.W.nsIn K mainGlobals "NotRound" = some (some (.ref A_NotRound)))
    (gC_Nothing : PySem.W.nsIn K mainGlobals "Nothing" = some (some (.ref A_Nothing)))
    (kC_NoCoder : PySem.W.keepIn K (.ref A_NoCoder) = true) (xC_NoCoder : PySem.W.excIn K A_NoCoder [.type "ValueError", .type "Exception", .type "BaseException", .type "object"] "ValueError.__new__" = true)
    (kC_NoCount : PySem.W.keepIn K (.ref A_NoCount) = true) (xC_NoCount : PySem.W.excIn K A_NoCount [.type "ValueError", .type "Exception", .type "BaseException", .type "object"] "ValueError.__new__" = true)
    (kC_NotLike : PySem.W.keepIn K (.ref A_NotLike) = true) (xC_NotLike : PySem.W.excIn K A_NotLike [.type "ValueError", .type "Exception", .type "BaseException", .type "object"] "ValueError.__new__" = true)
    (kC_NotRound : PySem.W.keepIn K (.ref A_NotRound) = true) (xC_NotRound : PySem.W.excIn K A_NotRound [.type "ValueError", .type "Exception", .type "BaseException", .type "object"] "ValueError.__new__" = true)
    (kC_NoSign : PySem.W.keepIn K (.ref A_NoSign) = true) (xC_NoSign : PySem.W.excIn K A_NoSign [.type "ValueError", .type "Exception", .type "BaseException", .type "object"] "ValueError.__new__" = true)
    (kC_NoTree : PySem.W.keepIn K (.ref A_NoTree) = true) (xC_NoTree : PySem.W.excIn K A_NoTree [.type "ValueError", .type "Exception", .type "BaseException", .type "object"] "ValueError.__new__" = true)
    (bC_NoCoder : PySem.W.subIn K (.ref A_NoCoder) (.type "BaseException") = some true) (tC_NoCoder : PySem.W.typeIn K (.ref A_NoCoder) = some (.type "type"))
    (bC_NoCount : PySem.W.subIn K (.ref A_NoCount) (.type "BaseException") = some true) (tC_NoCount : PySem.W.typeIn K (.ref A_NoCount) = some (.type "type"))
    (bC_NoSign : PySem.W.subIn K (.ref A_NoSign) (.type "BaseException") = some true) (tC_NoSign : PySem.W.typeIn K (.ref A_NoSign) = some (.type "type"))
    (bC_NoTree : PySem.W.subIn K (.ref A_NoTree) (.type "BaseException") = some true) (tC_NoTree : PySem.W.typeIn K (.ref A_NoTree) = some (.type "type"))
    (bC_NotLike : PySem.W.subIn K (.ref A_NotLike) (.type "BaseException") = some true) (tC_NotLike : PySem.W.typeIn K (.ref A_NotLike) = some (.type "type"))
    (bC_NotRound : PySem.W.subIn K (.ref A_NotRound) (.type "BaseException") = some true) (tC_NotRound : PySem.W.typeIn K (.ref A_NotRound) = some (.type "type"))
    (bE : PySem.W.subIn K (.ref A_LearnError) (.type "BaseException") = some true) (dE : PySem.W.hasDictIn K A_LearnError = true) (tE : PySem.W.typeIn K (.ref A_LearnError) = some (.type "type"))
    (p_NoKnown : PySem.W.isClsIn K A_NoKnown = true) (q_NoKnown : PySem.W.typeIn K (.ref A_NoKnown) = some (.type "type"))
    (p_NoText : PySem.W.isClsIn K A_NoText = true) (q_NoText : PySem.W.typeIn K (.ref A_NoText) = some (.type "type"))
    (p_NoPairs : PySem.W.isClsIn K A_NoPairs = true) (q_NoPairs : PySem.W.typeIn K (.ref A_NoPairs) = some (.type "type"))
    (p_NoLoop : PySem.W.isClsIn K A_NoLoop = true) (q_NoLoop : PySem.W.typeIn K (.ref A_NoLoop) = some (.type "type"))
    (p_NoCoder : PySem.W.isClsIn K A_NoCoder = true) (q_NoCoder : PySem.W.typeIn K (.ref A_NoCoder) = some (.type "type"))
    (p_NoCount : PySem.W.isClsIn K A_NoCount = true) (q_NoCount : PySem.W.typeIn K (.ref A_NoCount) = some (.type "type"))
    (p_NotRound : PySem.W.isClsIn K A_NotRound = true) (q_NotRound : PySem.W.typeIn K (.ref A_NotRound) = some (.type "type"))
    (p_NoCounts : PySem.W.isClsIn K A_NoCounts = true) (q_NoCounts : PySem.W.typeIn K (.ref A_NoCounts) = some (.type "type"))
    (p_NoLog : PySem.W.isClsIn K A_NoLog = true) (q_NoLog : PySem.W.typeIn K (.ref A_NoLog) = some (.type "type"))
    (p_NoPlace : PySem.W.isClsIn K A_NoPlace = true) (q_NoPlace : PySem.W.typeIn K (.ref A_NoPlace) = some (.type "type"))
    (p_NoRow : PySem.W.isClsIn K A_NoRow = true) (q_NoRow : PySem.W.typeIn K (.ref A_NoRow) = some (.type "type"))
    (p_NoSign : PySem.W.isClsIn K A_NoSign = true) (q_NoSign : PySem.W.typeIn K (.ref A_NoSign) = some (.type "type"))
    (p_NoTree : PySem.W.isClsIn K A_NoTree = true) (q_NoTree : PySem.W.typeIn K (.ref A_NoTree) = some (.type "type"))
    (p_NoWord : PySem.W.isClsIn K A_NoWord = true) (q_NoWord : PySem.W.typeIn K (.ref A_NoWord) = some (.type "type"))
    (p_NotLike : PySem.W.isClsIn K A_NotLike = true) (q_NotLike : PySem.W.typeIn K (.ref A_NotLike) = some (.type "type"))
    (p_Nothing : PySem.W.isClsIn K A_Nothing = true) (q_Nothing : PySem.W.typeIn K (.ref A_Nothing) = some (.type "type"))
    (sE_NoCoder : PySem.W.subIn K (.ref A_NoCoder) (.ref A_LearnError) = some true)
    (xg_NoCoder : PySem.W.findIn K (.ref A_NoCoder) "__getattribute__" = some (some (.builtin "BaseException.__getattribute__"))) (xk_NoCoder : PySem.W.findIn K (.ref A_NoCoder) "__getattr__" = some none) (xd_NoCoder : PySem.W.hasDictIn K A_NoCoder = true) (xa_NoCoder : PySem.W.findIn K (.ref A_NoCoder) "__class__" = some (some (.builtin "object.__class__")))
    (xm_NoCoder : PySem.W.mroIn K A_NoCoder (.type "object") = some true) (ve_NoCoder : PySem.W.subIn K (.ref A_NoCoder) (.type "ValueError") = some true) (sS_NoCoder : PySem.W.subIn K (.ref A_NoCoder) (.ref A_NoCoder) = some true)
    (r_NoCoder_NoKnown : PySem.W.subIn K (.ref A_NoCoder) (.ref A_NoKnown) = some false)
    (r_NoCoder_NoText : PySem.W.subIn K (.ref A_NoCoder) (.ref A_NoText) = some false)
    (r_NoCoder_NoPairs : PySem.W.subIn K (.ref A_NoCoder) (.ref A_NoPairs) = some false)
    (r_NoCoder_NoLoop : PySem.W.subIn K (.ref A_NoCoder) (.ref A_NoLoop) = some false)
    (r_NoCoder_NoCount : PySem.W.subIn K (.ref A_NoCoder) (.ref A_NoCount) = some false)
    (r_NoCoder_NotRound : PySem.W.subIn K (.ref A_NoCoder) (.ref A_NotRound) = some false)
    (r_NoCoder_NoCounts : PySem.W.subIn K (.ref A_NoCoder) (.ref A_NoCounts) = some false)
    (r_NoCoder_NoLog : PySem.W.subIn K (.ref A_NoCoder) (.ref A_NoLog) = some false)
    (r_NoCoder_NoPlace : PySem.W.subIn K (.ref A_NoCoder) (.ref A_NoPlace) = some false)
    (r_NoCoder_NoRow : PySem.W.subIn K (.ref A_NoCoder) (.ref A_NoRow) = some false)
    (r_NoCoder_NoSign : PySem.W.subIn K (.ref A_NoCoder) (.ref A_NoSign) = some false)
    (r_NoCoder_NoTree : PySem.W.subIn K (.ref A_NoCoder) (.ref A_NoTree) = some false)
    (r_NoCoder_NoWord : PySem.W.subIn K (.ref A_NoCoder) (.ref A_NoWord) = some false)
    (r_NoCoder_NotLike : PySem.W.subIn K (.ref A_NoCoder) (.ref A_NotLike) = some false)
    (r_NoCoder_Nothing : PySem.W.subIn K (.ref A_NoCoder) (.ref A_Nothing) = some false)
    (sE_NoCount : PySem.W.subIn K (.ref A_NoCount) (.ref A_LearnError) = some true)
    (xg_NoCount : PySem.W.findIn K (.ref A_NoCount) "__getattribute__" = some (some (.builtin "BaseException.__getattribute__"))) (xk_NoCount : PySem.W.findIn K (.ref A_NoCount) "__getattr__" = some none) (xd_NoCount : PySem.W.hasDictIn K A_NoCount = true) (xa_NoCount : PySem.W.findIn K (.ref A_NoCount) "__class__" = some (some (.builtin "object.__class__")))
    (xm_NoCount : PySem.W.mroIn K A_NoCount (.type "object") = some true) (ve_NoCount : PySem.W.subIn K (.ref A_NoCount) (.type "ValueError") = some true) (sS_NoCount : PySem.W.subIn K (.ref A_NoCount) (.ref A_NoCount) = some true)
    (r_NoCount_NoKnown : PySem.W.subIn K (.ref A_NoCount) (.ref A_NoKnown) = some false)
    (r_NoCount_NoText : PySem.W.subIn K (.ref A_NoCount) (.ref A_NoText) = some false)
    (r_NoCount_NoPairs : PySem.W.subIn K (.ref A_NoCount) (.ref A_NoPairs) = some false)
    (r_NoCount_NoLoop : PySem.W.subIn K (.ref A_NoCount) (.ref A_NoLoop) = some false)
    (r_NoCount_NoCoder : PySem.W.subIn K (.ref A_NoCount) (.ref A_NoCoder) = some false)
    (r_NoCount_NotRound : PySem.W.subIn K (.ref A_NoCount) (.ref A_NotRound) = some false)
    (r_NoCount_NoCounts : PySem.W.subIn K (.ref A_NoCount) (.ref A_NoCounts) = some false)
    (r_NoCount_NoLog : PySem.W.subIn K (.ref A_NoCount) (.ref A_NoLog) = some false)
    (r_NoCount_NoPlace : PySem.W.subIn K (.ref A_NoCount) (.ref A_NoPlace) = some false)
    (r_NoCount_NoRow : PySem.W.subIn K (.ref A_NoCount) (.ref A_NoRow) = some false)
    (r_NoCount_NoSign : PySem.W.subIn K (.ref A_NoCount) (.ref A_NoSign) = some false)
    (r_NoCount_NoTree : PySem.W.subIn K (.ref A_NoCount) (.ref A_NoTree) = some false)
    (r_NoCount_NoWord : PySem.W.subIn K (.ref A_NoCount) (.ref A_NoWord) = some false)
    (r_NoCount_NotLike : PySem.W.subIn K (.ref A_NoCount) (.ref A_NotLike) = some false)
    (r_NoCount_Nothing : PySem.W.subIn K (.ref A_NoCount) (.ref A_Nothing) = some false)
    (sE_NotLike : PySem.W.subIn K (.ref A_NotLike) (.ref A_LearnError) = some true)
    (xg_NotLike : PySem.W.findIn K (.ref A_NotLike) "__getattribute__" = some (some (.builtin "BaseException.__getattribute__"))) (xk_NotLike : PySem.W.findIn K (.ref A_NotLike) "__getattr__" = some none) (xd_NotLike : PySem.W.hasDictIn K A_NotLike = true) (xa_NotLike : PySem.W.findIn K (.ref A_NotLike) "__class__" = some (some (.builtin "object.__class__")))
    (xm_NotLike : PySem.W.mroIn K A_NotLike (.type "object") = some true) (ve_NotLike : PySem.W.subIn K (.ref A_NotLike) (.type "ValueError") = some true) (sS_NotLike : PySem.W.subIn K (.ref A_NotLike) (.ref A_NotLike) = some true)
    (r_NotLike_NoKnown : PySem.W.subIn K (.ref A_NotLike) (.ref A_NoKnown) = some false)
    (r_NotLike_NoText : PySem.W.subIn K (.ref A_NotLike) (.ref A_NoText) = some false)
    (r_NotLike_NoPairs : PySem.W.subIn K (.ref A_NotLike) (.ref A_NoPairs) = some false)
    (r_NotLike_NoLoop : PySem.W.subIn K (.ref A_NotLike) (.ref A_NoLoop) = some false)
    (r_NotLike_NoCoder : PySem.W.subIn K (.ref A_NotLike) (.ref A_NoCoder) = some false)
    (r_NotLike_NoCount : PySem.W.subIn K (.ref A_NotLike) (.ref A_NoCount) = some false)
    (r_NotLike_NotRound : PySem.W.subIn K (.ref A_NotLike) (.ref A_NotRound) = some false)
    (r_NotLike_NoCounts : PySem.W.subIn K (.ref A_NotLike) (.ref A_NoCounts) = some false)
    (r_NotLike_NoLog : PySem.W.subIn K (.ref A_NotLike) (.ref A_NoLog) = some false)
    (r_NotLike_NoPlace : PySem.W.subIn K (.ref A_NotLike) (.ref A_NoPlace) = some false)
    (r_NotLike_NoRow : PySem.W.subIn K (.ref A_NotLike) (.ref A_NoRow) = some false)
    (r_NotLike_NoSign : PySem.W.subIn K (.ref A_NotLike) (.ref A_NoSign) = some false)
    (r_NotLike_NoTree : PySem.W.subIn K (.ref A_NotLike) (.ref A_NoTree) = some false)
    (r_NotLike_NoWord : PySem.W.subIn K (.ref A_NotLike) (.ref A_NoWord) = some false)
    (r_NotLike_Nothing : PySem.W.subIn K (.ref A_NotLike) (.ref A_Nothing) = some false)
    (sE_NotRound : PySem.W.subIn K (.ref A_NotRound) (.ref A_LearnError) = some true)
    (xg_NotRound : PySem.W.findIn K (.ref A_NotRound) "__getattribute__" = some (some (.builtin "BaseException.__getattribute__"))) (xk_NotRound : PySem.W.findIn K (.ref A_NotRound) "__getattr__" = some none) (xd_NotRound : PySem.W.hasDictIn K A_NotRound = true) (xa_NotRound : PySem.W.findIn K (.ref A_NotRound) "__class__" = some (some (.builtin "object.__class__")))
    (xm_NotRound : PySem.W.mroIn K A_NotRound (.type "object") = some true) (ve_NotRound : PySem.W.subIn K (.ref A_NotRound) (.type "ValueError") = some true) (sS_NotRound : PySem.W.subIn K (.ref A_NotRound) (.ref A_NotRound) = some true)
    (r_NotRound_NoKnown : PySem.W.subIn K (.ref A_NotRound) (.ref A_NoKnown) = some false)
    (r_NotRound_NoText : PySem.W.subIn K (.ref A_NotRound) (.ref A_NoText) = some false)
    (r_NotRound_NoPairs : PySem.W.subIn K (.ref A_NotRound) (.ref A_NoPairs) = some false)
    (r_NotRound_NoLoop : PySem.W.subIn K (.ref A_NotRound) (.ref A_NoLoop) = some false)
    (r_NotRound_NoCoder : PySem.W.subIn K (.ref A_NotRound) (.ref A_NoCoder) = some false)
    (r_NotRound_NoCount : PySem.W.subIn K (.ref A_NotRound) (.ref A_NoCount) = some false)
    (r_NotRound_NoCounts : PySem.W.subIn K (.ref A_NotRound) (.ref A_NoCounts) = some false)
    (r_NotRound_NoLog : PySem.W.subIn K (.ref A_NotRound) (.ref A_NoLog) = some false)
    (r_NotRound_NoPlace : PySem.W.subIn K (.ref A_NotRound) (.ref A_NoPlace) = some false)
    (r_NotRound_NoRow : PySem.W.subIn K (.ref A_NotRound) (.ref A_NoRow) = some false)
    (r_NotRound_NoSign : PySem.W.subIn K (.ref A_NotRound) (.ref A_NoSign) = some false)
    (r_NotRound_NoTree : PySem.W.subIn K (.ref A_NotRound) (.ref A_NoTree) = some false)
    (r_NotRound_NoWord : PySem.W.subIn K (.ref A_NotRound) (.ref A_NoWord) = some false)
    (r_NotRound_NotLike : PySem.W.subIn K (.ref A_NotRound) (.ref A_NotLike) = some false)
    (r_NotRound_Nothing : PySem.W.subIn K (.ref A_NotRound) (.ref A_Nothing) = some false)
    (sE_NoSign : PySem.W.subIn K (.ref A_NoSign) (.ref A_LearnError) = some true)
    (xg_NoSign : PySem.W.findIn K (.ref A_NoSign) "__getattribute__" = some (some (.builtin "BaseException.__getattribute__"))) (xk_NoSign : PySem.W.findIn K (.ref A_NoSign) "__getattr__" = some none) (xd_NoSign : PySem.W.hasDictIn K A_NoSign = true) (xa_NoSign : PySem.W.findIn K (.ref A_NoSign) "__class__" = some (some (.builtin "object.__class__")))
    (xm_NoSign : PySem.W.mroIn K A_NoSign (.type "object") = some true) (ve_NoSign : PySem.W.subIn K (.ref A_NoSign) (.type "ValueError") = some true) (sS_NoSign : PySem.W.subIn K (.ref A_NoSign) (.ref A_NoSign) = some true)
    (r_NoSign_NoKnown : PySem.W.subIn K (.ref A_NoSign) (.ref A_NoKnown) = some false)
    (r_NoSign_NoText : PySem.W.subIn K (.ref A_NoSign) (.ref A_NoText) = some false)
    (r_NoSign_NoPairs : PySem.W.subIn K (.ref A_NoSign) (.ref A_NoPairs) = some false)
    (r_NoSign_NoLoop : PySem.W.subIn K (.ref A_NoSign) (.ref A_NoLoop) = some false)
    (r_NoSign_NoCoder : PySem.W.subIn K (.ref A_NoSign) (.ref A_NoCoder) = some false)
    (r_NoSign_NoCount : PySem.W.subIn K (.ref A_NoSign) (.ref A_NoCount) = some false)
    (r_NoSign_NotRound : PySem.W.subIn K (.ref A_NoSign) (.ref A_NotRound) = some false)
    (r_NoSign_NoCounts : PySem.W.subIn K (.ref A_NoSign) (.ref A_NoCounts) = some false)
    (r_NoSign_NoLog : PySem.W.subIn K (.ref A_NoSign) (.ref A_NoLog) = some false)
    (r_NoSign_NoPlace : PySem.W.subIn K (.ref A_NoSign) (.ref A_NoPlace) = some false)
    (r_NoSign_NoRow : PySem.W.subIn K (.ref A_NoSign) (.ref A_NoRow) = some false)
    (r_NoSign_NoTree : PySem.W.subIn K (.ref A_NoSign) (.ref A_NoTree) = some false)
    (r_NoSign_NoWord : PySem.W.subIn K (.ref A_NoSign) (.ref A_NoWord) = some false)
    (r_NoSign_NotLike : PySem.W.subIn K (.ref A_NoSign) (.ref A_NotLike) = some false)
    (r_NoSign_Nothing : PySem.W.subIn K (.ref A_NoSign) (.ref A_Nothing) = some false)
    (xn : PySem.W.specialIn K (.builtin "object.__class__") "__get__" = some (some (.builtin "getset_descriptor.__get__"))) (xt : PySem.W.takesIn K (.builtin "object.__class__") = some true)
    :
    ∃ fd : FuncData, (∀ (s : Shared) (v : Value), BindsTo s fd ⟨[v], []⟩ [("script", v)]) ∧ ∀ base : Heap, K.In base → base.Ns mainGlobals mg → FnG l.prog w K mg base CX0 12 fa fd ["script"] (spLaw K) := by
  have e := hfa.symm.trans (PySem.W.mg_of X G a_law)
  cases e
  have F_is_whole := fun_mk (st := s_is_whole) l_is_whole c_is_whole k_is_whole
  have F_is_within := fun_mk (st := s_is_within) l_is_within c_is_within k_is_within
  have F_refuse_no_count := fun_mk (st := s_refuse_no_count) l_refuse_no_count c_refuse_no_count k_refuse_no_count
  have F_is_coder := fun_mk (st := s_is_coder) l_is_coder c_is_coder k_is_coder
  have F_refuse_no_coder := fun_mk (st := s_refuse_no_coder) l_refuse_no_coder c_refuse_no_coder k_refuse_no_coder
  have F_one_longer := fun_mk (st := s_one_longer) l_one_longer c_one_longer k_one_longer
  have F_next_coder := fun_mk (st := s_next_coder) l_next_coder c_next_coder k_next_coder
  have F_last_goings := fun_mk (st := s_last_goings) l_last_goings c_last_goings k_last_goings
  have F_ring_from := fun_mk (st := s_ring_from) l_ring_from c_ring_from k_ring_from
  have F_ring := fun_mk (st := s_ring) l_ring c_ring k_ring
  have F_in_round := fun_mk (st := s_in_round) l_in_round c_in_round k_in_round
  have F_all_come_first := fun_mk (st := s_all_come_first) l_all_come_first c_all_come_first k_all_come_first
  have F_is_tree := fun_mk (st := s_is_tree) l_is_tree c_is_tree k_is_tree
  have F_coder_of := fun_mk (st := s_coder_of) l_coder_of c_coder_of k_coder_of
  have F_all_trees := fun_mk (st := s_all_trees) l_all_trees c_all_trees k_all_trees
  have F_ends_ahead := fun_mk (st := s_ends_ahead) l_ends_ahead c_ends_ahead k_ends_ahead
  have F_sign_of := fun_mk (st := s_sign_of) l_sign_of c_sign_of k_sign_of
  have F_is_sign := fun_mk (st := s_is_sign) l_is_sign c_is_sign k_is_sign
  have F_refuse_no_sign := fun_mk (st := s_refuse_no_sign) l_refuse_no_sign c_refuse_no_sign k_refuse_no_sign
  have F_refuse_unlike := fun_mk (st := s_refuse_unlike) l_refuse_unlike c_refuse_unlike k_refuse_unlike
  have F_one_round := fun_mk (st := s_one_round) l_one_round c_one_round k_one_round
  have F_modulo_places := fun_mk (st := s_modulo_places) l_modulo_places c_modulo_places k_modulo_places
  have F_steps_between := fun_mk (st := s_steps_between) l_steps_between c_steps_between k_steps_between
  have F_tree_by := fun_mk (st := s_tree_by) l_tree_by c_tree_by k_tree_by
  have F__law_urn := fun_mk (st := s_law_urn) l__law_urn c__law_urn k__law_urn
  have F__law_pull := fun_mk (st := s_law_pull) l__law_pull c__law_pull k__law_pull
  have F__law_coder := fun_mk (st := s_law_coder) l__law_coder c__law_coder k__law_coder
  have F__law_step := fun_mk (st := s_law_step) l__law_step c__law_step k__law_step
  have F__law_goals := fun_mk (st := s_law_goals) l__law_goals c__law_goals k__law_goals
  have F__law_home := fun_mk (st := s_law_home) l__law_home c__law_home k__law_home
  have F__law_in_round := fun_mk (st := s_law_in_round) l__law_in_round c__law_in_round k__law_in_round
  have F__law_drawn_sign := fun_mk (st := s_law_drawn_sign) l__law_drawn_sign c__law_drawn_sign k__law_drawn_sign
  have F__law_words := fun_mk (st := s_law_words) l__law_words c__law_words k__law_words
  have F__law_no_coders := fun_mk (st := s_law_no_coders) l__law_no_coders c__law_no_coders k__law_no_coders
  have F__law_asked := fun_mk (st := s_law_asked) l__law_asked c__law_asked k__law_asked
  have F__law_places_right := fun_mk (st := s_law_places_right) l__law_places_right c__law_places_right k__law_places_right
  have F_law := fun_mk (st := s_law) l_law c_law k_law
  have b_is_whole := F_is_whole.binds (ps := ["thing"]) fun _ _ _ _ _ _ us hl => match us, hl with | [_], _ => rfl
  have b_is_within := F_is_within.binds (ps := ["thing", "least", "most"]) fun _ _ _ _ _ _ us hl => match us, hl with | [_, _, _], _ => rfl
  have b_refuse_no_count := F_refuse_no_count.binds (ps := ["thing", "least", "most"]) fun _ _ _ _ _ _ us hl => match us, hl with | [_, _, _], _ => rfl
  have b_is_coder := F_is_coder.binds (ps := ["thing"]) fun _ _ _ _ _ _ us hl => match us, hl with | [_], _ => rfl
  have b_refuse_no_coder := F_refuse_no_coder.binds (ps := ["coder"]) fun _ _ _ _ _ _ us hl => match us, hl with | [_], _ => rfl
  have b_one_longer := F_one_longer.binds (ps := ["lengths", "place"]) fun _ _ _ _ _ _ us hl => match us, hl with | [_, _], _ => rfl
  have b_next_coder := F_next_coder.binds (ps := ["coder"]) fun _ _ _ _ _ _ us hl => match us, hl with | [_], _ => rfl
  have b_last_goings := F_last_goings.binds (ps := ["coder"]) fun _ _ _ _ _ _ us hl => match us, hl with | [_], _ => rfl
  have b_ring_from := F_ring_from.binds (ps := ["coder", "least"]) fun _ _ _ _ _ _ us hl => match us, hl with | [_, _], _ => rfl
  have b_ring := F_ring.binds (ps := ["coder"]) fun _ _ _ _ _ _ us hl => match us, hl with | [_], _ => rfl
  have b_in_round := F_in_round.binds (ps := ["coder"]) fun _ _ _ _ _ _ us hl => match us, hl with | [_], _ => rfl
  have b_all_come_first := F_all_come_first.binds (ps := ["tree"]) fun _ _ _ _ _ _ us hl => match us, hl with | [_], _ => rfl
  have b_is_tree := F_is_tree.binds (ps := ["p", "thing"]) fun _ _ _ _ _ _ us hl => match us, hl with | [_, _], _ => rfl
  have b_coder_of := F_coder_of.binds (ps := ["p", "tree"]) fun _ _ _ _ _ _ us hl => match us, hl with | [_, _], _ => rfl
  have b_all_trees := F_all_trees.binds (ps := ["p"]) fun _ _ _ _ _ _ us hl => match us, hl with | [_], _ => rfl
  have b_ends_ahead := F_ends_ahead.binds (ps := ["lengths", "at"]) fun _ _ _ _ _ _ us hl => match us, hl with | [_, _], _ => rfl
  have b_sign_of := F_sign_of.binds (ps := ["coder"]) fun _ _ _ _ _ _ us hl => match us, hl with | [_], _ => rfl
  have b_is_sign := F_is_sign.binds (ps := ["p", "thing"]) fun _ _ _ _ _ _ us hl => match us, hl with | [_, _], _ => rfl
  have b_refuse_no_sign := F_refuse_no_sign.binds (ps := ["p", "sign"]) fun _ _ _ _ _ _ us hl => match us, hl with | [_, _], _ => rfl
  have b_refuse_unlike := F_refuse_unlike.binds (ps := ["coder", "other"]) fun _ _ _ _ _ _ us hl => match us, hl with | [_, _], _ => rfl
  have b_one_round := F_one_round.binds (ps := ["coder", "other"]) fun _ _ _ _ _ _ us hl => match us, hl with | [_, _], _ => rfl
  have b_modulo_places := F_modulo_places.binds (ps := ["coder"]) fun _ _ _ _ _ _ us hl => match us, hl with | [_], _ => rfl
  have b_steps_between := F_steps_between.binds (ps := ["coder", "other"]) fun _ _ _ _ _ _ us hl => match us, hl with | [_, _], _ => rfl
  have b_tree_by := F_tree_by.binds (ps := ["p", "sign"]) fun _ _ _ _ _ _ us hl => match us, hl with | [_, _], _ => rfl
  have b__law_urn := F__law_urn.binds (ps := ["cell"]) fun _ _ _ _ _ _ us hl => match us, hl with | [_], _ => rfl
  have b__law_pull := F__law_pull.binds (ps := ["urn", "many"]) fun _ _ _ _ _ _ us hl => match us, hl with | [_, _], _ => rfl
  have b__law_coder := F__law_coder.binds (ps := ["urn", "most"]) fun _ _ _ _ _ _ us hl => match us, hl with | [_, _], _ => rfl
  have b__law_step := F__law_step.binds (ps := ["coder"]) fun _ _ _ _ _ _ us hl => match us, hl with | [_], _ => rfl
  have b__law_goals := F__law_goals.binds (ps := ["coder"]) fun _ _ _ _ _ _ us hl => match us, hl with | [_], _ => rfl
  have b__law_home := F__law_home.binds (ps := ["goals", "home"]) fun _ _ _ _ _ _ us hl => match us, hl with | [_, _], _ => rfl
  have b__law_in_round := F__law_in_round.binds (ps := ["coder"]) fun _ _ _ _ _ _ us hl => match us, hl with | [_], _ => rfl
  have b__law_drawn_sign := F__law_drawn_sign.binds (ps := ["urn", "p"]) fun _ _ _ _ _ _ us hl => match us, hl with | [_, _], _ => rfl
  have b__law_words := F__law_words.binds (ps := ["e"]) fun _ _ _ _ _ _ us hl => match us, hl with | [_], _ => rfl
  have b__law_no_coders := F__law_no_coders.binds (ps := ["urn", "coder"]) fun _ _ _ _ _ _ us hl => match us, hl with | [_, _], _ => rfl
  have b__law_asked := F__law_asked.binds (ps := ["door", "one", "other"]) fun _ _ _ _ _ _ us hl => match us, hl with | [_, _, _], _ => rfl
  have b__law_places_right := F__law_places_right.binds (ps := ["urn"]) fun _ _ _ _ _ _ us hl => match us, hl with | [_], _ => rfl
  have g_is_whole := PySem.W.mg_of X G a_is_whole
  have g_is_within := PySem.W.mg_of X G a_is_within
  have g_refuse_no_count := PySem.W.mg_of X G a_refuse_no_count
  have g_is_coder := PySem.W.mg_of X G a_is_coder
  have g_refuse_no_coder := PySem.W.mg_of X G a_refuse_no_coder
  have g_one_longer := PySem.W.mg_of X G a_one_longer
  have g_next_coder := PySem.W.mg_of X G a_next_coder
  have g_last_goings := PySem.W.mg_of X G a_last_goings
  have g_ring_from := PySem.W.mg_of X G a_ring_from
  have g_ring := PySem.W.mg_of X G a_ring
  have g_in_round := PySem.W.mg_of X G a_in_round
  have g_all_come_first := PySem.W.mg_of X G a_all_come_first
  have g_is_tree := PySem.W.mg_of X G a_is_tree
  have g_coder_of := PySem.W.mg_of X G a_coder_of
  have g_all_trees := PySem.W.mg_of X G a_all_trees
  have g_ends_ahead := PySem.W.mg_of X G a_ends_ahead
  have g_sign_of := PySem.W.mg_of X G a_sign_of
  have g_is_sign := PySem.W.mg_of X G a_is_sign
  have g_refuse_no_sign := PySem.W.mg_of X G a_refuse_no_sign
  have g_refuse_unlike := PySem.W.mg_of X G a_refuse_unlike
  have g_one_round := PySem.W.mg_of X G a_one_round
  have g_modulo_places := PySem.W.mg_of X G a_modulo_places
  have g_steps_between := PySem.W.mg_of X G a_steps_between
  have g_tree_by := PySem.W.mg_of X G a_tree_by
  have g__law_urn := PySem.W.mg_of X G a__law_urn
  have g__law_pull := PySem.W.mg_of X G a__law_pull
  have g__law_coder := PySem.W.mg_of X G a__law_coder
  have g__law_step := PySem.W.mg_of X G a__law_step
  have g__law_goals := PySem.W.mg_of X G a__law_goals
  have g__law_home := PySem.W.mg_of X G a__law_home
  have g__law_in_round := PySem.W.mg_of X G a__law_in_round
  have g__law_drawn_sign := PySem.W.mg_of X G a__law_drawn_sign
  have g__law_words := PySem.W.mg_of X G a__law_words
  have g__law_no_coders := PySem.W.mg_of X G a__law_no_coders
  have g__law_asked := PySem.W.mg_of X G a__law_asked
  have g__law_places_right := PySem.W.mg_of X G a__law_places_right
  have g_law := PySem.W.mg_of X G a_law
  have w_isinstance := PySem.W.mg_none_of X G z_isinstance
  have w_int := PySem.W.mg_none_of X G z_int
  have w_bool := PySem.W.mg_none_of X G z_bool
  have w_tuple := PySem.W.mg_none_of X G z_tuple
  have w_len := PySem.W.mg_none_of X G z_len
  have w_all := PySem.W.mg_none_of X G z_all
  have w_enumerate := PySem.W.mg_none_of X G z_enumerate
  have w_range := PySem.W.mg_none_of X G z_range
  have w_list := PySem.W.mg_none_of X G z_list
  have w_zip := PySem.W.mg_none_of X G z_zip
  have w_sum := PySem.W.mg_none_of X G z_sum
  have w_max := PySem.W.mg_none_of X G z_max
  have w_repr := PySem.W.mg_none_of X G z_repr
  have w_ValueError := PySem.W.mg_none_of X G z_ValueError
  have h_MOST_PLACES := PySem.W.mg_of X G m_MOST_PLACES
  have h_MOST_PLACES_OF_ALL := PySem.W.mg_of X G m_MOST_PLACES_OF_ALL
  have hC_LearnError := PySem.W.mg_of X G gC_LearnError
  have hC_NoCoder := PySem.W.mg_of X G gC_NoCoder
  have hC_NoCount := PySem.W.mg_of X G gC_NoCount
  have hC_NoCounts := PySem.W.mg_of X G gC_NoCounts
  have hC_NoKnown := PySem.W.mg_of X G gC_NoKnown
  have hC_NoLog := PySem.W.mg_of X G gC_NoLog
  have hC_NoLoop := PySem.W.mg_of X G gC_NoLoop
  have hC_NoPairs := PySem.W.mg_of X G gC_NoPairs
  have hC_NoPlace := PySem.W.mg_of X G gC_NoPlace
  have hC_NoRow := PySem.W.mg_of X G gC_NoRow
  have hC_NoSign := PySem.W.mg_of X G gC_NoSign
  have hC_NoText := PySem.W.mg_of X G gC_NoText
  have hC_NoTree := PySem.W.mg_of X G gC_NoTree
  have hC_NoWord := PySem.W.mg_of X G gC_NoWord
  have hC_NotLike := PySem.W.mg_of X G gC_NotLike
  have hC_NotRound := PySem.W.mg_of X G gC_NotRound
  have hC_Nothing := PySem.W.mg_of X G gC_Nothing
  have TE_NoCoder : ErrC K mg "NoCoder" A_NoCoder := ⟨hC_NoCoder, kC_NoCoder, xC_NoCoder, bC_NoCoder, tC_NoCoder⟩
  have TE_NoCount : ErrC K mg "NoCount" A_NoCount := ⟨hC_NoCount, kC_NoCount, xC_NoCount, bC_NoCount, tC_NoCount⟩
  have TE_NotLike : ErrC K mg "NotLike" A_NotLike := ⟨hC_NotLike, kC_NotLike, xC_NotLike, bC_NotLike, tC_NotLike⟩
  have TE_NotRound : ErrC K mg "NotRound" A_NotRound := ⟨hC_NotRound, kC_NotRound, xC_NotRound, bC_NotRound, tC_NotRound⟩
  have TE_NoSign : ErrC K mg "NoSign" A_NoSign := ⟨hC_NoSign, kC_NoSign, xC_NoSign, bC_NoSign, tC_NoSign⟩
  have TE_NoTree : ErrC K mg "NoTree" A_NoTree := ⟨hC_NoTree, kC_NoTree, xC_NoTree, bC_NoTree, tC_NoTree⟩
  have te_NoCoder : PySem.W.exmOne K (.ref A_NoCoder) (.ref A_LearnError) = some true := PySem.W.exm_ref bE dE tE sE_NoCoder
  have TX_NoCoder : Errs16 K mg A_NoCoder "NoCoder" := ⟨⟨xg_NoCoder, xk_NoCoder, bC_NoCoder, xd_NoCoder, xa_NoCoder, xn, xt, xm_NoCoder⟩, w_ValueError, kit_ve ve_NoCoder, w_isinstance, fun x hx => by
    simp only [ernL, List.mem_cons, List.not_mem_nil, or_false] at hx
    rcases hx with rfl | rfl | rfl | rfl | rfl | rfl | rfl | rfl | rfl | rfl | rfl | rfl | rfl | rfl | rfl | rfl
    · exact isb_to (b := false) (by decide +kernel) ⟨_, hC_NoKnown, kit_no sS_NoCoder p_NoKnown q_NoKnown r_NoCoder_NoKnown⟩
    · exact isb_to (b := false) (by decide +kernel) ⟨_, hC_NoText, kit_no sS_NoCoder p_NoText q_NoText r_NoCoder_NoText⟩
    · exact isb_to (b := false) (by decide +kernel) ⟨_, hC_NoPairs, kit_no sS_NoCoder p_NoPairs q_NoPairs r_NoCoder_NoPairs⟩
    · exact isb_to (b := false) (by decide +kernel) ⟨_, hC_NoLoop, kit_no sS_NoCoder p_NoLoop q_NoLoop r_NoCoder_NoLoop⟩
    · exact isb_to (b := true) (by decide +kernel) ⟨_, hC_NoCoder, kit_self _⟩
    · exact isb_to (b := false) (by decide +kernel) ⟨_, hC_NoCount, kit_no sS_NoCoder p_NoCount q_NoCount r_NoCoder_NoCount⟩
    · exact isb_to (b := false) (by decide +kernel) ⟨_, hC_NotRound, kit_no sS_NoCoder p_NotRound q_NotRound r_NoCoder_NotRound⟩
    · exact isb_to (b := false) (by decide +kernel) ⟨_, hC_NoTree, kit_no sS_NoCoder p_NoTree q_NoTree r_NoCoder_NoTree⟩
    · exact isb_to (b := false) (by decide +kernel) ⟨_, hC_NoSign, kit_no sS_NoCoder p_NoSign q_NoSign r_NoCoder_NoSign⟩
    · exact isb_to (b := false) (by decide +kernel) ⟨_, hC_NotLike, kit_no sS_NoCoder p_NotLike q_NotLike r_NoCoder_NotLike⟩
    · exact isb_to (b := false) (by decide +kernel) ⟨_, hC_NoPlace, kit_no sS_NoCoder p_NoPlace q_NoPlace r_NoCoder_NoPlace⟩
    · exact isb_to (b := false) (by decide +kernel) ⟨_, hC_NoCounts, kit_no sS_NoCoder p_NoCounts q_NoCounts r_NoCoder_NoCounts⟩
    · exact isb_to (b := false) (by decide +kernel) ⟨_, hC_NoWord, kit_no sS_NoCoder p_NoWord q_NoWord r_NoCoder_NoWord⟩
    · exact isb_to (b := false) (by decide +kernel) ⟨_, hC_Nothing, kit_no sS_NoCoder p_Nothing q_Nothing r_NoCoder_Nothing⟩
    · exact isb_to (b := false) (by decide +kernel) ⟨_, hC_NoLog, kit_no sS_NoCoder p_NoLog q_NoLog r_NoCoder_NoLog⟩
    · exact isb_to (b := false) (by decide +kernel) ⟨_, hC_NoRow, kit_no sS_NoCoder p_NoRow q_NoRow r_NoCoder_NoRow⟩⟩
  have te_NoCount : PySem.W.exmOne K (.ref A_NoCount) (.ref A_LearnError) = some true := PySem.W.exm_ref bE dE tE sE_NoCount
  have TX_NoCount : Errs16 K mg A_NoCount "NoCount" := ⟨⟨xg_NoCount, xk_NoCount, bC_NoCount, xd_NoCount, xa_NoCount, xn, xt, xm_NoCount⟩, w_ValueError, kit_ve ve_NoCount, w_isinstance, fun x hx => by
    simp only [ernL, List.mem_cons, List.not_mem_nil, or_false] at hx
    rcases hx with rfl | rfl | rfl | rfl | rfl | rfl | rfl | rfl | rfl | rfl | rfl | rfl | rfl | rfl | rfl | rfl
    · exact isb_to (b := false) (by decide +kernel) ⟨_, hC_NoKnown, kit_no sS_NoCount p_NoKnown q_NoKnown r_NoCount_NoKnown⟩
    · exact isb_to (b := false) (by decide +kernel) ⟨_, hC_NoText, kit_no sS_NoCount p_NoText q_NoText r_NoCount_NoText⟩
    · exact isb_to (b := false) (by decide +kernel) ⟨_, hC_NoPairs, kit_no sS_NoCount p_NoPairs q_NoPairs r_NoCount_NoPairs⟩
    · exact isb_to (b := false) (by decide +kernel) ⟨_, hC_NoLoop, kit_no sS_NoCount p_NoLoop q_NoLoop r_NoCount_NoLoop⟩
    · exact isb_to (b := false) (by decide +kernel) ⟨_, hC_NoCoder, kit_no sS_NoCount p_NoCoder q_NoCoder r_NoCount_NoCoder⟩
    · exact isb_to (b := true) (by decide +kernel) ⟨_, hC_NoCount, kit_self _⟩
    · exact isb_to (b := false) (by decide +kernel) ⟨_, hC_NotRound, kit_no sS_NoCount p_NotRound q_NotRound r_NoCount_NotRound⟩
    · exact isb_to (b := false) (by decide +kernel) ⟨_, hC_NoTree, kit_no sS_NoCount p_NoTree q_NoTree r_NoCount_NoTree⟩
    · exact isb_to (b := false) (by decide +kernel) ⟨_, hC_NoSign, kit_no sS_NoCount p_NoSign q_NoSign r_NoCount_NoSign⟩
    · exact isb_to (b := false) (by decide +kernel) ⟨_, hC_NotLike, kit_no sS_NoCount p_NotLike q_NotLike r_NoCount_NotLike⟩
    · exact isb_to (b := false) (by decide +kernel) ⟨_, hC_NoPlace, kit_no sS_NoCount p_NoPlace q_NoPlace r_NoCount_NoPlace⟩
    · exact isb_to (b := false) (by decide +kernel) ⟨_, hC_NoCounts, kit_no sS_NoCount p_NoCounts q_NoCounts r_NoCount_NoCounts⟩
    · exact isb_to (b := false) (by decide +kernel) ⟨_, hC_NoWord, kit_no sS_NoCount p_NoWord q_NoWord r_NoCount_NoWord⟩
    · exact isb_to (b := false) (by decide +kernel) ⟨_, hC_Nothing, kit_no sS_NoCount p_Nothing q_Nothing r_NoCount_Nothing⟩
    · exact isb_to (b := false) (by decide +kernel) ⟨_, hC_NoLog, kit_no sS_NoCount p_NoLog q_NoLog r_NoCount_NoLog⟩
    · exact isb_to (b := false) (by decide +kernel) ⟨_, hC_NoRow, kit_no sS_NoCount p_NoRow q_NoRow r_NoCount_NoRow⟩⟩
  have te_NotLike : PySem.W.exmOne K (.ref A_NotLike) (.ref A_LearnError) = some true := PySem.W.exm_ref bE dE tE sE_NotLike
  have TX_NotLike : Errs16 K mg A_NotLike "NotLike" := ⟨⟨xg_NotLike, xk_NotLike, bC_NotLike, xd_NotLike, xa_NotLike, xn, xt, xm_NotLike⟩, w_ValueError, kit_ve ve_NotLike, w_isinstance, fun x hx => by
    simp only [ernL, List.mem_cons, List.not_mem_nil, or_false] at hx
    rcases hx with rfl | rfl | rfl | rfl | rfl | rfl | rfl | rfl | rfl | rfl | rfl | rfl | rfl | rfl | rfl | rfl
    · exact isb_to (b := false) (by decide +kernel) ⟨_, hC_NoKnown, kit_no sS_NotLike p_NoKnown q_NoKnown r_NotLike_NoKnown⟩
    · exact isb_to (b := false) (by decide +kernel) ⟨_, hC_NoText, kit_no sS_NotLike p_NoText q_NoText r_NotLike_NoText⟩
    · exact isb_to (b := false) (by decide +kernel) ⟨_, hC_NoPairs, kit_no sS_NotLike p_NoPairs q_NoPairs r_NotLike_NoPairs⟩
    · exact isb_to (b := false) (by decide +kernel) ⟨_, hC_NoLoop, kit_no sS_NotLike p_NoLoop q_NoLoop r_NotLike_NoLoop⟩
    · exact isb_to (b := false) (by decide +kernel) ⟨_, hC_NoCoder, kit_no sS_NotLike p_NoCoder q_NoCoder r_NotLike_NoCoder⟩
    · exact isb_to (b := false) (by decide +kernel) ⟨_, hC_NoCount, kit_no sS_NotLike p_NoCount q_NoCount r_NotLike_NoCount⟩
    · exact isb_to (b := false) (by decide +kernel) ⟨_, hC_NotRound, kit_no sS_NotLike p_NotRound q_NotRound r_NotLike_NotRound⟩
    · exact isb_to (b := false) (by decide +kernel) ⟨_, hC_NoTree, kit_no sS_NotLike p_NoTree q_NoTree r_NotLike_NoTree⟩
    · exact isb_to (b := false) (by decide +kernel) ⟨_, hC_NoSign, kit_no sS_NotLike p_NoSign q_NoSign r_NotLike_NoSign⟩
    · exact isb_to (b := true) (by decide +kernel) ⟨_, hC_NotLike, kit_self _⟩
    · exact isb_to (b := false) (by decide +kernel) ⟨_, hC_NoPlace, kit_no sS_NotLike p_NoPlace q_NoPlace r_NotLike_NoPlace⟩
    · exact isb_to (b := false) (by decide +kernel) ⟨_, hC_NoCounts, kit_no sS_NotLike p_NoCounts q_NoCounts r_NotLike_NoCounts⟩
    · exact isb_to (b := false) (by decide +kernel) ⟨_, hC_NoWord, kit_no sS_NotLike p_NoWord q_NoWord r_NotLike_NoWord⟩
    · exact isb_to (b := false) (by decide +kernel) ⟨_, hC_Nothing, kit_no sS_NotLike p_Nothing q_Nothing r_NotLike_Nothing⟩
    · exact isb_to (b := false) (by decide +kernel) ⟨_, hC_NoLog, kit_no sS_NotLike p_NoLog q_NoLog r_NotLike_NoLog⟩
    · exact isb_to (b := false) (by decide +kernel) ⟨_, hC_NoRow, kit_no sS_NotLike p_NoRow q_NoRow r_NotLike_NoRow⟩⟩
  have te_NotRound : PySem.W.exmOne K (.ref A_NotRound) (.ref A_LearnError) = some true := PySem.W.exm_ref bE dE tE sE_NotRound
  have TX_NotRound : Errs16 K mg A_NotRound "NotRound" := ⟨⟨xg_NotRound, xk_NotRound, bC_NotRound, xd_NotRound, xa_NotRound, xn, xt, xm_NotRound⟩, w_ValueError, kit_ve ve_NotRound, w_isinstance, fun x hx => by
    simp only [ernL, List.mem_cons, List.not_mem_nil, or_false] at hx
    rcases hx with rfl | rfl | rfl | rfl | rfl | rfl | rfl | rfl | rfl | rfl | rfl | rfl | rfl | rfl | rfl | rfl
    · exact isb_to (b := false) (by decide +kernel) ⟨_, hC_NoKnown, kit_no sS_NotRound p_NoKnown q_NoKnown r_NotRound_NoKnown⟩
    · exact isb_to (b := false) (by decide +kernel) ⟨_, hC_NoText, kit_no sS_NotRound p_NoText q_NoText r_NotRound_NoText⟩
    · exact isb_to (b := false) (by decide +kernel) ⟨_, hC_NoPairs, kit_no sS_NotRound p_NoPairs q_NoPairs r_NotRound_NoPairs⟩
    · exact isb_to (b := false) (by decide +kernel) ⟨_, hC_NoLoop, kit_no sS_NotRound p_NoLoop q_NoLoop r_NotRound_NoLoop⟩
    · exact isb_to (b := false) (by decide +kernel) ⟨_, hC_NoCoder, kit_no sS_NotRound p_NoCoder q_NoCoder r_NotRound_NoCoder⟩
    · exact isb_to (b := false) (by decide +kernel) ⟨_, hC_NoCount, kit_no sS_NotRound p_NoCount q_NoCount r_NotRound_NoCount⟩
    · exact isb_to (b := true) (by decide +kernel) ⟨_, hC_NotRound, kit_self _⟩
    · exact isb_to (b := false) (by decide +kernel) ⟨_, hC_NoTree, kit_no sS_NotRound p_NoTree q_NoTree r_NotRound_NoTree⟩
    · exact isb_to (b := false) (by decide +kernel) ⟨_, hC_NoSign, kit_no sS_NotRound p_NoSign q_NoSign r_NotRound_NoSign⟩
    · exact isb_to (b := false) (by decide +kernel) ⟨_, hC_NotLike, kit_no sS_NotRound p_NotLike q_NotLike r_NotRound_NotLike⟩
    · exact isb_to (b := false) (by decide +kernel) ⟨_, hC_NoPlace, kit_no sS_NotRound p_NoPlace q_NoPlace r_NotRound_NoPlace⟩
    · exact isb_to (b := false) (by decide +kernel) ⟨_, hC_NoCounts, kit_no sS_NotRound p_NoCounts q_NoCounts r_NotRound_NoCounts⟩
    · exact isb_to (b := false) (by decide +kernel) ⟨_, hC_NoWord, kit_no sS_NotRound p_NoWord q_NoWord r_NotRound_NoWord⟩
    · exact isb_to (b := false) (by decide +kernel) ⟨_, hC_Nothing, kit_no sS_NotRound p_Nothing q_Nothing r_NotRound_Nothing⟩
    · exact isb_to (b := false) (by decide +kernel) ⟨_, hC_NoLog, kit_no sS_NotRound p_NoLog q_NoLog r_NotRound_NoLog⟩
    · exact isb_to (b := false) (by decide +kernel) ⟨_, hC_NoRow, kit_no sS_NotRound p_NoRow q_NoRow r_NotRound_NoRow⟩⟩
  have te_NoSign : PySem.W.exmOne K (.ref A_NoSign) (.ref A_LearnError) = some true := PySem.W.exm_ref bE dE tE sE_NoSign
  have TX_NoSign : Errs16 K mg A_NoSign "NoSign" := ⟨⟨xg_NoSign, xk_NoSign, bC_NoSign, xd_NoSign, xa_NoSign, xn, xt, xm_NoSign⟩, w_ValueError, kit_ve ve_NoSign, w_isinstance, fun x hx => by
    simp only [ernL, List.mem_cons, List.not_mem_nil, or_false] at hx
    rcases hx with rfl | rfl | rfl | rfl | rfl | rfl | rfl | rfl | rfl | rfl | rfl | rfl | rfl | rfl | rfl | rfl
    · exact isb_to (b := false) (by decide +kernel) ⟨_, hC_NoKnown, kit_no sS_NoSign p_NoKnown q_NoKnown r_NoSign_NoKnown⟩
    · exact isb_to (b := false) (by decide +kernel) ⟨_, hC_NoText, kit_no sS_NoSign p_NoText q_NoText r_NoSign_NoText⟩
    · exact isb_to (b := false) (by decide +kernel) ⟨_, hC_NoPairs, kit_no sS_NoSign p_NoPairs q_NoPairs r_NoSign_NoPairs⟩
    · exact isb_to (b := false) (by decide +kernel) ⟨_, hC_NoLoop, kit_no sS_NoSign p_NoLoop q_NoLoop r_NoSign_NoLoop⟩
    · exact isb_to (b := false) (by decide +kernel) ⟨_, hC_NoCoder, kit_no sS_NoSign p_NoCoder q_NoCoder r_NoSign_NoCoder⟩
    · exact isb_to (b := false) (by decide +kernel) ⟨_, hC_NoCount, kit_no sS_NoSign p_NoCount q_NoCount r_NoSign_NoCount⟩
    · exact isb_to (b := false) (by decide +kernel) ⟨_, hC_NotRound, kit_no sS_NoSign p_NotRound q_NotRound r_NoSign_NotRound⟩
    · exact isb_to (b := false) (by decide +kernel) ⟨_, hC_NoTree, kit_no sS_NoSign p_NoTree q_NoTree r_NoSign_NoTree⟩
    · exact isb_to (b := true) (by decide +kernel) ⟨_, hC_NoSign, kit_self _⟩
    · exact isb_to (b := false) (by decide +kernel) ⟨_, hC_NotLike, kit_no sS_NoSign p_NotLike q_NotLike r_NoSign_NotLike⟩
    · exact isb_to (b := false) (by decide +kernel) ⟨_, hC_NoPlace, kit_no sS_NoSign p_NoPlace q_NoPlace r_NoSign_NoPlace⟩
    · exact isb_to (b := false) (by decide +kernel) ⟨_, hC_NoCounts, kit_no sS_NoSign p_NoCounts q_NoCounts r_NoSign_NoCounts⟩
    · exact isb_to (b := false) (by decide +kernel) ⟨_, hC_NoWord, kit_no sS_NoSign p_NoWord q_NoWord r_NoSign_NoWord⟩
    · exact isb_to (b := false) (by decide +kernel) ⟨_, hC_Nothing, kit_no sS_NoSign p_Nothing q_Nothing r_NoSign_Nothing⟩
    · exact isb_to (b := false) (by decide +kernel) ⟨_, hC_NoLog, kit_no sS_NoSign p_NoLog q_NoLog r_NoSign_NoLog⟩
    · exact isb_to (b := false) (by decide +kernel) ⟨_, hC_NoRow, kit_no sS_NoSign p_NoRow q_NoRow r_NoSign_NoRow⟩⟩
  refine ⟨PySem.W.fnOf "law" "law" (defArgs s_law) (defBody s_law) (defScope s_law) .none kV_law dc_law pm_law an_law cd_law ct_law, fun s v => .of_eq rfl, fun base _ _ => ?_⟩
  have E_is_whole := mkCal (P := l.prog) (w := w) (base := base) F_is_whole g_is_whole b_is_whole (ok_whole F_is_whole w_isinstance w_int w_bool)
  have E_is_within := mkCal (P := l.prog) (w := w) (base := base) F_is_within g_is_within b_is_within (ok_within F_is_within E_is_whole)
  have E_refuse_no_count := mkCalN (P := l.prog) (w := w) (base := base) F_refuse_no_count g_refuse_no_count b_refuse_no_count (okN_count F_refuse_no_count E_is_within TE_NoCount)
  have E_is_coder := mkCal (P := l.prog) (w := w) (base := base) F_is_coder g_is_coder b_is_coder (ok_isCoder F_is_coder E_is_whole E_is_within w_isinstance w_tuple w_len w_all h_MOST_PLACES)
  have E_refuse_no_coder := mkCalN (P := l.prog) (w := w) (base := base) F_refuse_no_coder g_refuse_no_coder b_refuse_no_coder (okN_refCoder F_refuse_no_coder E_is_coder TE_NoCoder h_MOST_PLACES)
  have E_one_longer := mkCal (P := l.prog) (w := w) (base := base) F_one_longer g_one_longer b_one_longer (ok_oneLonger F_one_longer)
  have E_next_coder := mkCal (P := l.prog) (w := w) (base := base) F_next_coder g_next_coder b_next_coder (ok_next F_next_coder E_one_longer w_len)
  have E_last_goings := mkCal (P := l.prog) (w := w) (base := base) F_last_goings g_last_goings b_last_goings (ok_last F_last_goings w_len w_enumerate)
  have E_ring_from := mkCal (P := l.prog) (w := w) (base := base) F_ring_from g_ring_from b_ring_from (ok_ringFrom F_ring_from E_last_goings)
  have E_ring := mkCalN (P := l.prog) (w := w) (base := base) F_ring g_ring b_ring (okN_ring F_ring E_refuse_no_coder E_ring_from w_range w_len)
  have E_in_round := mkCalN (P := l.prog) (w := w) (base := base) F_in_round g_in_round b_in_round (okN_inRound F_in_round E_ring)
  have E_all_come_first := mkCal (P := l.prog) (w := w) (base := base) F_all_come_first g_all_come_first b_all_come_first (ok_come F_all_come_first w_list w_all)
  have E_is_tree := mkCalN (P := l.prog) (w := w) (base := base) F_is_tree g_is_tree b_is_tree (okN_isTree F_is_tree E_refuse_no_count E_is_within E_all_come_first w_isinstance w_tuple w_len w_all h_MOST_PLACES)
  have E_coder_of := mkCalN (P := l.prog) (w := w) (base := base) F_coder_of g_coder_of b_coder_of (okN_coderOf2 F_coder_of E_is_tree TE_NoTree w_enumerate)
  have E_all_trees := mkCalN (P := l.prog) (w := w) (base := base) F_all_trees g_all_trees b_all_trees (okN_allTrees F_all_trees E_refuse_no_count E_all_come_first w_range h_MOST_PLACES_OF_ALL)
  have E_ends_ahead := mkCal (P := l.prog) (w := w) (base := base) F_ends_ahead g_ends_ahead b_ends_ahead (ok_ends F_ends_ahead w_len w_range w_zip w_sum)
  have E_sign_of := mkCalN (P := l.prog) (w := w) (base := base) F_sign_of g_sign_of b_sign_of (okN_signOf F_sign_of E_refuse_no_coder E_ends_ahead w_len w_enumerate w_tuple)
  have E_is_sign := mkCalN (P := l.prog) (w := w) (base := base) F_is_sign g_is_sign b_is_sign (okN_isSign F_is_sign E_refuse_no_count E_is_within w_isinstance w_tuple w_len w_all w_sum h_MOST_PLACES)
  have E_refuse_no_sign := mkCalN (P := l.prog) (w := w) (base := base) F_refuse_no_sign g_refuse_no_sign b_refuse_no_sign (okN_refSign F_refuse_no_sign E_is_sign TE_NoSign)
  have E_refuse_unlike := mkCalN (P := l.prog) (w := w) (base := base) F_refuse_unlike g_refuse_unlike b_refuse_unlike (okN_unlike F_refuse_unlike E_refuse_no_coder w_len TE_NotLike)
  have E_one_round := mkCalN (P := l.prog) (w := w) (base := base) F_one_round g_one_round b_one_round (okN_oneRound F_one_round E_refuse_unlike E_sign_of)
  have E_modulo_places := mkCal (P := l.prog) (w := w) (base := base) F_modulo_places g_modulo_places b_modulo_places (ok_modulo F_modulo_places w_len)
  have E_steps_between := mkCalN (P := l.prog) (w := w) (base := base) F_steps_between g_steps_between b_steps_between (okN_between F_steps_between E_refuse_unlike E_in_round E_modulo_places E_next_coder w_len w_range TE_NotRound)
  have E_tree_by := mkCalN (P := l.prog) (w := w) (base := base) F_tree_by g_tree_by b_tree_by (okN_treeBy F_tree_by E_refuse_no_count E_refuse_no_sign E_all_trees E_coder_of E_sign_of h_MOST_PLACES_OF_ALL)
  have E__law_urn := mkCal (P := l.prog) (w := w) (base := base) F__law_urn g__law_urn b__law_urn (ok_urn F__law_urn w_max)
  have E__law_pull := mkCal (P := l.prog) (w := w) (base := base) F__law_pull g__law_pull b__law_pull (ok_pull F__law_pull)
  have E__law_coder := mkCal (P := l.prog) (w := w) (base := base) F__law_coder g__law_coder b__law_coder (ok_ucoder F__law_coder E__law_pull w_range w_tuple)
  have E__law_step := mkCal (P := l.prog) (w := w) (base := base) F__law_step g__law_step b__law_step (ok_lstep F__law_step w_len w_list w_tuple)
  have E__law_goals := mkCal (P := l.prog) (w := w) (base := base) F__law_goals g__law_goals b__law_goals (ok_goals F__law_goals w_len w_range)
  have E__law_home := mkCal (P := l.prog) (w := w) (base := base) F__law_home g__law_home b__law_home (ok_home F__law_home w_len w_range)
  have E__law_in_round := mkCal (P := l.prog) (w := w) (base := base) F__law_in_round g__law_in_round b__law_in_round (ok_linRound F__law_in_round E__law_goals E__law_home E__law_step)
  have E__law_drawn_sign := mkCal (P := l.prog) (w := w) (base := base) F__law_drawn_sign g__law_drawn_sign b__law_drawn_sign (ok_dsign F__law_drawn_sign E__law_pull w_range w_tuple w_sum)
  have E__law_words := (⟨_, _, fun q hq => (by
    simp only [List.mem_cons, List.not_mem_nil, or_false] at hq
    rcases hq with rfl | rfl | rfl | rfl | rfl
    · exact ok_hwords F__law_words (by show ("NoCoder" : Str) ∈ ernL; decide +kernel) TX_NoCoder w_range
    · exact ok_hwords F__law_words (by show ("NoCount" : Str) ∈ ernL; decide +kernel) TX_NoCount w_range
    · exact ok_hwords F__law_words (by show ("NotLike" : Str) ∈ ernL; decide +kernel) TX_NotLike w_range
    · exact ok_hwords F__law_words (by show ("NotRound" : Str) ∈ ernL; decide +kernel) TX_NotRound w_range
    · exact ok_hwords F__law_words (by show ("NoSign" : Str) ∈ ernL; decide +kernel) TX_NoSign w_range), g__law_words, F__law_words.kp, b__law_words⟩ : CalE l.prog w K mg base 1 "_law_words" "e" toldW [(A_NoCoder, ("NoCoder" : Str)), (A_NoCount, "NoCount"), (A_NotLike, "NotLike"), (A_NotRound, "NotRound"), (A_NoSign, "NoSign")])
  have E__law_no_coders := mkCal (P := l.prog) (w := w) (base := base) F__law_no_coders g__law_no_coders b__law_no_coders (ok_noCoders F__law_no_coders E__law_pull w_list w_len)
  have E__law_asked := mkCal (P := l.prog) (w := w) (base := base) F__law_asked g__law_asked b__law_asked (ok_asked F__law_asked E_sign_of E_one_round E_steps_between E_is_sign E_tree_by E__law_words hC_LearnError te_NoCoder te_NoCount te_NotLike te_NotRound te_NoSign)
  have E__law_places_right := mkCal (P := l.prog) (w := w) (base := base) F__law_places_right g__law_places_right b__law_places_right (ok_places F__law_places_right E__law_pull E__law_drawn_sign E__law_asked w_list)
  exact ok_law F_law ⟨E__law_urn, E__law_coder, E__law_no_coders, E__law_in_round, E__law_asked, E__law_places_right, E_in_round, w_len, w_repr⟩
end Lk
end
open PySem PySem.W PyProof.Rows
set_option maxRecDepth 100000 in
set_option maxHeartbeats 0 in
theorem PySem.Challenge.cw_looplearn_k28_signs_refused_holds : PySem.Challenge.rw_looplearn_k28_signs_refused.Holds := by
  w_on; o_law; k_head; (case hw => w_witness2)
  k_fill
  refine Lk.walkG (l := PySem.Challenge.rw_looplearn_k28_signs_refused) (n := 63) (k := 12) (x := "script") (sp := fun w => Lk.spLaw _) rfl (by decide) rfl ⟨rfl, by decide, by decide⟩ (fun w h Y => PySem.W.kIn_of Y) ?F (fun _ _ a ns hl hS => ⟨a, ns, rfl, hS, hl, fun _ => rfl⟩)
  case F =>
    intro w mg fa h KX G hmg
    refine' Lk.all_mk KX G hmg ?a_is_whole ?l_is_whole ?c_is_whole ?k_is_whole ?a_is_within ?l_is_within ?c_is_within ?k_is_within ?a_refuse_no_count ?l_refuse_no_count ?c_refuse_no_count ?k_refuse_no_count ?a_is_coder ?l_is_coder ?c_is_coder ?k_is_coder ?a_refuse_no_coder ?l_refuse_no_coder ?c_refuse_no_coder ?k_refuse_no_coder ?a_one_longer ?l_one_longer ?c_one_longer ?k_one_longer ?a_next_coder ?l_next_coder ?c_next_coder ?k_next_coder ?a_last_goings ?l_last_goings ?c_last_goings ?k_last_goings ?a_ring_from ?l_ring_from ?c_ring_from ?k_ring_from ?a_ring ?l_ring ?c_ring ?k_ring ?a_in_round ?l_in_round ?c_in_round ?k_in_round ?a_all_come_first ?l_all_come_first ?c_all_come_first ?k_all_come_first ?a_is_tree ?l_is_tree ?c_is_tree ?k_is_tree ?a_coder_of ?l_coder_of ?c_coder_of ?k_coder_of ?a_all_trees ?l_all_trees ?c_all_trees ?k_all_trees ?a_ends_ahead ?l_ends_ahead ?c_ends_ahead ?k_ends_ahead ?a_sign_of ?l_sign_of ?c_sign_of ?k_sign_of ?a_is_sign ?l_is_sign ?c_is_sign ?k_is_sign ?a_refuse_no_sign ?l_refuse_no_sign ?c_refuse_no_sign ?k_refuse_no_sign ?a_refuse_unlike ?l_refuse_unlike ?c_refuse_unlike ?k_refuse_unlike ?a_one_round ?l_one_round ?c_one_round ?k_one_round ?a_modulo_places ?l_modulo_places ?c_modulo_places ?k_modulo_places ?a_steps_between ?l_steps_between ?c_steps_between ?k_steps_between ?a_tree_by ?l_tree_by ?c_tree_by ?k_tree_by ?a__law_urn ?l__law_urn ?c__law_urn ?k__law_urn ?a__law_pull ?l__law_pull ?c__law_pull ?k__law_pull ?a__law_coder ?l__law_coder ?c__law_coder ?k__law_coder ?a__law_step ?l__law_step ?c__law_step ?k__law_step ?a__law_goals ?l__law_goals ?c__law_goals ?k__law_goals ?a__law_home ?l__law_home ?c__law_home ?k__law_home ?a__law_in_round ?l__law_in_round ?c__law_in_round ?k__law_in_round ?a__law_drawn_sign ?l__law_drawn_sign ?c__law_drawn_sign ?k__law_drawn_sign ?a__law_words ?l__law_words ?c__law_words ?k__law_words ?a__law_no_coders ?l__law_no_coders ?c__law_no_coders ?k__law_no_coders ?a__law_asked ?l__law_asked ?c__law_asked ?k__law_asked ?a__law_places_right ?l__law_places_right ?c__law_places_right ?k__law_places_right ?a_law ?l_law ?c_law ?k_law ?z_isinstance ?z_int ?z_bool ?z_tuple ?z_len ?z_all ?z_enumerate ?z_range ?z_list ?z_zip ?z_sum ?z_max ?z_repr ?z_ValueError ?m_MOST_PLACES ?m_MOST_PLACES_OF_ALL ?gC_LearnError ?gC_NoCoder ?gC_NoCount ?gC_NoCounts ?gC_NoKnown ?gC_NoLog ?gC_NoLoop ?gC_NoPairs ?gC_NoPlace ?gC_NoRow ?gC_NoSign ?gC_NoText ?gC_NoTree ?gC_NoWord ?gC_NotLike ?gC_NotRound ?gC_Nothing ?kC_NoCoder ?xC_NoCoder ?kC_NoCount ?xC_NoCount ?kC_NotLike ?xC_NotLike ?kC_NotRound ?xC_NotRound ?kC_NoSign ?xC_NoSign ?kC_NoTree ?xC_NoTree ?bC_NoCoder ?tC_NoCoder ?bC_NoCount ?tC_NoCount ?bC_NoSign ?tC_NoSign ?bC_NoTree ?tC_NoTree ?bC_NotLike ?tC_NotLike ?bC_NotRound ?tC_NotRound ?bE ?dE ?tE ?p_NoKnown ?q_NoKnown ?p_NoText ?q_NoText ?p_NoPairs ?q_NoPairs ?p_NoLoop ?q_NoLoop ?p_NoCoder ?q_NoCoder ?p_NoCount ?q_NoCount ?p_NotRound ?q_NotRound ?p_NoCounts ?q_NoCounts ?p_NoLog ?q_NoLog ?p_NoPlace ?q_NoPlace ?p_NoRow ?q_NoRow ?p_NoSign ?q_NoSign ?p_NoTree ?q_NoTree ?p_NoWord ?q_NoWord ?p_NotLike ?q_NotLike ?p_Nothing ?q_Nothing ?sE_NoCoder ?xg_NoCoder ?xk_NoCoder ?xd_NoCoder ?xa_NoCoder ?xm_NoCoder ?ve_NoCoder ?sS_NoCoder ?r_NoCoder_NoKnown ?r_NoCoder_NoText ?r_NoCoder_NoPairs ?r_NoCoder_NoLoop ?r_NoCoder_NoCount ?r_NoCoder_NotRound ?r_NoCoder_NoCounts ?r_NoCoder_NoLog ?r_NoCoder_NoPlace ?r_NoCoder_NoRow ?r_NoCoder_NoSign ?r_NoCoder_NoTree ?r_NoCoder_NoWord ?r_NoCoder_NotLike ?r_NoCoder_Nothing ?sE_NoCount ?xg_NoCount ?xk_NoCount ?xd_NoCount ?xa_NoCount ?xm_NoCount ?ve_NoCount ?sS_NoCount ?r_NoCount_NoKnown ?r_NoCount_NoText ?r_NoCount_NoPairs ?r_NoCount_NoLoop ?r_NoCount_NoCoder ?r_NoCount_NotRound ?r_NoCount_NoCounts ?r_NoCount_NoLog ?r_NoCount_NoPlace ?r_NoCount_NoRow ?r_NoCount_NoSign ?r_NoCount_NoTree ?r_NoCount_NoWord ?r_NoCount_NotLike ?r_NoCount_Nothing ?sE_NotLike ?xg_NotLike ?xk_NotLike ?xd_NotLike ?xa_NotLike ?xm_NotLike ?ve_NotLike ?sS_NotLike ?r_NotLike_NoKnown ?r_NotLike_NoText ?r_NotLike_NoPairs ?r_NotLike_NoLoop ?r_NotLike_NoCoder ?r_NotLike_NoCount ?r_NotLike_NotRound ?r_NotLike_NoCounts ?r_NotLike_NoLog ?r_NotLike_NoPlace ?r_NotLike_NoRow ?r_NotLike_NoSign ?r_NotLike_NoTree ?r_NotLike_NoWord ?r_NotLike_Nothing ?sE_NotRound ?xg_NotRound ?xk_NotRound ?xd_NotRound ?xa_NotRound ?xm_NotRound ?ve_NotRound ?sS_NotRound ?r_NotRound_NoKnown ?r_NotRound_NoText ?r_NotRound_NoPairs ?r_NotRound_NoLoop ?r_NotRound_NoCoder ?r_NotRound_NoCount ?r_NotRound_NoCounts ?r_NotRound_NoLog ?r_NotRound_NoPlace ?r_NotRound_NoRow ?r_NotRound_NoSign ?r_NotRound_NoTree ?r_NotRound_NoWord ?r_NotRound_NotLike ?r_NotRound_Nothing ?sE_NoSign ?xg_NoSign ?xk_NoSign ?xd_NoSign ?xa_NoSign ?xm_NoSign ?ve_NoSign ?sS_NoSign ?r_NoSign_NoKnown ?r_NoSign_NoText ?r_NoSign_NoPairs ?r_NoSign_NoLoop ?r_NoSign_NoCoder ?r_NoSign_NoCount ?r_NoSign_NotRound ?r_NoSign_NoCounts ?r_NoSign_NoLog ?r_NoSign_NoPlace ?r_NoSign_NoRow ?r_NoSign_NoTree ?r_NoSign_NoWord ?r_NoSign_NotLike ?r_NoSign_Nothing ?xn ?xt
    (case a_is_whole => k_is)
    (case l_is_whole => k_is)
    (case c_is_whole => k_is)
    (case k_is_whole => k_is)
    (case a_is_within => k_is)
    (case l_is_within => k_is)
    (case c_is_within => k_is)
    (case k_is_within => k_is)
    (case a_refuse_no_count => k_is)
    (case l_refuse_no_count => k_is)
    (case c_refuse_no_count => k_is)
    (case k_refuse_no_count => k_is)
    (case a_is_coder => k_is)
    (case l_is_coder => k_is)
    (case c_is_coder => k_is)
    (case k_is_coder => k_is)
    (case a_refuse_no_coder => k_is)
    (case l_refuse_no_coder => k_is)
    (case c_refuse_no_coder => k_is)
    (case k_refuse_no_coder => k_is)
    (case a_one_longer => k_is)
    (case l_one_longer => k_is)
    (case c_one_longer => k_is)
    (case k_one_longer => k_is)
    (case a_next_coder => k_is)
    (case l_next_coder => k_is)
    (case c_next_coder => k_is)
    (case k_next_coder => k_is)
    (case a_last_goings => k_is)
    (case l_last_goings => k_is)
    (case c_last_goings => k_is)
    (case k_last_goings => k_is)
    (case a_ring_from => k_is)
    (case l_ring_from => k_is)
    (case c_ring_from => k_is)
    (case k_ring_from => k_is)
    (case a_ring => k_is)
    (case l_ring => k_is)
    (case c_ring => k_is)
    (case k_ring => k_is)
    (case a_in_round => k_is)
    (case l_in_round => k_is)
    (case c_in_round => k_is)
    (case k_in_round => k_is)
    (case a_all_come_first => k_is)
    (case l_all_come_first => k_is)
    (case c_all_come_first => k_is)
    (case k_all_come_first => k_is)
    (case a_is_tree => k_is)
    (case l_is_tree => k_is)
    (case c_is_tree => k_is)
    (case k_is_tree => k_is)
    (case a_coder_of => k_is)
    (case l_coder_of => k_is)
    (case c_coder_of => k_is)
    (case k_coder_of => k_is)
    (case a_all_trees => k_is)
    (case l_all_trees => k_is)
    (case c_all_trees => k_is)
    (case k_all_trees => k_is)
    (case a_ends_ahead => k_is)
    (case l_ends_ahead => k_is)
    (case c_ends_ahead => k_is)
    (case k_ends_ahead => k_is)
    (case a_sign_of => k_is)
    (case l_sign_of => k_is)
    (case c_sign_of => k_is)
    (case k_sign_of => k_is)
    (case a_is_sign => k_is)
    (case l_is_sign => k_is)
    (case c_is_sign => k_is)
    (case k_is_sign => k_is)
    (case a_refuse_no_sign => k_is)
    (case l_refuse_no_sign => k_is)
    (case c_refuse_no_sign => k_is)
    (case k_refuse_no_sign => k_is)
    (case a_refuse_unlike => k_is)
    (case l_refuse_unlike => k_is)
    (case c_refuse_unlike => k_is)
    (case k_refuse_unlike => k_is)
    (case a_one_round => k_is)
    (case l_one_round => k_is)
    (case c_one_round => k_is)
    (case k_one_round => k_is)
    (case a_modulo_places => k_is)
    (case l_modulo_places => k_is)
    (case c_modulo_places => k_is)
    (case k_modulo_places => k_is)
    (case a_steps_between => k_is)
    (case l_steps_between => k_is)
    (case c_steps_between => k_is)
    (case k_steps_between => k_is)
    (case a_tree_by => k_is)
    (case l_tree_by => k_is)
    (case c_tree_by => k_is)
    (case k_tree_by => k_is)
    (case a__law_urn => k_is)
    (case l__law_urn => k_is)
    (case c__law_urn => k_is)
    (case k__law_urn => k_is)
    (case a__law_pull => k_is)
    (case l__law_pull => k_is)
    (case c__law_pull => k_is)
    (case k__law_pull => k_is)
    (case a__law_coder => k_is)
    (case l__law_coder => k_is)
    (case c__law_coder => k_is)
    (case k__law_coder => k_is)
    (case a__law_step => k_is)
    (case l__law_step => k_is)
    (case c__law_step => k_is)
    (case k__law_step => k_is)
    (case a__law_goals => k_is)
    (case l__law_goals => k_is)
    (case c__law_goals => k_is)
    (case k__law_goals => k_is)
    (case a__law_home => k_is)
    (case l__law_home => k_is)
    (case c__law_home => k_is)
    (case k__law_home => k_is)
    (case a__law_in_round => k_is)
    (case l__law_in_round => k_is)
    (case c__law_in_round => k_is)
    (case k__law_in_round => k_is)
    (case a__law_drawn_sign => k_is)
    (case l__law_drawn_sign => k_is)
    (case c__law_drawn_sign => k_is)
    (case k__law_drawn_sign => k_is)
    (case a__law_words => k_is)
    (case l__law_words => k_is)
    (case c__law_words => k_is)
    (case k__law_words => k_is)
    (case a__law_no_coders => k_is)
    (case l__law_no_coders => k_is)
    (case c__law_no_coders => k_is)
    (case k__law_no_coders => k_is)
    (case a__law_asked => k_is)
    (case l__law_asked => k_is)
    (case c__law_asked => k_is)
    (case k__law_asked => k_is)
    (case a__law_places_right => k_is)
    (case l__law_places_right => k_is)
    (case c__law_places_right => k_is)
    (case k__law_places_right => k_is)
    (case a_law => k_is)
    (case l_law => k_is)
    (case c_law => k_is)
    (case k_law => k_is)
    (case z_isinstance => k_is)
    (case z_int => k_is)
    (case z_bool => k_is)
    (case z_tuple => k_is)
    (case z_len => k_is)
    (case z_all => k_is)
    (case z_enumerate => k_is)
    (case z_range => k_is)
    (case z_list => k_is)
    (case z_zip => k_is)
    (case z_sum => k_is)
    (case z_max => k_is)
    (case z_repr => k_is)
    (case z_ValueError => k_is)
    (case m_MOST_PLACES => k_is)
    (case m_MOST_PLACES_OF_ALL => k_is)
    (case gC_LearnError => k_is)
    (case gC_NoCoder => k_is)
    (case gC_NoCount => k_is)
    (case gC_NoCounts => k_is)
    (case gC_NoKnown => k_is)
    (case gC_NoLog => k_is)
    (case gC_NoLoop => k_is)
    (case gC_NoPairs => k_is)
    (case gC_NoPlace => k_is)
    (case gC_NoRow => k_is)
    (case gC_NoSign => k_is)
    (case gC_NoText => k_is)
    (case gC_NoTree => k_is)
    (case gC_NoWord => k_is)
    (case gC_NotLike => k_is)
    (case gC_NotRound => k_is)
    (case gC_Nothing => k_is)
    (case kC_NoCoder => k_is)
    (case xC_NoCoder => k_exc)
    (case kC_NoCount => k_is)
    (case xC_NoCount => k_exc)
    (case kC_NotLike => k_is)
    (case xC_NotLike => k_exc)
    (case kC_NotRound => k_is)
    (case xC_NotRound => k_exc)
    (case kC_NoSign => k_is)
    (case xC_NoSign => k_exc)
    (case kC_NoTree => k_is)
    (case xC_NoTree => k_exc)
    (case bC_NoCoder => k_is)
    (case tC_NoCoder => k_is)
    (case bC_NoCount => k_is)
    (case tC_NoCount => k_is)
    (case bC_NoSign => k_is)
    (case tC_NoSign => k_is)
    (case bC_NoTree => k_is)
    (case tC_NoTree => k_is)
    (case bC_NotLike => k_is)
    (case tC_NotLike => k_is)
    (case bC_NotRound => k_is)
    (case tC_NotRound => k_is)
    (case bE => k_is)
    (case dE => k_is)
    (case tE => k_is)
    (case p_NoKnown => k_is)
    (case q_NoKnown => k_is)
    (case p_NoText => k_is)
    (case q_NoText => k_is)
    (case p_NoPairs => k_is)
    (case q_NoPairs => k_is)
    (case p_NoLoop => k_is)
    (case q_NoLoop => k_is)
    (case p_NoCoder => k_is)
    (case q_NoCoder => k_is)
    (case p_NoCount => k_is)
    (case q_NoCount => k_is)
    (case p_NotRound => k_is)
    (case q_NotRound => k_is)
    (case p_NoCounts => k_is)
    (case q_NoCounts => k_is)
    (case p_NoLog => k_is)
    (case q_NoLog => k_is)
    (case p_NoPlace => k_is)
    (case q_NoPlace => k_is)
    (case p_NoRow => k_is)
    (case q_NoRow => k_is)
    (case p_NoSign => k_is)
    (case q_NoSign => k_is)
    (case p_NoTree => k_is)
    (case q_NoTree => k_is)
    (case p_NoWord => k_is)
    (case q_NoWord => k_is)
    (case p_NotLike => k_is)
    (case q_NotLike => k_is)
    (case p_Nothing => k_is)
    (case q_Nothing => k_is)
    (case sE_NoCoder => k_is)
    (case xg_NoCoder => k_is)
    (case xk_NoCoder => k_is)
    (case xd_NoCoder => k_is)
    (case xa_NoCoder => k_is)
    (case xm_NoCoder => k_is)
    (case ve_NoCoder => k_is)
    (case sS_NoCoder => first | rfl | k_is)
    (case r_NoCoder_NoKnown => k_is)
    (case r_NoCoder_NoText => k_is)
    (case r_NoCoder_NoPairs => k_is)
    (case r_NoCoder_NoLoop => k_is)
    (case r_NoCoder_NoCount => k_is)
    (case r_NoCoder_NotRound => k_is)
    (case r_NoCoder_NoCounts => k_is)
    (case r_NoCoder_NoLog => k_is)
    (case r_NoCoder_NoPlace => k_is)
    (case r_NoCoder_NoRow => k_is)
    (case r_NoCoder_NoSign => k_is)
    (case r_NoCoder_NoTree => k_is)
    (case r_NoCoder_NoWord => k_is)
    (case r_NoCoder_NotLike => k_is)
    (case r_NoCoder_Nothing => k_is)
    (case sE_NoCount => k_is)
    (case xg_NoCount => k_is)
    (case xk_NoCount => k_is)
    (case xd_NoCount => k_is)
    (case xa_NoCount => k_is)
    (case xm_NoCount => k_is)
    (case ve_NoCount => k_is)
    (case sS_NoCount => first | rfl | k_is)
    (case r_NoCount_NoKnown => k_is)
    (case r_NoCount_NoText => k_is)
    (case r_NoCount_NoPairs => k_is)
    (case r_NoCount_NoLoop => k_is)
    (case r_NoCount_NoCoder => k_is)
    (case r_NoCount_NotRound => k_is)
    (case r_NoCount_NoCounts => k_is)
    (case r_NoCount_NoLog => k_is)
    (case r_NoCount_NoPlace => k_is)
    (case r_NoCount_NoRow => k_is)
    (case r_NoCount_NoSign => k_is)
    (case r_NoCount_NoTree => k_is)
    (case r_NoCount_NoWord => k_is)
    (case r_NoCount_NotLike => k_is)
    (case r_NoCount_Nothing => k_is)
    (case sE_NotLike => k_is)
    (case xg_NotLike => k_is)
    (case xk_NotLike => k_is)
    (case xd_NotLike => k_is)
    (case xa_NotLike => k_is)
    (case xm_NotLike => k_is)
    (case ve_NotLike => k_is)
    (case sS_NotLike => first | rfl | k_is)
    (case r_NotLike_NoKnown => k_is)
    (case r_NotLike_NoText => k_is)
    (case r_NotLike_NoPairs => k_is)
    (case r_NotLike_NoLoop => k_is)
    (case r_NotLike_NoCoder => k_is)
    (case r_NotLike_NoCount => k_is)
    (case r_NotLike_NotRound => k_is)
    (case r_NotLike_NoCounts => k_is)
    (case r_NotLike_NoLog => k_is)
    (case r_NotLike_NoPlace => k_is)
    (case r_NotLike_NoRow => k_is)
    (case r_NotLike_NoSign => k_is)
    (case r_NotLike_NoTree => k_is)
    (case r_NotLike_NoWord => k_is)
    (case r_NotLike_Nothing => k_is)
    (case sE_NotRound => k_is)
    (case xg_NotRound => k_is)
    (case xk_NotRound => k_is)
    (case xd_NotRound => k_is)
    (case xa_NotRound => k_is)
    (case xm_NotRound => k_is)
    (case ve_NotRound => k_is)
    (case sS_NotRound => first | rfl | k_is)
    (case r_NotRound_NoKnown => k_is)
    (case r_NotRound_NoText => k_is)
    (case r_NotRound_NoPairs => k_is)
    (case r_NotRound_NoLoop => k_is)
    (case r_NotRound_NoCoder => k_is)
    (case r_NotRound_NoCount => k_is)
    (case r_NotRound_NoCounts => k_is)
    (case r_NotRound_NoLog => k_is)
    (case r_NotRound_NoPlace => k_is)
    (case r_NotRound_NoRow => k_is)
    (case r_NotRound_NoSign => k_is)
    (case r_NotRound_NoTree => k_is)
    (case r_NotRound_NoWord => k_is)
    (case r_NotRound_NotLike => k_is)
    (case r_NotRound_Nothing => k_is)
    (case sE_NoSign => k_is)
    (case xg_NoSign => k_is)
    (case xk_NoSign => k_is)
    (case xd_NoSign => k_is)
    (case xa_NoSign => k_is)
    (case xm_NoSign => k_is)
    (case ve_NoSign => k_is)
    (case sS_NoSign => first | rfl | k_is)
    (case r_NoSign_NoKnown => k_is)
    (case r_NoSign_NoText => k_is)
    (case r_NoSign_NoPairs => k_is)
    (case r_NoSign_NoLoop => k_is)
    (case r_NoSign_NoCoder => k_is)
    (case r_NoSign_NoCount => k_is)
    (case r_NoSign_NotRound => k_is)
    (case r_NoSign_NoCounts => k_is)
    (case r_NoSign_NoLog => k_is)
    (case r_NoSign_NoPlace => k_is)
    (case r_NoSign_NoRow => k_is)
    (case r_NoSign_NoTree => k_is)
    (case r_NoSign_NoWord => k_is)
    (case r_NoSign_NotLike => k_is)
    (case r_NoSign_Nothing => k_is)
    (case xn => k_is)
    (case xt => k_is)
