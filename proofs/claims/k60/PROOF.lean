import PyProof.Rows.All
import Wide.All
import OpenK.AllK
import Wide.FinOn
import HandS.ForMost
import HandS.Exc
import HandS.ExcValue
import PyProof.ReprRoads
import PyProof.ReprReads
import HandS.Codes
import HandS.Walk
import KE.GoesEnum
import HandS.Star
import HandS.TupAny
import HandS.IsInst
import HandS.FStr
import HandS.RaiseMore
import HandS.TryOnly
import HandS.ExcOwn
import HandS.WordsExc
import HandS.Flow
import HandS.More
import HandS.ExcIs
import HandS.Deep
import HandS.TupMul
import HandS.SetFor
import HandS.Wide
import KE.IntTextText
import PyProof.FitsInt
import HandS.Zip
import HandS.Set
import HandS.SetTxt0
import HandS.Conv
import KE.GoesEnumKw
import PyProof.Rows.CallKwBuiltin
import PyProof.WalkInts
import PyProof.WalksMore
import HandS.Text
import HandS.HotCalls
import PyProof.Rows.SortShellAny
import PyProof.StrLawsRepr
import PyProof.Seq
import PyProof.Rows.TupIter
import HandS.List
import HandS.Style
import PySem.Challenge.RW_looplearn_k60_texts_of_no_coder
set_option Elab.async false
set_option linter.all false
section
set_option maxRecDepth 100000
set_option maxHeartbeats 2000000
/-! repr of lists and tuples at any depth, where nothing is guarded; defs that are called so. -/
namespace Lk
open PySem PySem.Spec PyProof.Rows L2
mutual
/-- as Dp, and a dict with nothing in it -/
inductive Dq (K : PySem.W.Frag) (H : Hp) : V → PyData → Prop
  | non : Dq K H .non .none
  | bl (b : Bool) : Dq K H (.bl b) (.bool b)
  | int (i : Int) : Dq K H (.int i) (.int i)
  | str (x : Str) : Dq K H (.str x) (.str x)
  | lst {a : Addr} {xs : List V} {ds : List PyData} (h : SqL K H a xs) (m : DqAll K H xs ds) : Dq K H (.ref a) (.list ds)
  | tup {a : Addr} {xs : List V} {ds : List PyData} (h : SqT K H a xs) (m : DqAll K H xs ds) : Dq K H (.ref a) (.tuple ds)
  | dct {a : Addr} (h : H a = some (.dK [])) : Dq K H (.ref a) (.dict [])
inductive DqAll (K : PySem.W.Frag) (H : Hp) : List V → List PyData → Prop
  | nil : DqAll K H [] []
  | cons {v : V} {vs : List V} {d : PyData} {ds : List PyData} (h : Dq K H v d) (m : DqAll K H vs ds) : DqAll K H (v :: vs) (d :: ds)
end
section
variable {X : Cx} {pins : List (Addr × Obj)} {σ : L2.St} {H : Hp} {s : Shared}
/-- what is read of data so told, and that it is shown -/
def Sh (X : Cx) (s : Shared) (u : Value) (d : PyData) : Prop :=
  ∃ as bs, PySem.Reads s.heap u d as ∧ ReadAtMost s.heap d.depth bs ∧ ReprK X.prog X.w bs s.heap d.depth u d.shown
def ShAll (X : Cx) (s : Shared) (us : List Value) (ds : List PyData) : Prop :=
  ∃ as bs, PySem.ReadsAll s.heap us ds as ∧ ReadAtMost s.heap (PyData.depthAll ds) bs ∧ ReprAllK X.prog X.w bs s.heap (PyData.depthAll ds) us (PyData.shownAll ds)
theorem sh_flat {u : Value} {d : PyData} {as : List Addr} (r : PySem.Reads s.heap u d as) (h : d.showable = true) (n : d.hasDict = false) (z : d.shown.length ≤ sizeLine) : Sh X s u d := by
  obtain ⟨bs, h1, h2⟩ := ReprK.of_reads (prog := X.prog) (w := X.w) r h (PyData.noDict_hsm n) z
  exact ⟨as, bs, r, h1, h2⟩
mutual
theorem Dq.shows (I : Inv X pins σ H s) : ∀ (d : PyData) (v : V) (u : Value), Dq X.K H v d → RelV v u → d.showable = true → d.shown.length ≤ sizeLine → Sh X s u d
  | .none, _, _, h, r, hs, z => by
    cases h
    cases r
    exact sh_flat .none hs (by simp only [PyData.hasDict]) z
  | .bool b, _, _, h, r, hs, z => by
    cases h
    cases r
    exact sh_flat (.bool b) hs (by simp only [PyData.hasDict]) z
  | .int i, _, _, h, r, hs, z => by
    cases h
    obtain ⟨t, rfl⟩ := r
    exact sh_flat (.int i t) hs (by simp only [PyData.hasDict]) z
  | .str x, _, _, h, r, hs, z => by
    cases h
    obtain ⟨t, rfl⟩ := r
    exact sh_flat (.str x t) hs (by simp only [PyData.hasDict]) z
  | .list ds, _, _, h, r, hs, z => by
    cases h with
    | lst hq m =>
      rename_i a xs
      cases r
      obtain ⟨its, rv, ⟨o, n, ho, hc, _, hd⟩, _⟩ := I.list hq
      have z2 : (listText (PyData.shownAll ds)).length ≤ sizeLine := by simpa only [PyData.shown] using z
      obtain ⟨as, bs, r2, hb, hk⟩ := DqAll.shows I ds xs its m rv (by simpa [PyData.showable] using hs) fun t ht => Nat.le_trans (listText_mem_le ht) z2
      have r3 : PySem.Reads s.heap (.ref a) (.list ds) (a :: as) := .list ho hc hd r2
      have out : a ∉ bs := not_mem_of_deeper (n := PyData.depthAll ds) r3 (by simp only [PyData.depth]; omega) hb
      refine ⟨_, a :: bs, r3, .cons r3 (n := PyData.depthAll ds) (by simp only [PyData.depth]; omega) hb, ?_⟩
      simp only [PyData.depth, PyData.shown]
      cases its with
      | nil =>
        cases r2
        simp only [PyData.shownAll, listText_nil]
        exact ReprK.listEmpty ho hc hd
      | cons y ys => exact ReprK.list ho hc hd out (by simpa using hk.length_eq) fun i y e => hk.item i y (by simpa using e)
  | .tuple ds, _, _, h, r, hs, z => by
    cases h with
    | tup hq m =>
      rename_i a xs
      cases r
      obtain ⟨its, rv, ⟨o, ho, hc, n, hd⟩, _⟩ := I.tuple hq
      have z2 : (tupleText (PyData.shownAll ds)).length ≤ sizeLine := by simpa only [PyData.shown] using z
      obtain ⟨as, bs, r2, hb, hk⟩ := DqAll.shows I ds xs its m rv (by simpa [PyData.showable] using hs) fun t ht => Nat.le_trans (tupleText_mem_le ht) z2
      have r3 : PySem.Reads s.heap (.ref a) (.tuple ds) as := .tuple ho hc hd r2
      have out : a ∉ bs := not_mem_of_deeper (n := PyData.depthAll ds) r3 (by simp only [PyData.depth]; omega) hb
      refine ⟨_, a :: bs, r3, .cons r3 (n := PyData.depthAll ds) (by simp only [PyData.depth]; omega) hb, ?_⟩
      simp only [PyData.depth, PyData.shown]
      exact ReprK.tuple ho hc hd out hk
  | .dict kvs, _, _, h, r, hs, z => by
    cases h with
    | dct hq =>
      rename_i a
      cases r
      obtain ⟨_, far, vs, kv, o, es, ep, ho, ex, hd, _, hp, _⟩ := dk_of I.hok hq
      cases kv
      have e0 : es.toList = [] := List.eq_nil_of_length_eq_zero (by rw [hp.length]; rfl)
      obtain ⟨el⟩ := es
      dsimp only at e0
      subst e0
      have r3 : PySem.Reads s.heap (.ref a) (.dict []) [a] := .dict (as := []) (bs := []) ho ex.1 hd .nil .nil
      refine ⟨_, [a], r3, .cons r3 (n := 0) (Nat.zero_le _) (fun _ q => nomatch q), ?_⟩
      have q := ReprK.dict (prog := X.prog) (w := X.w) (as := []) (d := PyData.depthKv []) ho ex.1 hd far (fun q => nomatch q) .nil
      simpa only [PyData.depth, PyData.shown, PyData.shownKv] using q
theorem DqAll.shows (I : Inv X pins σ H s) : ∀ (ds : List PyData) (vs : List V) (us : List Value), DqAll X.K H vs ds → Vals vs us → PyData.showableAll ds = true → (∀ t ∈ PyData.shownAll ds, t.length ≤ sizeLine) → ShAll X s us ds
  | [], _, _, h, r, _, _ => by
    cases h
    cases r
    exact ⟨[], [], .nil, (fun _ q => nomatch q), .nil⟩
  | d :: ds, _, _, h, r, hs, z => by
    cases h with
    | cons h1 h2 =>
      cases r with
      | cons r1 r2 =>
        have hs2 : d.showable = true ∧ PyData.showableAll ds = true := by simpa [PyData.showableAll] using hs
        obtain ⟨as1, bs1, p1, q1, k1⟩ := Dq.shows I d _ _ h1 r1 hs2.1 (z _ (by simp only [PyData.shownAll]; exact List.mem_cons_self))
        obtain ⟨as2, bs2, p2, q2, k2⟩ := DqAll.shows I ds _ _ h2 r2 hs2.2 fun t ht => z t (by simp only [PyData.shownAll]; exact List.mem_cons_of_mem _ ht)
        refine ⟨_, bs1 ++ bs2, .cons p1 p2, ?_, ?_⟩
        · simp only [PyData.depthAll]
          exact (q1.mono (Nat.le_max_left _ _)).append (q2.mono (Nat.le_max_right _ _))
        · simp only [PyData.depthAll, PyData.shownAll]
          exact .cons ((k1.more fun b hb => List.mem_append_left _ hb).level_le (Nat.le_max_left _ _)) (k2.more_le (fun b hb => List.mem_append_right bs1 hb) (Nat.le_max_right _ _))
end
/-- repr of data, where nothing is guarded -/
def rRep (K : PySem.W.Frag) : List V → Hp → VK → Prop := fun xs H Q => ∃ v d, xs = [v] ∧ Dq K H v d ∧ (∀ kvs, d ≠ .dict kvs) ∧ d.showable = true ∧ d.depth ≤ 64 ∧ d.shown.length ≤ sizeLine ∧ Q (.str d.shown) H
theorem call_rep (hg : X.A.guards = some []) (hu : X.A.units + 100 < cLine) : CallR X (.builtin "repr") (rRep X.K) := by
  intro pins s σ H xs us Q I ru h
  obtain ⟨v, d, rfl, hd, nd, hs, dp, z, q⟩ := h
  obtain ⟨u, rfl, r⟩ := vals1 ru
  clear ru
  cases hd with
  | non =>
    cases r
    simp only [PyData.shown] at q
    exact PySem.P.repr_of_none ⟨.str _, H, I.tok _, ⟨_, rfl⟩, q⟩
  | bl b =>
    cases r
    simp only [PyData.shown] at q
    exact PySem.P.repr_of_bool ⟨.str _, H, I.tok _, ⟨_, rfl⟩, q⟩
  | int i =>
    obtain ⟨t, rfl⟩ := r
    simp only [PyData.shown] at q
    exact PySem.P.repr_of_int (by simpa [PyData.showable] using hs) ⟨.str _, H, I.tok _, ⟨_, rfl⟩, q⟩
  | str x =>
    obtain ⟨t, rfl⟩ := r
    simp only [PyData.shown] at q z
    exact PySem.P.repr_of_str ⟨.str _, H, I.tok _, ⟨_, rfl⟩, q⟩ z
  | dct e => exact absurd rfl (nd [])
  | lst hq m =>
    rename_i a xs ds
    cases r
    obtain ⟨its, rv, ⟨o, n, ho, hc, _, hd⟩, _⟩ := I.list hq
    simp only [PyData.shown, PyData.depth] at q z dp
    obtain ⟨as, bs, r2, hb, hk⟩ := DqAll.shows I ds xs its m rv (by simpa [PyData.showable] using hs) fun t ht => Nat.le_trans (listText_mem_le ht) z
    have out : a ∉ bs := not_mem_of_deeper (n := PyData.depthAll ds) (PySem.Reads.list ho hc hd r2) (by simp only [PyData.depth]; omega) hb
    have ty : s.TypeIs (.ref a) "list" := ⟨o, ho, hc⟩
    refine call_repr_slot (by omega) ty PySem.F.slot_list_repr.toG ?_
    cases its with
    | nil =>
      cases r2
      simp only [PyData.shownAll, listText_nil] at q
      exact call_list_repr_empty ty ho hd ⟨_, _, rfl, ⟨.str _, H, I.tok _, ⟨_, rfl⟩, q⟩⟩
    | cons y ys =>
      refine call_list_reprK ho hc hd out (by simpa using hk.length_eq) (fun i y e => hk.item i y (by simpa using e)) hg (fun b _ => Clear.nil b) (by show X.A.units + 1 + _ < cLine; omega) (fun _ _ e => e) (fun h2 u tk k => ?_) z
      exact ⟨_, _, rfl, ⟨.str _, H, I.kept k, ⟨_, rfl⟩, q⟩⟩
  | tup hq m =>
    rename_i a xs ds
    cases r
    obtain ⟨its, rv, ⟨o, ho, hc, n, hd⟩, _⟩ := I.tuple hq
    simp only [PyData.shown, PyData.depth] at q z dp
    obtain ⟨as, bs, r2, hb, hk⟩ := DqAll.shows I ds xs its m rv (by simpa [PyData.showable] using hs) fun t ht => Nat.le_trans (tupleText_mem_le ht) z
    have out : a ∉ bs := not_mem_of_deeper (n := PyData.depthAll ds) (PySem.Reads.tuple ho hc hd r2) (by simp only [PyData.depth]; omega) hb
    have ty : s.TypeIs (.ref a) "tuple" := ⟨o, ho, hc⟩
    refine call_repr_slot (by omega) ty PySem.F.slot_tuple_repr ?_
    refine call_tuple_reprK ho hc hd out hk hg (fun b _ => Clear.nil b) (by show X.A.units + 1 + _ < cLine; omega) (fun _ _ e => e) (fun h2 u tk k => ?_) z
    exact ⟨_, _, rfl, ⟨.str _, H, I.kept k, ⟨_, rfl⟩, q⟩⟩
end
end Lk
end
section
set_option maxRecDepth 100000
set_option maxHeartbeats 2000000
/-! Defs that are called where nothing is guarded. -/
namespace Lk
open PySem PySem.Spec PyProof.Rows L2
structure FnG (P : Program) (w : World) (K : PySem.W.Frag) (mg : Str → Option Value) (base : Heap) (T : CXT) (k : Nat) (f : Addr) (fd : FuncData) (ps : List Str) (sp : Sp) : Prop where
  many : ∀ {vs H Q E}, sp vs H Q E → vs.length = ps.length
  go : ∀ {A : Around} {outer : List Env} {s : Shared} {H : Hp} {args : Args} {us : List Value} {vs : List V} {Q : VK} {E : XK}, A.guards = some [] → Room k A → Env0 P w K mg base A outer s H →
    BindsTo s fd args (ps.zip us) → Vals vs us → sp vs H Q E → codeAny (model P w) A (.call (.ref f) args) (CR T outer P w H s Q E) s
section
variable {P : Program} {w : World} {K : PySem.W.Frag} {mg : Str → Option Value} {base : Heap}
theorem fnG {x qual : Str} {st : Stmt} {f : Addr} {fd : FuncData} {N ps : List Str} {k : Nat} {sp : Sp} (F : Fun K x qual st f fd) (S : FnScope N ps (defScope st)) (many : ∀ {vs H Q E}, sp vs H Q E → vs.length = ps.length)
    (body : ∀ (cdv : Value) (A : Around) (outer : List Env) (s : Shared) (H : Hp) (vs : List V) (Q : VK) (E : XK), (A.deeper (envOfC qual (defScope st) s.heap.objs.size f cdv)).guards = some [] →
      Room k (A.deeper (envOfC qual (defScope st) s.heap.objs.size f cdv)) → sp vs H Q E →
      ∃ t, PSs (cxOf CX0 P w K mg base N qual (defScope st) f cdv A outer s H E).nox (defBody st) t ∧ t { nx := fun _ H2 => Q .non H2, rt := Q } (start N vs) H) : FnG P w K mg base CX0 (k + 1) f fd ps sp := by
  obtain ⟨oc, od, kV, doc, pm, an, cdv, ct, osl, rfl, lk, code⟩ := F.ex
  refine ⟨many, fun {A outer s H args us vs Q E} gA hr e0 hb r h => ?_⟩
  have len := many h
  have inK : K.In s.heap := e0.mod.kin.keeps fun b o q => (e0.bs b o q).1
  have free : s.heap.NoLimit := e0.mod.nolimit.keeps fun b o q => (e0.bs b o q).1
  refine codeAny_call_function hr.depth (inK _ _ lk) rfl S.co S.gen rfl (PySem.W.codeRec_of inK code) (hb _ _ _ _ (wpAny_newFunctionEnv_cells S.kind (fun ⟨n, v⟩ hy => ?_) fun env he s1 x1 => ?_))
  · exact (S.par n (List.of_mem_zip hy).1).imp id fun q => ⟨q, PySem.W.cellsFrom_some _ _ _ (.inl q)⟩
  · subst he
    obtain ⟨t, ht, q⟩ := body cdv A outer s H vs Q E gA (hr.deeper _) h
    have I0 : Inv (cxOf CX0 P w K mg base N qual (defScope st) f cdv A outer s H E) [] (start N vs) H s1 := inv_start S hr.hd e0 len r x1
    refine ⟨free.keeps x1.toInCall.keep, codeAny_func (wpAny_mono (ht.nox.run [] s1 (start N vs) H _ I0 q) (fun fl s2 z => ?_) fun _ _ z => z)⟩
    match fl, z with
    | .ret u, ⟨v, _, H2, J, rv, q2⟩ => exact ⟨v, H2, J.os, J.bare, J.base, J.hok, rv, q2⟩
    | .next, ⟨_, H2, J, q2⟩ => exact ⟨V.non, H2, J.os, J.bare, J.base, J.hok, (rfl : RelV .non Value.none), q2⟩
    | .brk, ⟨_, _, _, no⟩ => exact no.elim
    | .cont, ⟨_, _, _, no⟩ => exact no.elim
end
/-- a def that is called by its name where nothing is guarded -/
structure CalG (P : Program) (w : World) (K : PySem.W.Frag) (mg : Str → Option Value) (base : Heap) (k : Nat) (x : Str) (sp : Sp) : Prop where
  ex : ∃ (f : Addr) (fd : FuncData) (ps : List Str), FnG P w K mg base CX0 k f fd ps sp ∧ mg x = some (.ref f) ∧ PySem.W.keepIn K (.ref f) = true ∧ Binds K fd ps []
section
variable {X : Cx} {k j : Nat} {x : Str} {sp : Sp} {p pos : Pos} {e : Expr} {es : List Expr} {t : TA}
theorem pe_cG (c : CalG X.prog X.w X.K X.mg X.base k x sp) (gX : X.A.guards = some []) (hr : Room j X.A) (hk : k ≤ j) (hg : Gl X x) (ha : PA X (e :: es) t)
    (hdb : (x == ("__debug__" : Str)) = false := by decide) (he : starEach (e :: es) X.env = (false, eval e X.env) :: starEach es X.env := by rfl) (hpl : (backTo pos (starEach es X.env)).any (·.1) = false := by rfl) :
    PE X (.Call (.Name x p) (e :: es) [] pos) (tCall sp [] E0 t) := by
  obtain ⟨f, fd, ps, F, hm, kp, b⟩ := c.ex
  refine ⟨fun pins s σ H Q I h => wpAny_Call_Name_kw (ld_glob I hg hm ?_ hdb)⟩
  refine PySem.W.callWith_K (h₀ := X.base) I.ok.mod.kin kp (thn (ha.run pos pins s σ H _ I h) fun us s1 ⟨vs, H1, I1, r, q⟩ => ⟨I1.kIn, ?_⟩) he hpl
  dsimp only at q
  rw [List.append_nil] at q
  have hl : (us ++ []).length = ps.length := by rw [List.append_nil, ← r.length]; exact F.many q
  have b1 := b s1 us I1.kIn hl
  rw [List.append_nil] at b1
  refine wpAny_call (codeAny_mono (F.go gX (hr.mono hk) I1.env0 b1 r q) fun r2 s2 z => ?_)
  match r2, z with
  | .ok (.ret u), z => exact I1.after z
  | .ok .next, z => exact z.elim
  | .ok .brk, z => exact z.elim
  | .ok .cont, z => exact z.elim
  | .error _, z => exact z.elim
end
/-- the law's call -/
theorem lawG {P : Program} {w : World} {K : PySem.W.Frag} {mg mb : Str → Option Value} {k : Nat} {fa a : Addr} {fd : FuncData} {x : Str} {sp : Sp} {s1 : Shared} {vs : List Value} {ns : List Int}
    (inK : K.In s1.heap) (gl : s1.heap.Ns mainGlobals mg) (bl : s1.heap.Ns builtinsNs mb) (bb : ∀ x : Str, x ≠ "__name__" → mb x = bootBuiltins x) (free : s1.heap.NoLimit) (g0 : s1.gens = #[])
    (ha : s1.heap.get? a = some { cls := .type "list", data := .seq vs.toArray }) (hi : IntsAre vs ns) (hl : ns.length ≤ sizeLine) (hr : Room k callerA)
    (F : ∀ base : Heap, K.In base → base.Ns mainGlobals mg → FnG P w K mg base CX0 k fa fd [x] sp) (bind : ∀ (s : Shared) (u : Value), BindsTo s fd ⟨[u], []⟩ [(x, u)])
    (hsp : ∀ H : Hp, SqL K H a (ns.map V.int) → sp [.ref a] H (fun v _ => v = .bl true) fun _ _ _ => False) :
    codeAny (model P w) callerA (.call (.ref fa) ⟨[.ref a], []⟩) (fun r s2 => r = .ok (.ret (.bool true)) ∧ OldK s1.heap s2.heap ∧ s2.os = s1.os ∧ AllBare s2.gens) s1 := by
  have rv := vals_ints hi
  -- what is tracked: the script alone, as it was, or nothing
  have main : ∀ H : Hp, SqL K H a (ns.map V.int) → HOk P w H s1.heap → (∀ b u, H b = some u → b = a ∧ K.lookup a = none ∧ ∃ o xs, u = .frz o (.lst xs)) →
      codeAny (model P w) callerA (.call (.ref fa) ⟨[.ref a], []⟩) (fun r s2 => r = .ok (.ret (.bool true)) ∧ OldK s1.heap s2.heap ∧ s2.os = s1.os ∧ AllBare s2.gens) s1 := by
    intro H hS hok only
    have off : ∀ {b : Addr} {o : Obj} {es : Array DictEntry} {ep : Nat}, s1.heap.get? b = some o → o.data = .dict es ep → H b = none := fun {b o es ep} e d => by
      rcases q : H b with _ | u
      · rfl
      · obtain ⟨rfl, _, _⟩ := only b u q
        rw [ha] at e
        cases e
        cases (show Data.seq vs.toArray _ = Data.dict es ep from d)
    have hid : ∀ {b : Addr} {m : Str → Option Value}, s1.heap.Ns b m → (hidT s1.heap H).Ns b m := fun ⟨o, es, ep, e, d, r⟩ => ⟨o, es, ep, hidT_get e (off e d), d, r⟩
    have inB : K.In (hidT s1.heap H) := fun b o e => hidT_get (inK b o e) (by
      rcases q : H b with _ | u
      · rfl
      · obtain ⟨rfl, no, _⟩ := only b u q
        rw [no] at e
        cases e)
    have md : Mod K mg (hidT s1.heap H) := ⟨inB, hid gl, ⟨mb, hid bl, bb⟩, free.imp fun mc z => ⟨hid z.1, z.2⟩⟩
    have ev : Env0 P w K mg (hidT s1.heap H) callerA [] s1 H := ⟨rfl, md, fun _ _ e => of_hidT e, Nat.le_of_eq (hidT_size _ _), trivial, (fun _ z => nomatch z), hok, .of_eq g0⟩
    refine codeAny_mono ((F _ inB (hid gl)).go (us := [.ref a]) (vs := [.ref a]) rfl hr ev (bind s1 (.ref a)) (.cons rfl .nil) (hsp H hS)) fun r s2 z => ?_
    match r, z with
    | .ok (.ret u), ⟨v, H2, os, bare, un, hok2, rel, q⟩ =>
      cases (show v = V.bl true from q)
      cases (show u = Value.bool true from rel)
      refine ⟨rfl, OldK.of_keep fun b o e => ?_, os, bare⟩
      rcases q2 : H b with _ | u2
      · exact un.keep b o e q2 (fun z => nomatch z) (fun z => nomatch z)
      · obtain ⟨_, _, ob, xs, rfl⟩ := only b u2 q2
        obtain ⟨e1, _⟩ := hok b _ q2
        obtain ⟨e2, _⟩ := hok2 b _ (un.frzs b ob _ q2)
        rw [e] at e1
        cases e1
        exact e2
    | .ok .next, z => exact z.elim
    | .ok .brk, z => exact z.elim
    | .ok .cont, z => exact z.elim
    | .error _, z => exact z.elim
  rcases hk : K.lookup a with _ | o
  · refine main (upd (fun _ => none) a (.frz { cls := .type "list", data := .seq vs.toArray } (.lst (ns.map V.int)))) (.inl (.inr ⟨_, upd_same⟩)) (fun b u z => ?_) fun b u z => ?_
    · by_cases e : b = a
      · subst e
        rw [upd_same] at z
        cases z
        exact ⟨ha, by rw [List.length_map]; exact hl, vs, _, rv, ha⟩
      · rw [upd_ne e] at z
        cases z
    · by_cases e : b = a
      · subst e
        rw [upd_same] at z
        cases z
        exact ⟨rfl, hk, _, _, rfl⟩
      · rw [upd_ne e] at z
        cases z
  · have e := inK a o hk
    rw [ha] at e
    cases e
    refine main (fun _ => none) (.inr ⟨_, vs.toArray, _, hk, rfl, rfl, rfl, ?_, by simpa using rv⟩) (fun _ _ z => nomatch z) fun _ _ z => nomatch z
    rw [List.size_toArray, hi.length]
    exact hl
/-- what the head leaves, from the law's def -/
theorem walkG {l : PySem.W.OpenLaw} {n k : Nat} {q : Program} {loose : List Str} {XP : (Str → Option Value) → Heap → Prop} {YP : World → Heap → Prop} {d : DefRec} {K : Params → PySem.W.Frag} {sp : World → Sp} {x : Str}
    (hn : l.most = some n) (hn2 : n ≤ sizeLine) (hdf : d.params.defaults = []) (hr : Room k callerA) (hY : ∀ (w : World) (h : Heap), YP w h → (K w.params).In h)
    (F : ∀ (w : World) (mg : Str → Option Value) (fa : Addr) (h : Heap), (K w.params).In h → h.Ns mainGlobals mg → mg d.name = some (.ref fa) →
      ∃ fd : FuncData, (∀ (s : Shared) (u : Value), BindsTo s fd ⟨[u], []⟩ [(x, u)]) ∧ ∀ base : Heap, (K w.params).In base → base.Ns mainGlobals mg → FnG l.prog w (K w.params) mg base CX0 k fa fd [x] (sp w))
    (hsp : ∀ (w : World) (H : Hp) (a : Addr) (ns : List Int), ns.length ≤ n → SqL (K w.params) H a (ns.map V.int) → sp w [.ref a] H (fun v _ => v = .bl true) fun _ _ _ => False) :
    PySem.W.WalkO q loose XP YP l.row.toRowW d [] (fun f vs => PySem.call f vs) := by
  refine Att.attach_call hn hdf fun w s0 s1 mg mb fa o pm cd doc a vs ns G Y ho hd hcd hmg hobj hints hlen hg => ?_
  obtain ⟨fd, b, z⟩ := F w mg fa _ (hY w _ Y) G.T.g hmg
  exact lawG (hY w _ Y) G.T.g G.T.b G.T.builtins G.T.nolimit hg hobj hints (Nat.le_trans hlen hn2) hr z b fun H hS => hsp w H a ns hlen hS
end Lk
end
section
set_option maxRecDepth 100000
set_option maxHeartbeats 2000000
/-! enumerate of a tuple. -/
namespace Lk
open PySem PySem.Spec PyProof.Rows L2
/-- the tuple at a, its items in new pairs behind their numbers from c on -/
def IteT (K : PySem.W.Frag) (a : Addr) (c : Int) : It :=
  ⟨fun i H => ∃ (xs : List V) (x : V), SqT K H a xs ∧ xs[i]? = some x,
   fun i H v H2 => ∃ T x, v = .ref T ∧ H T = none ∧ H2 = upd H T (.tup [.int (c + (i : Int)), x]) ∧ ∀ xs, SqT K H a xs → xs[i]? = some x,
   fun i H => ∃ xs : List V, SqT K H a xs ∧ xs.length ≤ i⟩
theorem walk_enumT {K : PySem.W.Frag} {a : Addr} {c : Int} {xs : List V} : Walk (IteT K a c) xs.length (fun H => SqT K H a xs) (YPair (fun i => some (.int (c + (i : Int)))) (fun i => xs[i]?)) := by
  refine ⟨fun i _ hi q => ⟨xs, xs[i], q, by simp [hi]⟩, fun _ q => ⟨xs, q, Nat.le_refl _⟩, fun i H v H2 _ q ⟨T, x, h1, h2, h3, h4⟩ => ?_⟩
  exact ⟨T, .int (c + (i : Int)), x, h1, h2, h3, rfl, h4 xs q⟩
theorem turn_enumT {P : Program} {w : World} {K : PySem.W.Frag} {elts : List Expr} {kk : Nat} {tpos : Pos} {c : Int} (a e it : Addr) :
    Turn P w K (.Tuple elts kk tpos) (IteT K a c) [e, it] e (fun i h => (∃ old, IsEnum h e it (c + (i : Int)) old) ∧ h.IsTupleIter it a i ∧ e ≠ it) where
  mem := by simp
  obj := fun i h st b hb => by
    obtain ⟨⟨old, he⟩, ⟨o, ho, hc, hd⟩, _⟩ := st
    rcases List.mem_cons.mp hb with z | z
    · rw [z]
      exact ⟨_, he, fun v q => nomatch q⟩
    · rw [List.mem_singleton.mp z]
      exact ⟨o, ho, fun v q => by rw [hd] at q; cases q⟩
  keep := fun i h h2 st k => ⟨st.1.imp fun old he => k e (by simp) _ he, st.2.1.at fun o q => k it (by simp) o q, st.2.2⟩
  item := by
    intro X hP hw hK hc i pins s σ H E I hf st hg
    subst hP hw hK
    obtain ⟨⟨old, he⟩, hit, hne⟩ := st
    obtain ⟨xs, x, hq, hx⟩ := hg
    obtain ⟨its, rv, tp, hz⟩ := I.tuple hq
    obtain ⟨u, hu, ru⟩ := rv.get hx
    have hel : e < s.heap.objs.size := Heap.lt_size he
    have hil : it < s.heap.objs.size := by obtain ⟨_, q, _⟩ := hit; exact Heap.lt_size q
    have tp2 : s.heap.IsTuple a its.toArray := tp
    obtain ⟨o, ho, oc, _⟩ := id tp
    have ea : e ≠ a := fun z => by
      rw [← z, show s.heap.get? e = some _ from he] at ho
      cases ho
      exact absurd (Value.type.inj oc) (by decide)
    have ia : it ≠ a := fun z => by
      obtain ⟨o2, ho2, oc2, _⟩ := id hit
      rw [← z, ho2] at ho
      cases ho
      rw [oc2] at oc
      exact absurd (Value.type.inj oc) (by decide)
    have hi : i < its.toArray.size := by
      rw [List.size_toArray]
      exact (List.getElem?_eq_some_iff.mp hu).1
    refine wpAny_pyNext_enum_itemC (Draws.tuple (show X.A.in1.handled = none from I.ok.hd hc) it a (Ne.symm ia) its.toArray) he ⟨hit, tp2⟩ hi hne (fun z => ?_) fun y h1 tk hy ho1 hs1 hT hsz hk => ?_
    · rcases List.mem_cons.mp z with z | z
      · exact hne z
      · exact ea (List.mem_singleton.mp z)
    · have yu : y = u := by
        have q : its.toArray[i]? = some y := hy
        rw [List.getElem?_toArray, hu] at q
        exact (Option.some.inj q).symm
      subst yu
      refine ⟨_, rfl, wpAny_letOwnedTupleGo_enum (s := { s with heap := h1, toks := tk + 1 }) ho1 fun h2 he2 sb => ?_⟩
      have sb2 : Heap.SameBut e h1 h2 := sb
      have hT2 : h2.get? s.heap.objs.size = some { cls := .type "tuple", data := .seq #[.int (c + (i : Int)) tk, y] } := (sb2.2 _ (Nat.ne_of_gt hel)).trans hT
      have new : ObjOk X.prog X.w (upd H s.heap.objs.size (.tup [.int (c + (i : Int)), x])) h2 s.heap.objs.size (.tup [.int (c + (i : Int)), x]) :=
        ⟨by show 2 ≤ sizeLine; decide, [.int (c + (i : Int)) tk, y], .cons ⟨_, rfl⟩ (.cons ru .nil), ⟨_, hT2, rfl, _, rfl⟩⟩
      have I1 : Inv X pins σ (upd H s.heap.objs.size (.tup [.int (c + (i : Int)), x])) { s with heap := h2, toks := tk + 1 } :=
        I.turnedNew (ch := [e, it]) (fun b ob hb q => (sb2.2 b (fun z => hb (by simp [z]))).trans (hk b ob (fun z => hb (by simp [z])) (fun z => hb (by simp [z])) q)) hf (Nat.le_refl _) new
      refine ⟨.ref s.heap.objs.size, _, I1, rfl, ⟨_, x, rfl, I.hok.fresh (Nat.le_refl _), rfl, fun ys hy => by rw [I.tuple_inj hy hq]; exact hx⟩, ⟨⟨y, ?_⟩, hs1.1.at fun o q => (sb2.2 it (Ne.symm hne)).trans q, hne⟩, fun b hb => ?_⟩
      · rw [show c + ((i + 1 : Nat) : Int) = c + (i : Int) + 1 by omega]
        exact he2
      · have lt : b < s.heap.objs.size := by
          rcases List.mem_cons.mp hb with z | z
          · rw [z]; exact hel
          · rw [List.mem_singleton.mp z]; exact hil
        rw [upd_ne (Nat.ne_of_lt lt)]
        exact (hf b hb).1
  done := by
    intro X hP hw hK hc i pins s σ H E I hf st hg
    subst hP hw hK
    obtain ⟨⟨old, he⟩, hit, hne⟩ := st
    obtain ⟨xs, hq, hx⟩ := hg
    obtain ⟨its, rv, tp, hz⟩ := I.tuple hq
    obtain ⟨f0, f1, f2, f3, f4, f5⟩ := hf it (by simp)
    have len := rv.length
    have hT : s.TypeIs (.ref e) "enumerate" := ⟨_, he, rfl⟩
    have last : its.toArray[i]? = none := by
      rw [List.getElem?_toArray, List.getElem?_eq_none (by omega)]
    unfold pyNext
    refine wpAny_bind (wpAny_attempt (wpAny_callSpecial?_slot (name := Str.ofString "__next__") hT PySem.F.slot_enumerate_next
      (wpAny_call_entry PySem.F.slot_enumerate_next hT PySem.F.entry_enumerate_next ?_ (PySem.F.args_enumerate_next_1 _))))
    show wpAny _ _ (field (.ref e) 2 >>= _) _ _ _
    refine wpAny_bind (wpAny_field he rfl (x := .ref it) rfl (wpAny_bind (wpAny_nextOf_tuple_end (I.ok.hd hc) hit (show s.heap.IsTuple a its.toArray from tp) last fun h1 y kept ⟨o, ho, oc⟩ => ?_)))
    refine wpAny_bind (wpAny_isInstance (T := "StopIteration") (b := true) ⟨o, ho, oc⟩ isSubtype_stop (wpAny_pure ⟨rfl, ?_⟩))
    exact I.turned (t' := s.toks) (fun b o hb q => kept b o hb q) f0 f1 f3 f4 f5
  self := fun A i s Q E st h => by
    obtain ⟨⟨_, he⟩, _⟩ := st
    exact wpAny_pyIter_enum he h
set_option maxHeartbeats 4000000 in
/-- enumerate(v), v told by how it begins -/
theorem meets_enum1 {v : Value} {o : Obj} {G : Heap → Prop} (B : Begins v o G) : Meets (Builtin.«enumerate.__new__» ⟨[.type "enumerate", v], []⟩) (fun _ R s => G s.heap ∧
    R (.ok (.ret (.ref (s.heap.push o).objs.size))) { s with heap := (s.heap.push o).push { cls := .type "enumerate", data := .fields #[.none, .bool false, .ref s.heap.objs.size, rawInt 0, .none, .none] } }) :=
  .of_wp fun prog w A R ⟨hp, g, d, tk, os⟩ ⟨h1, h⟩ => by
    have sub := sub_enumerate
    have iter : ∀ {A2 : Around} {E2 : Value → Shared → Prop} {Q2 : Value → Shared → Prop}, Q2 (.ref hp.objs.size) ⟨hp.push o, g, d, tk, os⟩ → wpAny (model prog w) A2 (pyIter v) Q2 E2 ⟨hp, g, d, tk, os⟩ := fun q => B.iter prog w _ _ ⟨hp, g, d, tk, os⟩ _ h1 q
    wp_walk using iter
    refine wpAny_stack_any fun st => wpAny_pure ?_
    split
    · rename_i c _ _ _ _ _
      by_cases z : (c == Value.type "enumerate") = true
      · rw [z]
        wp_walk using iter
        exact ⟨_, rfl, h⟩
      · rw [Bool.eq_false_iff.mpr z]
        wp_walk using iter
        exact ⟨_, rfl, h⟩
    · wp_walk using iter
      exact ⟨_, rfl, h⟩
theorem enum1 {prog : Program} {w : World} {A : Around} {E : Value → Shared → Prop} {s : Shared} {v : Value} {o : Obj} {G : Heap → Prop} {Q : Value → Shared → Prop} (B : Begins v o G) (h1 : G s.heap)
    (h : ∀ h2, IsEnum h2 (s.heap.objs.size + 1) s.heap.objs.size 0 .none → h2.get? s.heap.objs.size = some o → (∀ b x, s.heap.get? b = some x → h2.get? b = some x) → Q (.ref (s.heap.objs.size + 1)) { s with heap := h2 }) :
    wpAny (model prog w) A (call (.type "enumerate") [v]) Q E s := by
  have z : (s.heap.push o).objs.size = s.heap.objs.size + 1 := Heap.size_push ..
  have he : IsEnum ((s.heap.push o).push { cls := .type "enumerate", data := .fields #[.none, .bool false, .ref s.heap.objs.size, rawInt 0, .none, .none] }) (s.heap.objs.size + 1) s.heap.objs.size 0 .none := by
    have q := Heap.get?_push_size (s.heap.push o) (o := { cls := .type "enumerate", data := .fields #[.none, .bool false, .ref s.heap.objs.size, rawInt 0, .none, .none] }) rfl
    rwa [z] at q
  refine callType_new PySem.F.called_enumerate (by decide) (PySem.F.typeCall_enumerate_1 _) (PySem.F.newCall_enumerate_1 _) (fun obj => PySem.F.args_object_init_2 obj _) PySem.F.entry_enumerate_new (meets_enum1 B) ⟨h1, ?_⟩
  show _ ∧ _
  rw [z]
  exact ⟨⟨_, he, rfl⟩, h _ he (Heap.get?_push_of_some _ (Heap.get?_push_size _ B.free)) fun b x e => Heap.get?_push_of_some _ (Heap.get?_push_of_some _ e)⟩
def iEnumT (K : PySem.W.Frag) (ta : TA) : TI := fun σ H R => ta σ H fun vs H1 => ∃ a xs, vs = [.ref a] ∧ SqT K H1 a xs ∧ R (IteT K a 0) H1
theorem pi_enumT {X : Cx} {e : Expr} {ta : TA} {p pos tpos : Pos} {elts : List Expr} {kk : Nat} (hg : Gl X "enumerate") (hm : X.mg "enumerate" = none) (ha : PA X [e] ta) (hs : starEach [e] X.env = [(false, eval e X.env)] := by rfl) :
    PI X (.Tuple elts kk tpos) (.Call (.Name "enumerate" p) [e] [] pos) (iEnumT X.K ta) := by
  refine ⟨fun pins s σ H R I h => Call_ (ld_blt I hg hm boot_enumerate (PyProof.Rows.callWith_type1 (thn (ha.run pos pins s σ H _ I h) fun us s1 ⟨vs, H1, I1, r1, a, xs, ex, hq, q⟩ => ?_) hs rfl))⟩
  subst ex
  cases r1 with
  | cons r rr =>
    cases rr
    cases r
    obtain ⟨its, rv, tp, hz⟩ := I1.tuple hq
    refine enum1 (begins_tuple a its.toArray) tp fun h2 he hit hk => wpAny_pyIter_enum he ?_
    have I2 : Inv X pins σ H1 { s1 with heap := h2 } := I1.kept (t' := s1.toks) hk
    refine ⟨s1.heap.objs.size + 1, [s1.heap.objs.size + 1, s1.heap.objs.size], _, _, H1, rfl, I2, turn_enumT a (s1.heap.objs.size + 1) s1.heap.objs.size, ⟨⟨.none, he⟩, ⟨_, hit, rfl, rfl⟩, Nat.succ_ne_self _⟩, fun b hb => ?_, q⟩
    have hle : s1.heap.objs.size ≤ b := by
      rcases List.mem_cons.mp hb with z | z
      · rw [z]; exact Nat.le_add_right _ _
      · rw [List.mem_singleton.mp z]; exact Nat.le_refl _
    exact I1.fpOk hle (I1.hok.fresh hle)
end Lk
end
section
/-! Coders, their steps, last goings, rings, rounds: mathematics. -/
namespace Lk
abbrev Cd := Nat × List Nat
def COk (c : Cd) : Prop := c.1 < c.2.length
def len (c : Cd) (i : Nat) : Nat := c.2.getD i 0
def nx (c : Cd) : Cd := ((c.1 + (len c c.1 + 1)) % c.2.length, c.2.set c.1 (len c c.1 + 1))
def it : Nat → Cd → Cd
  | 0, c => c
  | n + 1, c => it n (nx c)
def go (c : Cd) (i : Nat) : Nat := (i + len c i) % c.2.length
def gon (c : Cd) : Nat → Nat → Nat
  | 0, i => i
  | n + 1, i => gon c n (go c i)
theorem nx_len {c : Cd} : (nx c).2.length = c.2.length := List.length_set
theorem it_len : ∀ (n : Nat) {c : Cd}, (it n c).2.length = c.2.length
  | 0, _ => rfl
  | n + 1, c => (it_len n).trans nx_len
theorem nx_ok {c : Cd} (h : COk c) : COk (nx c) := by
  have h0 : 0 < c.2.length := Nat.lt_of_le_of_lt (Nat.zero_le _) h
  show _ % _ < (nx c).2.length
  rw [nx_len]
  exact Nat.mod_lt _ h0
theorem it_ok : ∀ (n : Nat) {c : Cd}, COk c → COk (it n c)
  | 0, _, h => h
  | n + 1, _, h => it_ok n (nx_ok h)
theorem it_add : ∀ (n m : Nat) (c : Cd), it (n + m) c = it m (it n c)
  | 0, m, c => by rw [Nat.zero_add]; rfl
  | n + 1, m, c => by
    rw [show n + 1 + m = (n + m) + 1 by omega]
    exact it_add n m (nx c)
theorem it_succ (n : Nat) (c : Cd) : it (n + 1) c = nx (it n c) := it_add n 1 c
theorem gon_add (c : Cd) : ∀ (n m i : Nat), gon c (n + m) i = gon c m (gon c n i)
  | 0, m, i => by rw [Nat.zero_add]; rfl
  | n + 1, m, i => by
    rw [show n + 1 + m = (n + m) + 1 by omega]
    exact gon_add c n m (go c i)
theorem gon_succ (c : Cd) (n i : Nat) : gon c (n + 1) i = go c (gon c n i) := gon_add c n 1 i
theorem len_nx_same {c : Cd} (h : COk c) : len (nx c) c.1 = len c c.1 + 1 := by
  show (c.2.set c.1 _).getD c.1 0 = _
  rw [List.getD_eq_getElem?_getD, List.getElem?_set_self h]
  rfl
theorem len_nx_ne {c : Cd} {i : Nat} (h : i ≠ c.1) : len (nx c) i = len c i := by
  show (c.2.set c.1 _).getD i 0 = c.2.getD i 0
  rw [List.getD_eq_getElem?_getD, List.getD_eq_getElem?_getD, List.getElem?_set_ne (Ne.symm h)]
theorem go_nx_ne {c : Cd} {i : Nat} (h : i ≠ c.1) : go (nx c) i = go c i := by
  unfold go
  rw [len_nx_ne h, nx_len]
theorem go_nx_same {c : Cd} (h : COk c) : go (nx c) c.1 = (nx c).1 := by
  unfold go
  rw [len_nx_same h, nx_len]
  rfl
/-- last goings lead from i to the coder's own place -/
def Rch (c : Cd) (i : Nat) : Prop := ∃ k, gon c k i = c.1
def Free (c : Cd) : Prop := ∀ i, i < c.2.length → Rch c i
theorem rch_nx {c : Cd} (h : COk c) {i : Nat} : Rch c i → Rch (nx c) i := by
  rintro ⟨k, e⟩
  induction k generalizing i with
  | zero =>
    refine ⟨1, ?_⟩
    show go (nx c) i = _
    rw [show i = c.1 from e]
    exact go_nx_same h
  | succ k ih =>
    by_cases g : i = c.1
    · refine ⟨1, ?_⟩
      show go (nx c) i = _
      rw [g]
      exact go_nx_same h
    · obtain ⟨m, q⟩ := ih e
      refine ⟨m + 1, ?_⟩
      show gon (nx c) m (go (nx c) i) = _
      rw [go_nx_ne g]
      exact q
theorem rch_it : ∀ (n : Nat) {c : Cd}, COk c → ∀ {i}, Rch c i → Rch (it n c) i
  | 0, _, _, _, r => r
  | n + 1, _, h, _, r => rch_it n (nx_ok h) (rch_nx h r)
theorem free_nx {c : Cd} (h : COk c) (f : Free c) : Free (nx c) := fun i hi => rch_nx h (f i (by rw [nx_len] at hi; exact hi))
theorem free_it : ∀ (n : Nat) {c : Cd}, COk c → Free c → Free (it n c)
  | 0, _, _, f => f
  | n + 1, _, h, f => free_it n (nx_ok h) (free_nx h f)
/-- where the coder has been is led to where it is -/
theorem rch_been {c : Cd} (h : COk c) {n t : Nat} (ht : t ≤ n) : Rch (it n c) (it t c).1 := by
  obtain ⟨m, rfl⟩ := Nat.exists_eq_add_of_le ht
  rw [it_add]
  exact rch_it m (it_ok t h) ⟨0, rfl⟩
theorem len_mono1 {c : Cd} (i : Nat) (h : COk c) : len c i ≤ len (nx c) i := by
  by_cases g : i = c.1
  · rw [g, len_nx_same h]; omega
  · rw [len_nx_ne g]; exact Nat.le_refl _
theorem len_mono : ∀ (n : Nat) {c : Cd} (i : Nat), COk c → len c i ≤ len (it n c) i
  | 0, _, _, _ => Nat.le_refl _
  | n + 1, _, i, h => Nat.le_trans (len_mono1 i h) (len_mono n i (nx_ok h))
/-- each length that a place came to was a step -/
theorem step_of : ∀ (n : Nat) {c : Cd} (i v : Nat), COk c → len c i < v → v ≤ len (it n c) i → ∃ t, t < n ∧ (it t c).1 = i ∧ (it (t + 1) c).1 = (i + v) % c.2.length
  | 0, _, _, _, _, h1, h2 => absurd (Nat.lt_of_lt_of_le h1 h2) (Nat.lt_irrefl _)
  | n + 1, c, i, v, h, h1, h2 => by
    by_cases g : v ≤ len (nx c) i
    · have gi : i = c.1 := by
        refine Classical.byContradiction fun z => ?_
        rw [len_nx_ne z] at g
        omega
      refine ⟨0, Nat.succ_pos _, gi.symm, ?_⟩
      show (nx c).1 = _
      rw [gi, len_nx_same h] at g
      have e : v = len c c.1 + 1 := by rw [gi] at h1; omega
      rw [gi, e]
      rfl
    · obtain ⟨t, a, b, d⟩ := step_of n i v (nx_ok h) (by omega) h2
      refine ⟨t + 1, by omega, b, ?_⟩
      rw [nx_len] at d
      exact d
theorem sum_set : ∀ (l : List Nat) (i v : Nat), i < l.length → (l.set i v).sum + l.getD i 0 = l.sum + v
  | a :: r, 0, v, _ => by
    show v + r.sum + a = a + r.sum + v
    omega
  | a :: r, i + 1, v, h => by
    have ih := sum_set r i v (by simpa using h)
    show a + (r.set i v).sum + r.getD i 0 = a + r.sum + v
    omega
theorem sum_nx {c : Cd} (h : COk c) : (nx c).2.sum = c.2.sum + 1 := by
  have z := sum_set c.2 c.1 (len c c.1 + 1) h
  have e : c.2.getD c.1 0 = len c c.1 := rfl
  show (c.2.set c.1 _).sum = _
  omega
theorem sum_it : ∀ (n : Nat) {c : Cd}, COk c → (it n c).2.sum = c.2.sum + n
  | 0, _, _ => rfl
  | n + 1, c, h => by
    show (it n (nx c)).2.sum = _
    rw [sum_it n (nx_ok h), sum_nx h]
    omega
theorem sum_le : ∀ {a b : List Nat}, a.length = b.length → (∀ i, i < b.length → a.getD i 0 ≤ b.getD i 0) → a.sum ≤ b.sum
  | [], [], _, _ => Nat.le_refl _
  | x :: a, y :: b, hl, h => by
    have h0 : x ≤ y := h 0 (by simp)
    have h1 : a.sum ≤ b.sum := sum_le (by simpa using hl) fun i hi => h (i + 1) (by simpa using hi)
    show x + a.sum ≤ y + b.sum
    omega
theorem sum_map_add (k : Nat) : ∀ l : List Nat, (l.map (· + k)).sum = l.sum + l.length * k
  | [] => by simp
  | a :: r => by
    have ih := sum_map_add k r
    show a + k + (r.map (· + k)).sum = a + r.sum + (r.length + 1) * k
    rw [ih, Nat.add_mul]
    omega
theorem getD_map_add (k : Nat) (l : List Nat) {i : Nat} (h : i < l.length) : (l.map (· + k)).getD i 0 = l.getD i 0 + k := by
  rw [List.getD_eq_getElem?_getD, List.getD_eq_getElem?_getD, List.getElem?_map, List.getElem?_eq_getElem h]
  rfl
/-- among p lengths in a row one leads to q -/
theorem some_to {p : Nat} (i a q : Nat) (hq : q < p) : ∃ v, a < v ∧ v ≤ a + p ∧ (i + v) % p = q := by
  have hp : 0 < p := by omega
  have hr := Nat.mod_lt (i + a + 1) hp
  by_cases g : (i + a + 1) % p ≤ q
  · refine ⟨a + 1 + (q - (i + a + 1) % p), by omega, by omega, ?_⟩
    rw [show i + (a + 1 + (q - (i + a + 1) % p)) = (i + a + 1) + (q - (i + a + 1) % p) by omega, Nat.add_mod, Nat.mod_eq_of_lt (show q - (i + a + 1) % p < p by omega),
      show (i + a + 1) % p + (q - (i + a + 1) % p) = q by omega, Nat.mod_eq_of_lt hq]
  · refine ⟨a + 1 + (p + q - (i + a + 1) % p), by omega, by omega, ?_⟩
    rw [show i + (a + 1 + (p + q - (i + a + 1) % p)) = (i + a + 1) + (p + q - (i + a + 1) % p) by omega, Nat.add_mod, Nat.mod_eq_of_lt (show p + q - (i + a + 1) % p < p by omega),
      show (i + a + 1) % p + (p + q - (i + a + 1) % p) = q + p by omega, Nat.add_mod_right, Nat.mod_eq_of_lt hq]
/-- behind so many steps every place has been come to -/
theorem been_all {c : Cd} (h : COk c) {n : Nat} (hn : (c.2.length - 1) * (c.2.length - 1) + 1 ≤ n) {q : Nat} (hq : q < c.2.length) : ∃ t, t ≤ n ∧ (it t c).1 = q := by
  refine Classical.byContradiction fun no => ?_
  have no' : ∀ t, t ≤ n → (it t c).1 ≠ q := fun t ht e => no ⟨t, ht, e⟩
  have lim : ∀ i, len (it n c) i < len c i + c.2.length := fun i => by
    refine Classical.byContradiction fun g => ?_
    obtain ⟨v, v1, v2, v3⟩ := some_to i (len c i) q hq
    obtain ⟨t, t1, _, t3⟩ := step_of n i v h v1 (by omega)
    exact no' (t + 1) (by omega) (t3.trans v3)
  have stay : len (it n c) q ≤ len c q := by
    refine Classical.byContradiction fun g => ?_
    obtain ⟨t, t1, t2, _⟩ := step_of n q (len c q + 1) h (by omega) (by omega)
    exact no' t (by omega) t2
  have hs := sum_it n h
  have hB : (it n c).2.sum ≤ ((c.2.map (· + (c.2.length - 1))).set q (len c q)).sum := by
    refine sum_le (by rw [it_len, List.length_set, List.length_map]) fun i hi => ?_
    rw [List.length_set, List.length_map] at hi
    by_cases g : i = q
    · rw [g, List.getD_eq_getElem?_getD (l := List.set _ _ _), List.getElem?_set_self (by rw [List.length_map]; exact hq)]
      exact stay
    · rw [List.getD_eq_getElem?_getD (l := List.set _ _ _), List.getElem?_set_ne (Ne.symm g), ← List.getD_eq_getElem?_getD, getD_map_add _ _ hi]
      have z := lim i
      show len (it n c) i ≤ len c i + (c.2.length - 1)
      omega
  have e1 := sum_set (c.2.map (· + (c.2.length - 1))) q (len c q) (by rw [List.length_map]; exact hq)
  rw [getD_map_add _ _ hq, sum_map_add] at e1
  have e2 : c.2.getD q 0 = len c q := rfl
  have e3 : c.2.length * (c.2.length - 1) = (c.2.length - 1) * (c.2.length - 1) + (c.2.length - 1) := by
    obtain ⟨m, hm⟩ : ∃ m, c.2.length = m + 1 := ⟨c.2.length - 1, by omega⟩
    rw [hm, Nat.add_sub_cancel, Nat.add_mul, Nat.one_mul]
  omega
theorem free_late {c : Cd} (h : COk c) {n : Nat} (hn : (c.2.length - 1) * (c.2.length - 1) + 1 ≤ n) : Free (it n c) := fun i hi => by
  rw [it_len] at hi
  obtain ⟨t, ht, e⟩ := been_all h hn hi
  rw [← e]
  exact rch_been h ht
end Lk
end
section
/-! Rounds come again; rings. -/
namespace Lk
def S : Nat → (Nat → Nat) → Nat
  | 0, _ => 0
  | n + 1, f => S n f + f n
theorem S_congr : ∀ (p : Nat) {f g : Nat → Nat}, (∀ i, i < p → f i = g i) → S p f = S p g
  | 0, _, _, _ => rfl
  | n + 1, f, g, h => by
    show S n f + f n = S n g + g n
    rw [S_congr n fun i hi => h i (by omega), h n (by omega)]
theorem S_upd : ∀ (p : Nat) {f g : Nat → Nat} (j : Nat), j < p → (∀ i, i < p → i ≠ j → f i = g i) → S p f + g j = S p g + f j
  | n + 1, f, g, j, hj, h => by
    show S n f + f n + g j = S n g + g n + f j
    by_cases e : j = n
    · subst e
      rw [S_congr j (f := f) (g := g) fun i hi => h i (by omega) (by omega)]
      omega
    · have ih := S_upd n j (by omega) fun i hi => h i (by omega)
      have e2 := h n (by omega) (Ne.symm e)
      omega
theorem S_le : ∀ (p : Nat) {f : Nat → Nat}, (∀ i, i < p → f i ≤ 1) → S p f ≤ p
  | 0, _, _ => Nat.le_refl _
  | n + 1, f, h => by
    have ih := S_le n fun i hi => h i (by omega)
    have z := h n (by omega)
    show S n f + f n ≤ n + 1
    omega
theorem S_one : ∀ (p : Nat) {f : Nat → Nat}, (∀ i, i < p → f i ≤ 1) → S p f = p → ∀ i, i < p → f i = 1
  | n + 1, f, h, e, i, hi => by
    have ih := S_le n fun i hi => h i (by omega)
    have z := h n (by omega)
    have e' : S n f + f n = n + 1 := e
    by_cases g : i = n
    · rw [g]; omega
    · exact S_one n (fun i hi => h i (by omega)) (by omega) i (by omega)
theorem S_add : ∀ (p : Nat) (f g : Nat → Nat), S p (fun i => f i + g i) = S p f + S p g
  | 0, _, _ => rfl
  | n + 1, f, g => by
    show S n (fun i => f i + g i) + (f n + g n) = S n f + f n + (S n g + g n)
    rw [S_add n]
    omega
theorem S_zero : ∀ (p : Nat) {f : Nat → Nat}, (∀ i, i < p → f i = 0) → S p f = 0
  | 0, _, _ => rfl
  | n + 1, f, h => by
    show S n f + f n = 0
    rw [S_zero n fun i hi => h i (by omega), h n (by omega)]
theorem mod_ne {p m d : Nat} (h : (m + d) % p = m % p) (h0 : 0 < d) : p ≤ d := by
  have z := Nat.sub_mod_eq_zero_of_mod_eq h
  rw [Nat.add_sub_cancel_left] at z
  exact Nat.le_of_dvd h0 (Nat.dvd_of_mod_eq_zero z)
/-- how many of the k lengths behind a lead from i to x -/
def cw (p i x a : Nat) : Nat → Nat
  | 0 => 0
  | k + 1 => cw p i x a k + if (i + (a + k + 1)) % p = x then 1 else 0
theorem cw_pos {p i x a : Nat} : ∀ {k : Nat}, 0 < cw p i x a k → ∃ v, v < k ∧ (i + (a + v + 1)) % p = x
  | 0, h => absurd h (Nat.lt_irrefl _)
  | k + 1, h => by
    by_cases g : (i + (a + k + 1)) % p = x
    · exact ⟨k, Nat.lt_succ_self _, g⟩
    · have h' : 0 < cw p i x a k + if (i + (a + k + 1)) % p = x then 1 else 0 := h
      rw [if_neg g] at h'
      obtain ⟨v, a1, a2⟩ := cw_pos (k := k) h'
      exact ⟨v, by omega, a2⟩
theorem cw_of {p i x a v : Nat} : ∀ {k : Nat}, v < k → (i + (a + v + 1)) % p = x → 0 < cw p i x a k
  | k + 1, h, e => by
    show 0 < cw p i x a k + if (i + (a + k + 1)) % p = x then 1 else 0
    by_cases g : v = k
    · rw [← g, if_pos e]; omega
    · have z := cw_of (k := k) (by omega) e
      omega
theorem cw_le {p i x a : Nat} : ∀ {k : Nat}, k ≤ p → cw p i x a k ≤ 1
  | 0, _ => Nat.zero_le _
  | k + 1, h => by
    have ih := cw_le (p := p) (i := i) (x := x) (a := a) (k := k) (by omega)
    show cw p i x a k + (if (i + (a + k + 1)) % p = x then 1 else 0) ≤ 1
    by_cases g : (i + (a + k + 1)) % p = x
    · rw [if_pos g]
      have z : cw p i x a k = 0 := by
        refine Nat.eq_zero_of_not_pos fun q => ?_
        obtain ⟨v, hv, e⟩ := cw_pos q
        have w := mod_ne (p := p) (m := i + (a + v + 1)) (d := k - v) (by rw [show i + (a + v + 1) + (k - v) = i + (a + k + 1) by omega, g, e]) (by omega)
        omega
      omega
    · rw [if_neg g]; omega
/-- who is led to x by its last going and has given one to x has given all -/
theorem cw_last {p i x a k : Nat} (hk : k ≤ p) (h : (i + a) % p = x) (h1 : cw p i x a k = 1) : k = p := by
  obtain ⟨v, hv, e⟩ := cw_pos (p := p) (i := i) (x := x) (a := a) (k := k) (by omega)
  have w := mod_ne (p := p) (m := i + a) (d := v + 1) (by rw [show i + a + (v + 1) = i + (a + v + 1) by omega, e, h]) (by omega)
  omega
def ind (b : Prop) [Decidable b] : Nat := if b then 1 else 0
/-- what comes to a place, what goes from it -/
theorem flow : ∀ (n : Nat) {c : Cd}, COk c → ∀ x, x < c.2.length →
    S c.2.length (fun i => cw c.2.length i x (len c i) (len (it n c) i - len c i)) + ind (x = c.1) = (len (it n c) x - len c x) + ind (x = (it n c).1)
  | 0, c, _, x, _ => by
    rw [S_zero c.2.length fun i _ => by show cw _ i x _ (len c i - len c i) = 0; rw [Nat.sub_self]; rfl]
    show 0 + _ = (len c x - len c x) + _
    rw [Nat.sub_self]
    rfl
  | n + 1, c, h, x, hx => by
    have ih := flow n h x hx
    have ho : COk (it n c) := it_ok n h
    rw [it_succ]
    have hj : (it n c).1 < c.2.length := by have z := ho; unfold COk at z; rw [it_len] at z; exact z
    have m := len_mono n (it n c).1 h
    have e1 := S_upd c.2.length (f := fun i => cw c.2.length i x (len c i) (len (nx (it n c)) i - len c i)) (g := fun i => cw c.2.length i x (len c i) (len (it n c) i - len c i)) (it n c).1 hj fun i _ hne => by
      show cw _ i x _ (len (nx (it n c)) i - len c i) = _
      rw [len_nx_ne hne]
    have e2 : cw c.2.length (it n c).1 x (len c (it n c).1) (len (nx (it n c)) (it n c).1 - len c (it n c).1) = cw c.2.length (it n c).1 x (len c (it n c).1) (len (it n c) (it n c).1 - len c (it n c).1) + ind (x = (nx (it n c)).1) := by
      rw [len_nx_same ho, show len (it n c) (it n c).1 + 1 - len c (it n c).1 = (len (it n c) (it n c).1 - len c (it n c).1) + 1 by omega]
      show cw _ _ _ _ _ + _ = _
      congr 1
      have e : (nx (it n c)).1 = ((it n c).1 + (len c (it n c).1 + (len (it n c) (it n c).1 - len c (it n c).1) + 1)) % c.2.length := by
        show ((it n c).1 + (len (it n c) (it n c).1 + 1)) % (it n c).2.length = _
        rw [it_len]
        congr 1
        omega
      rw [e]
      unfold ind
      by_cases g : ((it n c).1 + (len c (it n c).1 + (len (it n c) (it n c).1 - len c (it n c).1) + 1)) % c.2.length = x
      · rw [if_pos g, if_pos g.symm]
      · rw [if_neg g, if_neg (Ne.symm g)]
    have e3 : len (nx (it n c)) x - len c x = (len (it n c) x - len c x) + ind (x = (it n c).1) := by
      unfold ind
      by_cases g : x = (it n c).1
      · rw [if_pos g, g, len_nx_same ho]
        omega
      · rw [if_neg g, len_nx_ne g]
        omega
    rw [e3]
    omega
/-- no place has begun more than p words -/
def Bd (c : Cd) (n : Nat) : Prop := ∀ i, i < c.2.length → len (it n c) i ≤ len c i + c.2.length
theorem cw_bd {c : Cd} {n : Nat} (b : Bd c n) (x : Nat) : ∀ i, i < c.2.length → cw c.2.length i x (len c i) (len (it n c) i - len c i) ≤ 1 := fun i hi => cw_le (by have z := b i hi; omega)
theorem home_of {c : Cd} (h : COk c) {n : Nat} (b : Bd c n) (e : len (it n c) (it n c).1 = len c (it n c).1 + c.2.length) : (it n c).1 = c.1 := by
  refine Classical.byContradiction fun g => ?_
  have hj : (it n c).1 < c.2.length := by have z := it_ok n h; unfold COk at z; rw [it_len] at z; exact z
  have f := flow n h (it n c).1 hj
  have z := S_le _ (cw_bd b (it n c).1)
  unfold ind at f
  rw [if_neg g, if_pos rfl, e] at f
  omega
theorem full_of {c : Cd} (h : COk c) {n : Nat} (b : Bd c n) (e : (it n c).1 = c.1) {x : Nat} (hx : x < c.2.length) (ex : len (it n c) x = len c x + c.2.length) {i : Nat} (hi : i < c.2.length) (hg : go c i = x) : len (it n c) i = len c i + c.2.length := by
  have f := flow n h x hx
  rw [e, ex] at f
  have z := S_one _ (cw_bd b x) (by omega) i hi
  have m := len_mono n i h
  have w := cw_last (by have z := b i hi; omega) hg z
  omega
theorem all_full {c : Cd} (h : COk c) (fr : Free c) {n : Nat} (b : Bd c n) (e : (it n c).1 = c.1) (eh : len (it n c) c.1 = len c c.1 + c.2.length) : ∀ i, i < c.2.length → len (it n c) i = len c i + c.2.length := by
  have hp : 0 < c.2.length := Nat.lt_of_le_of_lt (Nat.zero_le _) h
  have key : ∀ k i, i < c.2.length → gon c k i = c.1 → len (it n c) i = len c i + c.2.length := by
    intro k
    induction k with
    | zero =>
      intro i _ q
      rw [show i = c.1 from q]
      exact eh
    | succ k ih =>
      intro i hi q
      have hgo : go c i < c.2.length := Nat.mod_lt _ hp
      exact full_of h b e hgo (ih (go c i) hgo q) hi rfl
  intro i hi
  obtain ⟨k, q⟩ := fr i hi
  exact key k i hi q
theorem S_getD : ∀ (l : List Nat), S l.length (fun i => l.getD i 0) = l.sum := by
  intro l
  have key : ∀ (n : Nat), n ≤ l.length → S n (fun i => l.getD i 0) = (l.take n).sum := by
    intro n
    induction n with
    | zero => intro _; rfl
    | succ n ih =>
      intro hn
      show S n _ + l.getD n 0 = _
      rw [ih (by omega), List.take_add_one, List.getD_eq_getElem?_getD, List.getElem?_eq_getElem (by omega), List.sum_append]
      simp
  rw [key _ (Nat.le_refl _), List.take_length]
theorem S_const (k : Nat) : ∀ p, S p (fun _ => k) = p * k
  | 0 => by simp [S]
  | n + 1 => by
    show S n _ + k = _
    rw [S_const k n, Nat.add_mul, Nat.one_mul]
theorem S_mono : ∀ (p : Nat) {f g : Nat → Nat}, (∀ i, i < p → f i ≤ g i) → S p f ≤ S p g
  | 0, _, _, _ => Nat.le_refl _
  | n + 1, f, g, h => by
    have ih := S_mono n fun i hi => h i (by omega)
    have z := h n (by omega)
    show S n f + f n ≤ S n g + g n
    omega
theorem S_eq : ∀ (p : Nat) {f g : Nat → Nat}, (∀ i, i < p → f i ≤ g i) → S p f = S p g → ∀ i, i < p → f i = g i
  | n + 1, f, g, h, e, i, hi => by
    have ih := S_mono n (f := f) (g := g) fun i hi => h i (by omega)
    have z := h n (by omega)
    have e' : S n f + f n = S n g + g n := e
    by_cases w : i = n
    · rw [w]; omega
    · exact S_eq n (fun i hi => h i (by omega)) (by omega) i (by omega)
theorem sum_S {c : Cd} (n : Nat) : (it n c).2.sum = S c.2.length (fun i => len (it n c) i) := by
  rw [← S_getD, it_len]
  rfl
/-- ahead of p * p steps none has begun more than p -/
theorem bd_all {c : Cd} (h : COk c) (fr : Free c) : ∀ n, n ≤ c.2.length * c.2.length → Bd c n
  | 0, _ => fun i _ => by show len c i ≤ _; omega
  | n + 1, hn => by
    have b := bd_all h fr n (by omega)
    have ho := it_ok n h
    intro i hi
    rw [it_succ]
    by_cases g : i = (it n c).1
    · rw [g, len_nx_same ho]
      refine Classical.byContradiction fun z => ?_
      have bj := b i hi
      rw [g] at bj
      have e : len (it n c) (it n c).1 = len c (it n c).1 + c.2.length := by omega
      have e0 := home_of h b e
      have af := all_full h fr b e0 (by rw [e0] at e; exact e)
      have s1 := sum_it n h
      rw [sum_S, S_congr _ af, S_add, S_const] at s1
      have s2 : S c.2.length (len c) = c.2.sum := S_getD c.2
      omega
    · rw [len_nx_ne g]
      exact b i hi
theorem it_round {c : Cd} (h : COk c) (fr : Free c) : it (c.2.length * c.2.length) c = (c.1, c.2.map (· + c.2.length)) := by
  have b := bd_all h fr _ (Nat.le_refl _)
  have s1 := sum_it (c.2.length * c.2.length) h
  have s2 : S c.2.length (len c) = c.2.sum := S_getD c.2
  have all : ∀ i, i < c.2.length → len (it (c.2.length * c.2.length) c) i = len c i + c.2.length := by
    refine S_eq c.2.length (f := fun i => len (it (c.2.length * c.2.length) c) i) (g := fun i => len c i + c.2.length) b ?_
    rw [S_add, S_const, ← sum_S]
    omega
  have hj : (it (c.2.length * c.2.length) c).1 < c.2.length := by have z := it_ok (c.2.length * c.2.length) h; unfold COk at z; rw [it_len] at z; exact z
  have e1 := home_of h b (all _ hj)
  refine Prod.ext e1 ?_
  refine List.ext_getElem? fun i => ?_
  by_cases hi : i < c.2.length
  · have z := all i hi
    unfold len at z
    rw [List.getD_eq_getElem?_getD, List.getD_eq_getElem?_getD, List.getElem?_eq_getElem (by rw [it_len]; exact hi), List.getElem?_eq_getElem hi] at z
    rw [List.getElem?_eq_getElem (by rw [it_len]; exact hi), List.getElem?_map, List.getElem?_eq_getElem hi]
    exact congrArg some z
  · rw [List.getElem?_eq_none (by rw [it_len]; omega), List.getElem?_eq_none (by rw [List.length_map]; omega)]
/-- who comes again is free -/
theorem free_again {c : Cd} (h : COk c) (e : it (c.2.length * c.2.length) c = (c.1, c.2.map (· + c.2.length))) : Free c := by
  have hp : 0 < c.2.length := Nat.lt_of_le_of_lt (Nat.zero_le _) h
  have lenE : ∀ i, i < c.2.length → len (it (c.2.length * c.2.length) c) i = len c i + c.2.length := fun i hi => by
    rw [e]
    exact getD_map_add _ _ hi
  have fr : Free (it (c.2.length * c.2.length) c) := fun i hi => by
    rw [it_len] at hi
    obtain ⟨t, t1, t2, _⟩ := step_of (c.2.length * c.2.length) i (len c i + 1) h (by omega) (by rw [lenE i hi]; omega)
    rw [← t2]
    exact rch_been h (by omega)
  have goE : ∀ i, i < c.2.length → go (it (c.2.length * c.2.length) c) i = go c i := fun i hi => by
    unfold go
    rw [lenE i hi, it_len, ← Nat.add_assoc, Nat.add_mod_right]
  have gonE : ∀ k i, i < c.2.length → gon (it (c.2.length * c.2.length) c) k i = gon c k i := by
    intro k
    induction k with
    | zero => intro i _; rfl
    | succ k ih =>
      intro i hi
      show gon _ k (go _ i) = gon c k (go c i)
      rw [goE i hi]
      exact ih _ (Nat.mod_lt _ hp)
  intro i hi
  obtain ⟨k, q⟩ := fr i (by rw [it_len]; exact hi)
  rw [gonE k i hi] at q
  exact ⟨k, by rw [q, e]⟩
end Lk
end
section
/-! Rings of last goings. -/
namespace Lk
theorem go_lt {c : Cd} (h : COk c) (i : Nat) : go c i < c.2.length := Nat.mod_lt _ (Nat.lt_of_le_of_lt (Nat.zero_le _) h)
theorem gon_lt {c : Cd} (h : COk c) {i : Nat} (hi : i < c.2.length) : ∀ k, gon c k i < c.2.length
  | 0 => hi
  | k + 1 => by rw [gon_succ]; exact go_lt h _
/-- k goings from a lead round it, past places that are greater and not the coder's own -/
structure RingK (c : Cd) (a k : Nat) : Prop where
  pos : 0 < k
  home : ∀ j, j < k → gon c j a ≠ c.1
  least : ∀ j, 0 < j → j < k → a < gon c j a
  back : gon c k a = a
def ringL (c : Cd) (a k : Nat) : List Nat := (List.range k).map fun j => gon c j a
def RingAt (c : Cd) (a : Nat) : Prop := ∃ k, RingK c a k
theorem ringK_never {c : Cd} {a k : Nat} (r : RingK c a k) : ∀ m, gon c m a ≠ c.1 := by
  intro m
  induction m using Nat.strongRecOn with
  | ind m ih =>
    by_cases g : m < k
    · exact r.home m g
    · have e : m = k + (m - k) := by omega
      rw [e, gon_add, r.back]
      exact ih (m - k) (by have := r.pos; omega)
theorem ringK_inj {c : Cd} {a k j : Nat} (r : RingK c a k) (s : RingK c a j) : k = j := by
  have key : ∀ {k j : Nat}, RingK c a k → RingK c a j → ¬ k < j := fun r s g => by
    have z := s.least _ r.pos g
    rw [r.back] at z
    omega
  have h1 := key r s
  have h2 := key s r
  omega
theorem ringL_nodup {c : Cd} {a k : Nat} (r : RingK c a k) : (ringL c a k).Nodup := by
  unfold ringL
  refine List.pairwise_map.mpr (List.Pairwise.imp_of_mem (R := fun i j => i < j) (fun {i j} hi hj hl e => ?_) List.pairwise_lt_range)
  rw [List.mem_range] at hi hj
  have z : gon c (i + (k - j)) a = a := by
    rw [gon_add, e, ← gon_add, show j + (k - j) = k by omega]
    exact r.back
  have w := r.least (i + (k - j)) (by omega) (by omega)
  omega
theorem nodup_below {l : List Nat} {p : Nat} (n : l.Nodup) (h : ∀ x ∈ l, x < p) : l.length ≤ p := by
  have z := List.Nodup.length_le_of_subset n (l₂ := List.range p) fun x hx => List.mem_range.mpr (h x hx)
  rw [List.length_range] at z
  exact z
theorem free_noring {c : Cd} (fr : Free c) {a : Nat} (ha : a < c.2.length) : ¬ RingAt c a := fun ⟨_, r⟩ => by
  obtain ⟨m, q⟩ := fr a ha
  exact ringK_never r m q
/-- the least number with a property -/
theorem least_of {Q : Nat → Prop} {n : Nat} (h : Q n) : ∃ m, Q m ∧ ∀ j, j < m → ¬ Q j := by
  induction n using Nat.strongRecOn with
  | ind n ih =>
    by_cases g : ∃ j, j < n ∧ Q j
    · obtain ⟨j, hj, q⟩ := g
      exact ih j hj q
    · exact ⟨n, h, fun j hj q => g ⟨j, hj, q⟩⟩
theorem repeats {p : Nat} {f : Nat → Nat} (h : ∀ m, f m < p) : ∃ j k, j < k ∧ f j = f k := by
  refine Classical.byContradiction fun no => ?_
  have nd : ((List.range (p + 1)).map f).Nodup :=
    List.pairwise_map.mpr (List.Pairwise.imp (R := fun i j => i < j) (fun {i j} hl e => no ⟨i, j, hl, e⟩) List.pairwise_lt_range)
  have z := nodup_below nd (p := p) fun x hx => by
    obtain ⟨m, _, e⟩ := List.mem_map.mp hx
    rw [← e]
    exact h m
  rw [List.length_map, List.length_range] at z
  omega
theorem ring_of {c : Cd} (h : COk c) {i : Nat} (hi : i < c.2.length) (no : ∀ m, gon c m i ≠ c.1) : ∃ a, a < c.2.length ∧ RingAt c a := by
  obtain ⟨j, k, hjk, e⟩ := repeats (f := fun m => gon c m i) fun m => gon_lt h hi m
  have per : gon c (k - j) (gon c j i) = gon c j i := by
    rw [← gon_add, show j + (k - j) = k by omega]
    exact e.symm
  obtain ⟨v, ⟨m0, e0⟩, hv⟩ := least_of (Q := fun v => ∃ m, gon c m (gon c j i) = v) ⟨0, rfl⟩
  have low : ∀ m, v ≤ gon c m v := fun m => by
    refine Nat.le_of_not_lt fun z => hv _ z ⟨m0 + m, ?_⟩
    rw [gon_add, e0]
  have hper : gon c (k - j) v = v := by
    rw [← e0, ← gon_add, Nat.add_comm, gon_add, per]
  obtain ⟨d, ⟨d0, d1⟩, hd⟩ := least_of (Q := fun d => 0 < d ∧ gon c d v = v) ⟨(by omega : 0 < k - j), hper⟩
  have hvlt : v < c.2.length := by rw [← e0]; exact gon_lt h (gon_lt h hi j) m0
  refine ⟨v, hvlt, d, d0, fun m _ => ?_, fun m m0 md => ?_, d1⟩
  · rw [← e0, ← gon_add, ← gon_add]
    exact no _
  · have z := low m
    have w : gon c m v ≠ v := fun z => hd m md ⟨m0, z⟩
    omega
theorem noring_free {c : Cd} (h : COk c) (no : ∀ a, a < c.2.length → ¬ RingAt c a) : Free c := fun i hi => by
  refine Classical.byContradiction fun z => ?_
  obtain ⟨a, ha, r⟩ := ring_of h hi fun m e => z ⟨m, e⟩
  exact no a ha r
/-- a walk from a, as far as it is told -/
structure PathK (c : Cd) (a : Nat) (k : Nat) : Prop where
  pos : 0 < k
  home : ∀ j, j < k → gon c j a ≠ c.1
  least : ∀ j, 0 < j → j < k → a < gon c j a
  nd : (ringL c a k).Nodup
theorem path_one {c : Cd} {a : Nat} (h : a ≠ c.1) : PathK c a 1 :=
  ⟨Nat.one_pos, fun j hj => by rw [show j = 0 by omega]; exact h, fun j h0 h1 => absurd h1 (by omega), List.pairwise_singleton _ _⟩
theorem ringL_succ {c : Cd} {a k : Nat} : ringL c a (k + 1) = ringL c a k ++ [gon c k a] := by
  unfold ringL
  rw [List.range_succ, List.map_append]
  rfl
theorem path_more {c : Cd} {a k : Nat} (r : PathK c a k) (h1 : a < gon c k a) (h2 : gon c k a ≠ c.1) (h3 : gon c k a ∉ ringL c a k) : PathK c a (k + 1) := by
  refine ⟨Nat.succ_pos _, fun j hj => ?_, fun j h0 hj => ?_, ?_⟩
  · by_cases g : j < k
    · exact r.home j g
    · rw [show j = k by omega]; exact h2
  · by_cases g : j < k
    · exact r.least j h0 g
    · rw [show j = k by omega]; exact h1
  · rw [ringL_succ]
    refine List.nodup_append.mpr ⟨r.nd, List.pairwise_singleton _ _, fun x hx y hy e => ?_⟩
    rw [List.mem_singleton] at hy
    exact h3 (by rw [← hy, ← e]; exact hx)
theorem path_len {c : Cd} (h : COk c) {a k : Nat} (ha : a < c.2.length) (r : PathK c a k) : k ≤ c.2.length := by
  have z := nodup_below r.nd (p := c.2.length) fun x hx => by
    obtain ⟨m, _, e⟩ := List.mem_map.mp hx
    rw [← e]
    exact gon_lt h ha m
  unfold ringL at z
  rw [List.length_map, List.length_range] at z
  exact z
/-- the walk ended: it is a ring just where it came back -/
theorem path_ring {c : Cd} {a k : Nat} (r : PathK c a k) (e : gon c k a = a) : RingK c a k := ⟨r.pos, r.home, r.least, e⟩
theorem path_none {c : Cd} {a k : Nat} (r : PathK c a k) (hend : ¬ (a < gon c k a ∧ gon c k a ≠ c.1 ∧ gon c k a ∉ ringL c a k)) (e : gon c k a ≠ a) : ¬ RingAt c a := fun ⟨d, s⟩ => by
  have hkd : k < d := by
    refine Classical.byContradiction fun g => ?_
    by_cases g2 : d < k
    · have z := r.least d s.pos g2
      rw [s.back] at z
      omega
    · have : d = k := by omega
      rw [← this, s.back] at e
      exact e rfl
  refine hend ⟨s.least k r.pos hkd, s.home k hkd, fun hm => ?_⟩
  have nd := ringL_nodup s
  obtain ⟨j, hj, ej⟩ := List.mem_map.mp hm
  rw [List.mem_range] at hj
  have z : gon c (j + (d - k)) a = a := by
    rw [gon_add, ej, ← gon_add, show k + (d - k) = d by omega]
    exact s.back
  have w := s.least (j + (d - k)) (by omega) (by omega)
  omega
/-- what ring_from tells -/
def RingFrom (c : Cd) (a : Nat) (r : Option (List Nat)) : Prop := (∃ k, RingK c a k ∧ r = some (ringL c a k)) ∨ (¬ RingAt c a ∧ r = none)
/-- what ring tells -/
def RingOf (c : Cd) (r : Option (List Nat)) : Prop := (∃ a k, a < c.2.length ∧ RingK c a k ∧ (∀ b, b < a → ¬ RingAt c b) ∧ r = some (ringL c a k)) ∨ ((∀ a, a < c.2.length → ¬ RingAt c a) ∧ r = none)
theorem ringOf_free {c : Cd} (h : COk c) {r : Option (List Nat)} (q : RingOf c r) : r = none ↔ Free c := by
  rcases q with ⟨a, k, ha, rk, _, rfl⟩ | ⟨no, rfl⟩
  · exact ⟨fun z => (by cases z), fun fr => absurd ⟨k, rk⟩ (free_noring fr ha)⟩
  · exact ⟨fun _ => noring_free h no, fun _ => rfl⟩
/-- how many steps a coder takes at least till it is free -/
def Ahead (c : Cd) (n : Nat) : Prop := Free (it n c) ∧ ∀ m, m < n → ¬ Free (it m c)
theorem ahead_le {c : Cd} (h : COk c) {n : Nat} (a : Ahead c n) : n ≤ (c.2.length - 1) * (c.2.length - 1) + 1 :=
  Nat.le_of_not_lt fun z => a.2 _ z (free_late h (Nat.le_refl _))
theorem ahead_is {c : Cd} (h : COk c) : ∃ n, Ahead c n := least_of (free_late h (Nat.le_refl _))
theorem ahead_one {c : Cd} {n m : Nat} (a : Ahead c n) (b : Ahead c m) : n = m := by
  have h1 : ¬ n < m := fun z => b.2 _ z a.1
  have h2 : ¬ m < n := fun z => a.2 _ z b.1
  omega
end Lk
end
section
/-! Far steps, words. -/
namespace Lk
theorem it_rounds {c : Cd} (h : COk c) (fr : Free c) : ∀ R, it (R * (c.2.length * c.2.length)) c = (c.1, c.2.map (· + R * c.2.length))
  | 0 => by
    rw [Nat.zero_mul]
    refine Prod.ext rfl ?_
    show c.2 = _
    rw [show (fun n : Nat => n + 0 * c.2.length) = id from funext fun n => by simp, List.map_id]
  | R + 1 => by
    have e1 : it ((R + 1) * (c.2.length * c.2.length)) c = it (c.2.length * c.2.length) (it (R * (c.2.length * c.2.length)) c) := by
      rw [Nat.add_mul, Nat.one_mul, it_add]
    have h2 := it_ok (R * (c.2.length * c.2.length)) h
    have f2 := free_it (R * (c.2.length * c.2.length)) h fr
    have r := it_round h2 f2
    rw [it_len] at r
    rw [e1, r, it_rounds h fr R]
    refine Prod.ext rfl ?_
    show (c.2.map _).map _ = _
    rw [List.map_map]
    refine List.map_congr_left fun n _ => ?_
    show n + R * c.2.length + c.2.length = n + (R + 1) * c.2.length
    rw [Nat.add_mul, Nat.one_mul, Nat.add_assoc]
/-- as many whole rounds as may be taken at once -/
def rnds (p n : Nat) : Nat := (n - ((p - 1) * (p - 1) + 1)) / (p * p)
theorem rnds_le (p n : Nat) : rnds p n * (p * p) ≤ n := Nat.le_trans (Nat.div_mul_le_self _ _) (Nat.sub_le _ _)
theorem rnds_left (p n : Nat) (hp : 0 < p) : n - rnds p n * (p * p) < (p - 1) * (p - 1) + 1 + p * p := by
  have hpp : 0 < p * p := Nat.mul_pos hp hp
  have a := Nat.div_add_mod (n - ((p - 1) * (p - 1) + 1)) (p * p)
  have b := Nat.mod_lt (n - ((p - 1) * (p - 1) + 1)) hpp
  unfold rnds
  rw [Nat.mul_comm (p * p)] at a
  omega
theorem far {c : Cd} (h : COk c) (n : Nat) : it n c = ((it (n - rnds c.2.length n * (c.2.length * c.2.length)) c).1, (it (n - rnds c.2.length n * (c.2.length * c.2.length)) c).2.map (· + rnds c.2.length n * c.2.length)) := by
  have hle := rnds_le c.2.length n
  have e : n = (n - rnds c.2.length n * (c.2.length * c.2.length)) + rnds c.2.length n * (c.2.length * c.2.length) := by omega
  by_cases g : rnds c.2.length n = 0
  · rw [g, Nat.zero_mul, Nat.zero_mul, Nat.sub_zero]
    refine Prod.ext rfl ?_
    show _ = List.map _ _
    rw [show (fun n : Nat => n + 0) = id from funext fun n => by simp, List.map_id]
  · have late : (c.2.length - 1) * (c.2.length - 1) + 1 ≤ n - rnds c.2.length n * (c.2.length * c.2.length) := by
      have z := Nat.div_mul_le_self (n - ((c.2.length - 1) * (c.2.length - 1) + 1)) (c.2.length * c.2.length)
      have y : 0 < n - ((c.2.length - 1) * (c.2.length - 1) + 1) := by
        refine Nat.pos_of_ne_zero fun q => g ?_
        unfold rnds
        rw [q, Nat.zero_div]
      unfold rnds
      omega
    have fr := free_late h late
    have r := it_rounds (it_ok (n - rnds c.2.length n * (c.2.length * c.2.length)) h) fr (rnds c.2.length n)
    rw [it_len] at r
    have e2 : it n c = it (rnds c.2.length n * (c.2.length * c.2.length)) (it (n - rnds c.2.length n * (c.2.length * c.2.length)) c) := by
      rw [← it_add, ← e]
    rw [e2, r]
/-- the word of a step -/
def wd (c : Cd) : Nat × Nat := (c.1, len c c.1 + 1)
def wds (n : Nat) (c : Cd) : List (Nat × Nat) := (List.range n).map fun t => wd (it t c)
theorem wds_len (n : Nat) (c : Cd) : (wds n c).length = n := by
  unfold wds
  rw [List.length_map, List.length_range]
theorem wds_succ (n : Nat) (c : Cd) : wds (n + 1) c = wds n c ++ [wd (it n c)] := by
  unfold wds
  rw [List.range_succ, List.map_append]
  rfl
end Lk
end
section
set_option maxRecDepth 100000
set_option maxHeartbeats 2000000
/-! Things as data; heaps; calls by name. -/
namespace Lk
open PySem PySem.Spec PyProof.Rows L2
mutual
/-- v is this data, all of it made in the run -/
inductive Th (H : Hp) : V → PyData → Prop
  | non : Th H .non .none
  | bl (b : Bool) : Th H (.bl b) (.bool b)
  | int (i : Int) : Th H (.int i) (.int i)
  | str (x : Str) : Th H (.str x) (.str x)
  | lst {a : Addr} {xs : List V} {ds : List PyData} (e : H a = some (.lst xs)) (m : ThAll H xs ds) : Th H (.ref a) (.list ds)
  | tup {a : Addr} {xs : List V} {ds : List PyData} (e : H a = some (.tup xs)) (m : ThAll H xs ds) : Th H (.ref a) (.tuple ds)
  | dct {a : Addr} (e : H a = some (.dK [])) : Th H (.ref a) (.dict [])
inductive ThAll (H : Hp) : List V → List PyData → Prop
  | nil : ThAll H [] []
  | cons {v : V} {vs : List V} {d : PyData} {ds : List PyData} (h : Th H v d) (m : ThAll H vs ds) : ThAll H (v :: vs) (d :: ds)
end
/-- what stands at addresses of P is as it was -/
def Keep (P : Addr → Prop) (H H2 : Hp) : Prop := ∀ b o, P b → H b = some o → H2 b = some o
mutual
theorem Th.same {H H2 : Hp} (s : Same H H2) : ∀ (d : PyData) {v : V}, Th H v d → Th H2 v d
  | .none, _, h => by cases h; exact .non
  | .bool b, _, h => by cases h; exact .bl b
  | .int i, _, h => by cases h; exact .int i
  | .str x, _, h => by cases h; exact .str x
  | .list ds, _, h => by
    cases h with
    | lst e m => exact .lst (s _ _ e) (ThAll.same s ds m)
  | .tuple ds, _, h => by
    cases h with
    | tup e m => exact .tup (s _ _ e) (ThAll.same s ds m)
  | .dict kvs, _, h => by
    cases h with
    | dct e => exact .dct (s _ _ e)
theorem ThAll.same {H H2 : Hp} (s : Same H H2) : ∀ (ds : List PyData) {vs : List V}, ThAll H vs ds → ThAll H2 vs ds
  | [], _, h => by cases h; exact .nil
  | d :: ds, _, h => by
    cases h with
    | cons a b => exact .cons (Th.same s d a) (ThAll.same s ds b)
end
mutual
theorem Th.dq {K : PySem.W.Frag} {H : Hp} : ∀ (d : PyData) {v : V}, Th H v d → Dq K H v d
  | .none, _, h => by cases h; exact .non
  | .bool b, _, h => by cases h; exact .bl b
  | .int i, _, h => by cases h; exact .int i
  | .str x, _, h => by cases h; exact .str x
  | .list ds, _, h => by
    cases h with
    | lst e m => exact .lst (SqL.of e) (ThAll.dq ds m)
  | .tuple ds, _, h => by
    cases h with
    | tup e m => exact .tup (SqT.of e) (ThAll.dq ds m)
  | .dict kvs, _, h => by
    cases h with
    | dct e => exact .dct e
theorem ThAll.dq {K : PySem.W.Frag} {H : Hp} : ∀ (ds : List PyData) {vs : List V}, ThAll H vs ds → DqAll K H vs ds
  | [], _, h => by cases h; exact .nil
  | d :: ds, _, h => by
    cases h with
    | cons a b => exact .cons (Th.dq d a) (ThAll.dq ds b)
end
theorem ThAll.length {H : Hp} : ∀ {vs : List V} {ds : List PyData}, ThAll H vs ds → vs.length = ds.length
  | _, _, .nil => rfl
  | _, _, .cons _ m => by rw [List.length_cons, List.length_cons, m.length]
theorem ThAll.get {H : Hp} : ∀ {vs : List V} {ds : List PyData}, ThAll H vs ds → ∀ {i : Nat} {v : V}, vs[i]? = some v → ∃ d, ds[i]? = some d ∧ Th H v d
  | _, _, .nil, i, v, h => by simp at h
  | _, _, .cons a m, 0, v, h => by
    cases h
    exact ⟨_, rfl, a⟩
  | _, _, .cons a m, i + 1, v, h => m.get (i := i) (by simpa using h)
theorem ThAll.get2 {H : Hp} : ∀ {vs : List V} {ds : List PyData}, ThAll H vs ds → ∀ {i : Nat} {d : PyData}, ds[i]? = some d → ∃ v, vs[i]? = some v ∧ Th H v d
  | _, _, .nil, i, v, h => by simp at h
  | _, _, .cons a m, 0, v, h => by
    cases h
    exact ⟨_, rfl, a⟩
  | _, _, .cons a m, i + 1, v, h => m.get2 (i := i) (by simpa using h)
theorem ThAll.append {H : Hp} : ∀ {vs us : List V} {ds es : List PyData}, ThAll H vs ds → ThAll H us es → ThAll H (vs ++ us) (ds ++ es)
  | _, _, _, _, .nil, h => h
  | _, _, _, _, .cons a m, h => .cons a (m.append h)
theorem ThAll.ints {H : Hp} : ∀ ns : List Int, ThAll H (ns.map V.int) (ns.map PyData.int)
  | [] => .nil
  | n :: ns => .cons (.int n) (.ints ns)
def tyN : PyData → String
  | .none => "NoneType"
  | .bool _ => "bool"
  | .int _ => "int"
  | .str _ => "str"
  | .list _ => "list"
  | .tuple _ => "tuple"
  | .dict _ => "dict"
theorem Th.ty {K : PySem.W.Frag} {H : Hp} {v : V} {d : PyData} (h : Th H v d) : TyX K H v (.type (tyN d)) := by
  cases h with
  | non => exact .base .non
  | bl b => exact .base (.bl b)
  | int i => exact .base (.int i)
  | str x => exact .base (.str x)
  | lst e m => exact .base (.lst e)
  | tup e m => exact .base (.tup e)
  | dct e => exact .base (.dK e)
def isT : PyData → Bool
  | .tuple _ => true
  | _ => false
def isL : PyData → Bool
  | .list _ => true
  | _ => false
def isI : PyData → Bool
  | .int _ => true
  | .bool _ => true
  | _ => false
def isB : PyData → Bool
  | .bool _ => true
  | _ => false
theorem kit_tuple {K : PySem.W.Frag} (d : PyData) : PySem.W.kitOne K (.type (tyN d)) (.type "tuple") = some (isT d) := kit_ty (by cases d <;> (simp only [tyN, isT]; decide +kernel))
theorem kit_list {K : PySem.W.Frag} (d : PyData) : PySem.W.kitOne K (.type (tyN d)) (.type "list") = some (isL d) := kit_ty (by cases d <;> (simp only [tyN, isL]; decide +kernel))
theorem kit_int {K : PySem.W.Frag} (d : PyData) : PySem.W.kitOne K (.type (tyN d)) (.type "int") = some (isI d) := kit_ty (by cases d <;> (simp only [tyN, isI]; decide +kernel))
theorem kit_bool {K : PySem.W.Frag} (d : PyData) : PySem.W.kitOne K (.type (tyN d)) (.type "bool") = some (isB d) := kit_ty (by cases d <;> (simp only [tyN, isB]; decide +kernel))
/-! ### heaps -/
/-- all but what stands at a is as it was -/
def SameBut (a : Addr) (H H' : Hp) : Prop := ∀ b o, b ≠ a → H b = some o → H' b = some o
theorem SameBut.trans {a : Addr} {H H1 H2 : Hp} (x : SameBut a H H1) (y : SameBut a H1 H2) : SameBut a H H2 := fun b o n e => y b o n (x b o n e)
theorem SameBut.refl {a : Addr} {H : Hp} : SameBut a H H := fun _ _ _ e => e
theorem sameBut_upd {a : Addr} {H : Hp} {o : HO} : SameBut a H (upd H a o) := fun b u n e => by rw [upd_ne n]; exact e
theorem same_new {p : Addr} {H : Hp} {o : HO} (h : H p = none) : Same H (upd H p o) := fun b u e => by rw [upd_ne (ne_of_none e h)]; exact e
theorem same_push {H H1 : Hp} {D : Addr} {o : HO} (s : Same H H1) (hD : H D = none) : Same H (upd H1 D o) := fun b u e => by
  rw [upd_ne (ne_of_none e hD)]
  exact s b u e
theorem Same.but {a : Addr} {H H' : Hp} (h : Same H H') : SameBut a H H' := fun b o _ e => h b o e
/-! ### a def that may raise, by its name -/
structure CalX (P : Program) (w : World) (K : PySem.W.Frag) (mg : Str → Option Value) (base : Heap) (k : Nat) (x : Str) (sp : Sp) : Prop where
  ex : ∃ (f : Addr) (fd : FuncData) (ps : List Str), FnOk P w K mg base (L2.CX P w) k f fd ps sp ∧ mg x = some (.ref f) ∧ PySem.W.keepIn K (.ref f) = true ∧ Binds K fd ps []
section
variable {X : Cx} {k j : Nat} {x : Str} {sp : Sp} {p pos : Pos} {e : Expr} {es : List Expr} {t : TA} {W : WX}
/-- .. what it raises is taken around -/
theorem pe_cX (c : CalX X.prog X.w X.K X.mg X.base k x sp) (tk : Takes X W) (hr : Room j X.A) (hk : k ≤ j) (hg : Gl X x) (ha : PA X (e :: es) t)
    (hdb : (x == ("__debug__" : Str)) = false := by decide) (he : starEach (e :: es) X.env = (false, eval e X.env) :: starEach es X.env := by rfl) (hpl : (backTo pos (starEach es X.env)).any (·.1) = false := by rfl) :
    PE X (.Call (.Name x p) (e :: es) [] pos) (tCallS sp (WE W) t) := by
  obtain ⟨f, fd, ps, F, hm, kp, b⟩ := c.ex
  exact pe_callS F (hr.mono hk) hg hm kp b (fun σ => passAt tk σ) ha hdb he hpl
/-- .. where it raises nothing -/
theorem pe_c0 (c : CalX X.prog X.w X.K X.mg X.base k x sp) (hr : Room j X.A) (hk : k ≤ j) (hg : Gl X x) (ha : PA X (e :: es) t)
    (hdb : (x == ("__debug__" : Str)) = false := by decide) (he : starEach (e :: es) X.env = (false, eval e X.env) :: starEach es X.env := by rfl) (hpl : (backTo pos (starEach es X.env)).any (·.1) = false := by rfl) :
    PE X (.Call (.Name x p) (e :: es) [] pos) (tCall sp [] E0 t) := by
  obtain ⟨f, fd, ps, F, hm, kp, b⟩ := c.ex
  exact pe_call F (hr.mono hk) hg hm kp b .nil passL ha hdb he hpl
end
/-- a class of the program's own over ValueError, as the top has written it -/
structure ErrC (K : PySem.W.Frag) (mg : Str → Option Value) (x : Str) (C : Addr) : Prop where
  g : mg x = some (.ref C)
  k : PySem.W.keepIn K (.ref C) = true
  x : PySem.W.excIn K C [.type "ValueError", .type "Exception", .type "BaseException", .type "object"] "ValueError.__new__" = true
  b : PySem.W.subIn K (.ref C) (.type "BaseException") = some true
  t : PySem.W.typeIn K (.ref C) = some (.type "type")
/-! ### rules that name the written part, for use within a comprehension -/
def rLenS (K : PySem.W.Frag) : List V → Hp → VK → Prop := fun xs H Q => ∃ p ys, xs = [.ref p] ∧ (SqL K H p ys ∨ SqT K H p ys) ∧ Q (.int ((ys.length : Nat) : Int)) H
theorem call_lenK {X : Cx} {K : PySem.W.Frag} (h : X.K = K) : CallR X (.builtin "len") (rLenS K) := by
  subst h
  exact call_len_seq
theorem ix_tupK {X : Cx} {K : PySem.W.Frag} (h : X.K = K) : IxR X (rIxT K) := by
  subst h
  exact ix_tup
theorem ix_listK {X : Cx} {K : PySem.W.Frag} (h : X.K = K) : IxR X (rIxL K) := by
  subst h
  exact ix_list
/-- a comprehension that gathers truths, its list at D -/
theorem snoc_bl {H4 : Hp} {D : Addr} {bs : List Bool} {i : Nat} {b : Bool} (e : H4 D = some (.lst ((bs.take i).map V.bl))) (hb : bs[i]? = some b) (hl : bs.length ≤ 100000) :
    ∃ acc, H4 D = some (.lst acc) ∧ acc.length < sizeLine ∧ upd H4 D (.lst (acc ++ [V.bl b])) D = some (.lst ((bs.take (i + 1)).map V.bl)) ∧ acc = (bs.take i).map V.bl := by
  refine ⟨_, e, ?_, ?_, rfl⟩
  · rw [List.length_map, List.length_take]
    exact Nat.lt_of_le_of_lt (show min i bs.length ≤ 100000 by omega) (by decide)
  · rw [upd_same, List.take_add_one, hb, List.map_append]
    rfl
/-- a comprehension that gathers, its list at D -/
theorem snoc_map {α : Type} {f : α → V} {H4 : Hp} {D : Addr} {l : List α} {i : Nat} {x : α} (e : H4 D = some (.lst ((l.take i).map f))) (hx : l[i]? = some x) (hl : l.length ≤ 1000000) :
    ∃ acc, H4 D = some (.lst acc) ∧ acc.length < sizeLine ∧ upd H4 D (.lst (acc ++ [f x])) D = some (.lst ((l.take (i + 1)).map f)) := by
  refine ⟨_, e, ?_, ?_⟩
  · rw [List.length_map, List.length_take]
    exact Nat.lt_of_le_of_lt (show min i l.length ≤ 1000000 by omega) (by decide)
  · rw [upd_same, List.take_add_one, hx, List.map_append]
    rfl
theorem cut_to {xs : List V} {n : Nat} (h : n ≤ xs.length) : cutV xs none (some (n : Int)) = xs.take n := by
  unfold cutV
  rw [HT.sIx_none, HT.sIx_nat]
  show (xs.drop 0).take (min n xs.length - 0) = _
  rw [List.drop_zero, Nat.sub_zero, Nat.min_eq_left h]
theorem cut_from {xs : List V} {n : Nat} : cutV xs (some (n : Int)) none = xs.drop n := by
  unfold cutV
  rw [HT.sIx_none, HT.sIx_nat]
  by_cases h : n ≤ xs.length
  · rw [Nat.min_eq_left h]
    exact List.take_of_length_le (by rw [List.length_drop]; omega)
  · rw [Nat.min_eq_right (by omega), List.drop_length, List.drop_eq_nil_of_le (by omega)]
    exact List.take_nil
end Lk
end
section
set_option maxRecDepth 100000
set_option maxHeartbeats 2000000
/-! kinds, is_coder of anything, next_coder. -/
namespace Lk
open PySem PySem.Spec PyProof.Rows L2
abbrev vN (n : Nat) : V := .int (n : Int)
abbrev dN (n : Nat) : PyData := .int (n : Int)
def isW : PyData → Bool
  | .int _ => true
  | _ => false
def inR : PyData → Int → Int → Bool
  | .int i, a, b => decide (a ≤ i) && decide (i ≤ b)
  | _, _, _ => false
def natD : PyData → Bool
  | .int i => decide (0 ≤ i)
  | _ => false
def isCd : PyData → Bool
  | .tuple [p, .tuple ls] => (decide (1 ≤ ls.length) && decide (ls.length ≤ 12)) && (inR p 0 ((ls.length : Int) - 1) && ls.all natD)
  | _ => false
section
variable {P : Program} {w : World} {K : PySem.W.Frag} {mg : Str → Option Value} {base : Heap}
def spWhole : Sp := fun vs H Q _ => ∃ v d, vs = [v] ∧ Th H v d ∧ Q (.bl (isW d)) H
def spWithin : Sp := fun vs H Q _ => ∃ v d a b, vs = [v, .int a, .int b] ∧ Th H v d ∧ Q (.bl (inR d a b)) H
/-- which bounds are asked -/
def Asked (a b : Int) : Prop := a = 0 ∧ b = 2000 ∨ a = 0 ∧ b = 10 ^ 18 ∨ a = 1 ∧ b = 12 ∨ a = 1 ∧ b = 6 ∨ a = 1 ∧ b = 10 ^ 18 ∨ a = 0 ∧ b = 10 ^ 36
def spCount (C : Addr) : Sp := fun vs H Q E => ∃ v d a b, vs = [v, .int a, .int b] ∧ Asked a b ∧ Th H v d ∧ (inR d a b = true → Q .non H) ∧ (inR d a b = false → E (.ref C) none H)
/-! ### coders -/
/-- the coder c stands at v -/
def Cat (H : Hp) (v : V) (c : Cd) : Prop := ∃ a b, v = .ref a ∧ H a = some (.tup [.int (c.1 : Int), .ref b]) ∧ H b = some (.tup (c.2.map vN))
theorem Cat.same {H H2 : Hp} {v : V} {c : Cd} (s : Same H H2) (h : Cat H v c) : Cat H2 v c := by
  obtain ⟨a, b, e, h1, h2⟩ := h
  exact ⟨a, b, e, s _ _ h1, s _ _ h2⟩
def cdD (c : Cd) : PyData := .tuple [.int (c.1 : Int), .tuple (c.2.map dN)]
def CdOk (c : Cd) : Prop := COk c ∧ c.2.length ≤ 12
theorem CdOk.pos {c : Cd} (h : CdOk c) : 0 < c.2.length := Nat.lt_of_le_of_lt (Nat.zero_le _) h.1
theorem ints_nat {H : Hp} : ∀ ls : List Nat, ThAll H (ls.map vN) (ls.map dN)
  | [] => .nil
  | n :: ls => .cons (.int n) (ints_nat ls)
theorem nat_ints {H : Hp} : ∀ {vs : List V} {ls : List Nat}, ThAll H vs (ls.map dN) → vs = ls.map vN
  | _, [], h => by cases h; rfl
  | _, n :: ls, h => by
    cases h with
    | cons a m =>
      cases a
      rw [nat_ints m]
      rfl
theorem Cat.th {H : Hp} {v : V} {c : Cd} (h : Cat H v c) : Th H v (cdD c) := by
  obtain ⟨a, b, rfl, h1, h2⟩ := h
  exact .tup h1 (.cons (.int _) (.cons (.tup h2 (ints_nat c.2)) .nil))
theorem Th.cat {H : Hp} {v : V} {c : Cd} (h : Th H v (cdD c)) : Cat H v c := by
  unfold cdD at h
  cases h with
  | tup e m =>
    cases m with
    | cons a m =>
      cases m with
      | cons b m =>
        cases m
        cases a
        cases b with
        | tup e2 m2 =>
          rw [nat_ints m2] at e2
          exact ⟨_, _, rfl, e, e2⟩
theorem nats_of : ∀ {ds : List PyData}, ds.all natD = true → ∃ ls : List Nat, ds = ls.map dN
  | [], _ => ⟨[], rfl⟩
  | d :: ds, h => by
    rw [List.all_cons, Bool.and_eq_true] at h
    obtain ⟨ls, rfl⟩ := nats_of h.2
    cases d with
    | int i =>
      have z : 0 ≤ i := of_decide_eq_true h.1
      exact ⟨i.toNat :: ls, by rw [List.map_cons]; show _ = PyData.int _ :: _; rw [Int.toNat_of_nonneg z]⟩
    | _ => cases h.1
theorem isCd_of {d : PyData} (h : isCd d = true) : ∃ c, d = cdD c ∧ CdOk c := by
  unfold isCd at h
  split at h
  · rename_i p ls
    rw [Bool.and_eq_true, Bool.and_eq_true, Bool.and_eq_true, decide_eq_true_eq, decide_eq_true_eq] at h
    obtain ⟨⟨h1, h2⟩, h3, h4⟩ := h
    obtain ⟨ns, rfl⟩ := nats_of h4
    rw [List.length_map] at h1 h2 h3
    cases p with
    | int i =>
      have z : (decide (0 ≤ i) && decide (i ≤ (ns.length : Int) - 1)) = true := h3
      rw [Bool.and_eq_true, decide_eq_true_eq, decide_eq_true_eq] at z
      exact ⟨(i.toNat, ns), by unfold cdD; rw [Int.toNat_of_nonneg z.1], by show i.toNat < ns.length; omega, h2⟩
    | _ => cases h3
  · cases h
theorem natD_all : ∀ ls : List Nat, (ls.map dN).all natD = true
  | [] => rfl
  | n :: ls => by
    rw [List.map_cons, List.all_cons, natD_all ls, Bool.and_true]
    exact decide_eq_true (show (0 : Int) ≤ (n : Int) by omega)
theorem isCd_cdD {c : Cd} (h : CdOk c) : isCd (cdD c) = true := by
  have h1 : c.1 < c.2.length := h.1
  have h2 := h.2
  show ((decide (1 ≤ _) && decide (_ ≤ 12)) && (inR (.int (c.1 : Int)) 0 _ && List.all _ natD)) = true
  rw [List.length_map, natD_all, Bool.and_true, decide_eq_true (show 1 ≤ c.2.length by omega), decide_eq_true h2]
  show ((true && true) && (decide ((0 : Int) ≤ (c.1 : Int)) && decide ((c.1 : Int) ≤ (c.2.length : Int) - 1))) = true
  rw [decide_eq_true (by omega), decide_eq_true (by omega)]
  rfl
def spIsCoder : Sp := fun vs H Q _ => ∃ v d, vs = [v] ∧ Th H v d ∧ ∀ H', Same H H' → Q (.bl (isCd d)) H'
theorem isCd_two {ds : List PyData} (h : ds.length ≠ 2) : isCd (.tuple ds) = false := by
  unfold isCd
  split
  · rename_i e
    cases e
    exact absurd rfl h
  · rfl
theorem isCd_no {p l : PyData} (h : isT l = false) : isCd (.tuple [p, l]) = false := by
  cases l <;> first | rfl | (cases h)
end
end Lk
end
section
set_option maxRecDepth 100000
set_option maxHeartbeats 2000000
/-! refuse_no_coder, next_coder, step, words_of, behind. -/
namespace Lk
open PySem PySem.Spec PyProof.Rows L2
/-- a slice of a tuple, new or not -/
def rCut (K : PySem.W.Frag) : V → Option Int → Option Int → Hp → VK → Prop := fun x lo hi H Q => ∃ a xs, x = .ref a ∧ SqT K H a xs ∧ ∀ b H', Same H H' → SqT K H' b (cutV xs lo hi) → (H' b = none ∨ H' b = some (.tup (cutV xs lo hi)) ∨ True) → Q (.ref b) H'
theorem sl_cut {X : Cx} : SlR X (rCut X.K) := by
  intro pins s σ H x v vl vu lo hi sl Q I rx hs pl pu h
  obtain ⟨a, xs, rfl, hx, q⟩ := h
  refine sl_tupA pins s σ H _ v vl vu _ _ sl Q I rx hs pl pu ⟨a, xs, rfl, hx, fun z => ?_, fun z p hp => ?_⟩
  · refine q a H (Same.refl H) ?_ (.inr (.inr trivial))
    have e : cutV xs lo hi = xs := by
      unfold cutV
      rw [z.1, z.2, List.drop_zero, Nat.sub_zero, List.take_length]
    rw [e]
    exact hx
  · exact q p _ (same_new hp) (.inl (.inl upd_same)) (.inr (.inr trivial))
theorem set_cut (l : List Nat) (i v : Nat) (h : i < l.length) : l.take i ++ v :: l.drop (i + 1) = l.set i v := by
  rw [List.set_eq_take_append_cons_drop, if_pos h]
theorem nat_at {l : List Nat} {i : Nat} (h : i < l.length) : (l.map vN)[i]? = some (V.int ((l.getD i 0 : Nat) : Int)) := by
  rw [List.getElem?_map, List.getD_eq_getElem?_getD, List.getElem?_eq_getElem h]
  rfl
/-- no list, no dict in it -/
def noL : PyData → Bool
  | .list _ => false
  | .dict _ => false
  | .tuple ds => noLs ds
  | _ => true
where noLs : List PyData → Bool
  | [] => true
  | d :: ds => noL d && noLs ds
mutual
theorem Th.but {H H2 : Hp} {W : Addr} {ws : List V} (hW : H W = some (.lst ws)) (s : SameBut W H H2) : ∀ (d : PyData) {v : V}, noL d = true → Th H v d → Th H2 v d
  | .none, _, _, h => by cases h; exact .non
  | .bool b, _, _, h => by cases h; exact .bl b
  | .int i, _, _, h => by cases h; exact .int i
  | .str x, _, _, h => by cases h; exact .str x
  | .list ds, _, n, _ => by cases n
  | .tuple ds, _, n, h => by
    cases h with
    | tup e m => exact .tup (s _ _ (fun z => by rw [z, hW] at e; cases e) e) (ThAll.but hW s ds n m)
  | .dict kvs, _, n, h => by cases n
theorem ThAll.but {H H2 : Hp} {W : Addr} {ws : List V} (hW : H W = some (.lst ws)) (s : SameBut W H H2) : ∀ (ds : List PyData) {vs : List V}, noL.noLs ds = true → ThAll H vs ds → ThAll H2 vs ds
  | [], _, _, h => by cases h; exact .nil
  | d :: ds, _, n, h => by
    have n2 : (noL d && noL.noLs ds) = true := n
    rw [Bool.and_eq_true] at n2
    cases h with
    | cons a b => exact .cons (Th.but hW s d n2.1 a) (ThAll.but hW s ds n2.2 b)
end
theorem noLs_append {ds es : List PyData} (a : noL.noLs ds = true) (b : noL.noLs es = true) : noL.noLs (ds ++ es) = true := by
  induction ds with
  | nil => exact b
  | cons d ds ih =>
    have n2 : (noL d && noL.noLs ds) = true := a
    rw [Bool.and_eq_true] at n2
    show (noL d && noL.noLs (ds ++ es)) = true
    rw [n2.1, ih n2.2]
    rfl
theorem noLs_map {α : Type} {f : α → PyData} (h : ∀ x, noL (f x) = true) : ∀ l : List α, noL.noLs (l.map f) = true
  | [] => rfl
  | x :: l => by
    show (noL (f x) && noL.noLs (l.map f)) = true
    rw [h, noLs_map h l]
    rfl
theorem noL_cdD (c : Cd) : noL (cdD c) = true := by
  show (true && (noL.noLs _ && true)) = true
  rw [noLs_map (f := dN) (fun _ => rfl) c.2]
  rfl
theorem Cat.but {H H2 : Hp} {W : Addr} {ws : List V} {v : V} {c : Cd} (hW : H W = some (.lst ws)) (s : SameBut W H H2) (h : Cat H v c) : Cat H2 v c := (Th.but hW s (cdD c) (noL_cdD c) h.th).cat
def dW (w : Nat × Nat) : PyData := .tuple [dN w.1, dN w.2]
theorem noL_dW (w : Nat × Nat) : noL (dW w) = true := rfl
section
variable {P : Program} {w : World} {K : PySem.W.Frag} {mg : Str → Option Value} {base : Heap}
def spRefCoder (C : Addr) : Sp := fun vs H Q E => ∃ v d, vs = [v] ∧ Th H v d ∧ (isCd d = true → ∀ H', Same H H' → Q .non H') ∧ (isCd d = false → ∀ H', Same H H' → E (.ref C) none H')
/-- the lengths with one word more at a place -/
def spLonger : Sp := fun vs H Q _ => ∃ (b : Addr) (ls : List Nat) (p : Nat), vs = [.ref b, .int (p : Int)] ∧ H b = some (.tup (ls.map vN)) ∧ p < ls.length ∧ ls.length ≤ 12 ∧ ∀ b' H', Same H H' → H' b' = some (.tup ((ls.set p (ls.getD p 0 + 1)).map vN)) → Q (.ref b') H'
/-- so many rounds later: the lengths are as much more -/
def spLater : Sp := fun vs H Q _ => ∃ v c m, vs = [v, .int ((m : Nat) : Int)] ∧ Cat H v c ∧ CdOk c ∧ ∀ v' H', Same H H' → Cat H' v' (c.1, c.2.map (· + m * c.2.length)) → Q v' H'
def spTill : Sp := fun vs H Q _ => ∃ p : Nat, vs = [.int (p : Int)] ∧ 1 ≤ p ∧ p ≤ 12 ∧ Q (.int (((p - 1) * (p - 1) + 1 : Nat) : Int)) H
def spNext : Sp := fun vs H Q _ => ∃ v c, vs = [v] ∧ Cat H v c ∧ CdOk c ∧ ∀ v' H', Same H H' → Cat H' v' (nx c) → Q v' H'
end
end Lk
end
section
set_option maxRecDepth 100000
set_option maxHeartbeats 2000000
namespace Lk
open PySem PySem.Spec PyProof.Rows L2
theorem it_cdOk {c : Cd} (n : Nat) (h : CdOk c) : CdOk (it n c) := ⟨it_ok n h.1, by rw [it_len]; exact h.2⟩
theorem nx_cdOk {c : Cd} (h : CdOk c) : CdOk (nx c) := it_cdOk 1 h
theorem dW_at {H : Hp} {t : Addr} {a b : Nat} (e : H t = some (.tup [.int (a : Int), .int (b : Int)])) : Th H (.ref t) (dW (a, b)) := .tup e (.cons (.int _) (.cons (.int _) .nil))
section
variable {P : Program} {w : World} {K : PySem.W.Frag} {mg : Str → Option Value} {base : Heap}
/-- NoCoder, then NoCount of a number beyond m; else what is told of the coder and the number -/
def spOf (C1 C2 : Addr) (m : Nat) (told : Cd → Nat → VK → Hp → Prop) : Sp := fun vs H Q E => ∃ v u d e, vs = [v, u] ∧ Th H v d ∧ Th H u e ∧ (isCd d = false → ∀ H', Same H H' → E (.ref C1) none H') ∧
  (isCd d = true → inR e 0 m = false → ∀ H', Same H H' → E (.ref C2) none H') ∧ (∀ c (n : Nat), d = cdD c → CdOk c → e = .int n → n ≤ m → told c n Q H)
def toldWords (c : Cd) (n : Nat) (Q : VK) (H : Hp) : Prop := ∀ p H' ws, H p = none → Same H H' → H' p = some (.lst ws) → ThAll H' ws ((wds n c).map dW) → Q (.ref p) H'
def toldCoder (c : Cd) (n : Nat) (Q : VK) (H : Hp) : Prop := ∀ v H', Same H H' → Cat H' v (it n c) → Q v H'
theorem count_of {e : PyData} {m : Nat} (h : inR e 0 m = true) : ∃ n : Nat, e = .int n ∧ n ≤ m := by
  cases e with
  | int i =>
    have z : (decide ((0 : Int) ≤ i) && decide (i ≤ (m : Int))) = true := h
    rw [Bool.and_eq_true, decide_eq_true_eq, decide_eq_true_eq] at z
    exact ⟨i.toNat, by rw [Int.toNat_of_nonneg z.1], by omega⟩
  | _ => cases h
end
end Lk
end
section
set_option maxRecDepth 100000
set_option maxHeartbeats 2000000
/-! last_goings, ring_from, ring. -/
namespace Lk
open PySem PySem.Spec PyProof.Rows L2
def gos (c : Cd) : List Nat := (List.range c.2.length).map (go c)
theorem gos_len (c : Cd) : (gos c).length = c.2.length := by
  unfold gos
  rw [List.length_map, List.length_range]
theorem gos_at {c : Cd} {i : Nat} (h : i < c.2.length) : (gos c)[i]? = some (go c i) := by
  unfold gos
  rw [List.getElem?_map, List.getElem?_range h]
  rfl
theorem inV_nat (k : Nat) : ∀ l : List Nat, inV (vN k) (l.map vN) = decide (k ∈ l)
  | [] => rfl
  | x :: l => by
    show ((x : Int) == (k : Int) || inV (vN k) (l.map vN)) = _
    rw [inV_nat k l]
    by_cases e : k = x
    · rw [e, decide_eq_true List.mem_cons_self, beq_self_eq_true, Bool.true_or]
    · have e2 : ((x : Int) == (k : Int)) = false := beq_eq_false_iff_ne.mpr fun z => e (by omega)
      rw [e2, Bool.false_or]
      by_cases m : k ∈ l
      · rw [decide_eq_true m, decide_eq_true (List.mem_cons_of_mem _ m)]
      · rw [decide_eq_false m, decide_eq_false fun z => (List.mem_cons.mp z).elim e m]
theorem flat_nat : ∀ l : List Nat, (l.map vN).all flatV = true
  | [] => rfl
  | x :: l => by
    rw [List.map_cons, List.all_cons, flat_nat l]
    rfl
section
variable {P : Program} {w : World} {K : PySem.W.Frag} {mg : Str → Option Value} {base : Heap}
def spLast : Sp := fun vs H Q _ => ∃ v c, vs = [v] ∧ Cat H v c ∧ CdOk c ∧ ∀ p H', H p = none → Same H H' → H' p = some (.lst ((gos c).map vN)) → Q (.ref p) H'
/-- a list of places, new, or None -/
def ListV (H H' : Hp) (v : V) : Option (List Nat) → Prop
  | none => v = .non
  | some l => ∃ p, v = .ref p ∧ H p = none ∧ H' p = some (.lst (l.map vN))
def spRingFrom : Sp := fun vs H Q _ => ∃ (v : V) (c : Cd) (a : Nat), vs = [v, .int (a : Int)] ∧ Cat H v c ∧ CdOk c ∧ a < c.2.length ∧ ∀ r v' H', RingFrom c a r → Same H H' → ListV H H' v' r → Q v' H'
theorem ringL_one (c : Cd) (a : Nat) : ringL c a 1 = [a] := rfl
theorem ringL_len (c : Cd) (a k : Nat) : (ringL c a k).length = k := by
  unfold ringL
  rw [List.length_map, List.length_range]
end
end Lk
end
section
set_option maxRecDepth 100000
set_option maxHeartbeats 2000000
/-! ring, in_round, enter_round, ahead, round_of. -/
namespace Lk
open PySem PySem.Spec PyProof.Rows L2
theorem bl_iff {b : Bool} {A : Prop} (h : b = true ↔ A) : ∀ {a : Bool}, (a = true ↔ A) → a = b := fun {a} g => by
  cases a with
  | true => exact (h.mpr (g.mp rfl)).symm
  | false =>
    cases b with
    | false => rfl
    | true => exact absurd (g.mpr (h.mp rfl)) Bool.false_ne_true
theorem cdD_inj {x y : Cd} (e : cdD x = cdD y) : x = y := by
  unfold cdD at e
  injection e with e
  injection e with e1 e
  injection e with e2 _
  injection e1 with e1
  injection e2 with e2
  refine Prod.ext (by omega) ?_
  refine List.map_inj_right (f := dN) (fun a b h => ?_) |>.mp e2
  injection h with h
  omega
theorem dW_of {H : Hp} {v : V} {x : Nat × Nat} (h : Th H v (dW x)) : ∃ t, v = .ref t ∧ H t = some (.tup [.int (x.1 : Int), .int (x.2 : Int)]) := by
  cases h with
  | tup e m =>
    cases m with
    | cons a m =>
      cases m with
      | cons b m =>
        cases m
        cases a
        cases b
        exact ⟨_, rfl, e⟩
theorem ListV.at {H H1 H2 : Hp} {v : V} {r : Option (List Nat)} (s : Same H1 H2) (h : ListV H H1 v r) : ListV H H2 v r := by
  cases r with
  | none => exact h
  | some l =>
    obtain ⟨p, e, n, q⟩ := h
    exact ⟨p, e, n, s _ _ q⟩
theorem ListV.from {H H1 H2 : Hp} {v : V} {r : Option (List Nat)} (s : Same H H1) (h : ListV H1 H2 v r) : ListV H H2 v r := by
  cases r with
  | none => exact h
  | some l =>
    obtain ⟨p, e, n, q⟩ := h
    exact ⟨p, e, s.free n, q⟩
section
variable {P : Program} {w : World} {K : PySem.W.Frag} {mg : Str → Option Value} {base : Heap}
/-- NoCoder of what is none; else what is told of the coder -/
def spOne (C : Addr) (told : Cd → VK → Hp → Prop) : Sp := fun vs H Q E => ∃ v d, vs = [v] ∧ Th H v d ∧ (isCd d = false → ∀ H', Same H H' → E (.ref C) none H') ∧ (∀ c, d = cdD c → CdOk c → told c Q H)
def toldRing (c : Cd) (Q : VK) (H : Hp) : Prop := ∀ r v H', RingOf c r → Same H H' → ListV H H' v r → Q v H'
def toldIn (c : Cd) (Q : VK) (H : Hp) : Prop := ∀ b H', (b = true ↔ Free c) → Same H H' → Q (.bl b) H'
def toldEnter (c : Cd) (Q : VK) (H : Hp) : Prop := ∀ n v p H', Ahead c n → Same H H' → Cat H' v (it n c) → H' p = some (.tup [.int (n : Int), v]) → Q (.ref p) H'
def toldAhead (c : Cd) (Q : VK) (H : Hp) : Prop := ∀ (n : Nat) H', Ahead c n → Same H H' → Q (.int (n : Int)) H'
def toldRound (c : Cd) (Q : VK) (H : Hp) : Prop := ∀ n p H' ws, Ahead c n → H p = none → Same H H' → H' p = some (.lst ws) → ThAll H' ws ((wds (c.2.length * c.2.length) (it n c)).map fun x => dW (x.1, x.2 % c.2.length)) → Q (.ref p) H'
end
end Lk
end
section
namespace Lk
open PySem PySem.Spec PyProof.Rows L2
def top (i : Nat) : Stmt := PySem.Challenge.pw_looplearn_k60_texts_of_no_coder.main.body.getD i (.Pass ⟨0, 0, 0, 0⟩)
abbrev s_NoPairs_init : Stmt := inClass (top 4) 0
abbrev s_is_whole : Stmt := top 19
abbrev s_is_within : Stmt := top 20
abbrev s_is_coder : Stmt := top 23
abbrev s_read_number : Stmt := top 26
abbrev s_read_coder : Stmt := top 27
abbrev s_law_pail : Stmt := top 29
abbrev s_law_dip : Stmt := top 30
abbrev s_law_same : Stmt := top 31
abbrev s_law_kind : Stmt := top 32
abbrev s_law_read : Stmt := top 33
abbrev s_law_bent : Stmt := top 34
abbrev s_law_caught : Stmt := top 35
abbrev s_law : Stmt := top 36
end Lk
end
section
set_option maxRecDepth 100000
set_option maxHeartbeats 2000000
namespace Lk
open PySem PySem.Spec PyProof.Rows L2
section
variable {P : Program} {w : World} {K : PySem.W.Frag} {mg : Str → Option Value} {base : Heap}
theorem sc_whole : FnScope ["thing"] ["thing"] (defScope s_is_whole) := ⟨rfl, rfl, rfl, by decide +kernel, rfl, by decide +kernel, by decide +kernel⟩
theorem ok_whole {f : Addr} {fd : FuncData} (F : Fun K "is_whole" "is_whole" s_is_whole f fd) (mi : mg "isinstance" = none) (mn : mg "int" = none) (mb : mg "bool" = none) : FnOk P w K mg base CX0 1 f fd ["thing"] spWhole := by
  refine F.ok sc_whole (fun vs H Q E h => ?_) (fun cdv A outer s H vs Q E hr h => ?_)
  · obtain ⟨v, d, rfl, _⟩ := h
    rfl
  · obtain ⟨v, d, rfl, hv, q⟩ := h
    refine ⟨_, pss_one (ps_ret (pe_and (pe_callB call_isi (by rfl) mi (by decide +kernel) (pa_cons (pv 0) (pa_cons (pe_bltn (v := .ty "int") (by rfl) mn (by decide +kernel) rfl) pa_nil)))
      (pe_one (pe_not (pe_callB call_isi (by rfl) mi (by decide +kernel) (pa_cons (pv 0) (pa_cons (pe_bltn (v := .ty "bool") (by rfl) mb (by decide +kernel) rfl) pa_nil))))))), ?_⟩
    refine ⟨_, rfl, v, .ty "int", _, _, isI d, rfl, .ty _, hv.ty, kit_int d, _, rfl, ?_⟩
    cases hI : isI d with
    | false =>
      have e : isW d = false := by cases d <;> first | rfl | (cases hI)
      rw [e] at q
      exact q
    | true =>
      refine ⟨_, rfl, v, .ty "bool", _, _, isB d, rfl, .ty _, hv.ty, kit_bool d, _, rfl, ?_⟩
      have e : isW d = !isB d := by cases d <;> first | rfl | (cases hI)
      rw [e] at q
      exact q
end
end Lk
end
section
set_option maxRecDepth 100000
set_option maxHeartbeats 2000000
namespace Lk
open PySem PySem.Spec PyProof.Rows L2
section
variable {P : Program} {w : World} {K : PySem.W.Frag} {mg : Str → Option Value} {base : Heap}
theorem sc_within : FnScope ["thing", "least", "most"] ["thing", "least", "most"] (defScope s_is_within) := ⟨rfl, rfl, rfl, by decide +kernel, rfl, by decide +kernel, by decide +kernel⟩
theorem ok_within {f : Addr} {fd : FuncData} (F : Fun K "is_within" "is_within" s_is_within f fd) (cw : C8.Cal P w K mg base 1 "is_whole" spWhole []) : FnOk P w K mg base CX0 2 f fd ["thing", "least", "most"] spWithin := by
  refine F.ok sc_within (fun vs H Q E h => ?_) (fun cdv A outer s H vs Q E hr h => ?_)
  · obtain ⟨v, d, a, b, rfl, _⟩ := h
    rfl
  · obtain ⟨v, d, a, b, rfl, hv, q⟩ := h
    refine ⟨_, pss_one (by exact (ps_ret (pe_and (C8.pe_c cw hr (Nat.le_refl _) rfl (pa_cons (pv 0) pa_nil)) (pe_one (pe_chain op_le op_le (pv 1) (pv 0) (pv 2)))))), ?_⟩
    refine ⟨_, rfl, v, d, rfl, hv, _, rfl, ?_⟩
    cases hv with
    | int i =>
      refine ⟨_, rfl, _, rfl, _, _, rfl, rfl, _, rfl, ?_⟩
      have e : inR (.int i) a b = (decide (a ≤ i) && decide (i ≤ b)) := rfl
      rw [e] at q
      refine ite2 (fun g => ?_) (fun g => ?_)
      · refine ⟨_, rfl, _, _, rfl, rfl, ?_⟩
        rw [g, Bool.true_and] at q
        exact q
      · rw [Bool.eq_false_iff.mpr g, Bool.false_and] at q
        exact q
    | _ => exact q
end
end Lk
end
section
set_option maxRecDepth 100000
set_option maxHeartbeats 2000000
namespace Lk
open PySem PySem.Spec PyProof.Rows L2
section
variable {P : Program} {w : World} {K : PySem.W.Frag} {mg : Str → Option Value} {base : Heap}
abbrev nIC : List Str := ["thing", "place", "lengths", "length"]
theorem sc_isCoder : FnScope nIC ["thing"] (defScope s_is_coder) := ⟨rfl, rfl, rfl, by decide +kernel, rfl, by decide +kernel, by decide +kernel⟩
theorem ok_isCoder {f : Addr} {fd : FuncData} (F : Fun K "is_coder" "is_coder" s_is_coder f fd) (cw : C8.Cal P w K mg base 1 "is_whole" spWhole []) (ci : C8.Cal P w K mg base 2 "is_within" spWithin [])
    (mi : mg "isinstance" = none) (mt : mg "tuple" = none) (ml : mg "len" = none) (ma : mg "all" = none) {tp : Tok} (mp : mg "MOST_PLACES" = some (.int 12 tp)) : FnOk P w K mg base CX0 3 f fd ["thing"] spIsCoder := by
  refine F.ok sc_isCoder (fun vs H Q E h => ?_) (fun cdv A outer s H vs Q E hr h => ?_)
  · obtain ⟨v, d, rfl, _⟩ := h
    rfl
  · obtain ⟨v, d, rfl, hv, q⟩ := h
    have nd := sc_isCoder.nd
    refine ⟨_, pss_cons (by exact (ps_if (PW.pt (pw_or (pt_not (pt_val (pe_callB call_isi (by rfl) mi (by decide +kernel) (pa_cons (pv 0) (pa_cons (pe_bltn (v := .ty "tuple") (by rfl) mt (by decide +kernel) rfl) pa_nil)))))
        (pw_or1 (pt_cmpR op_ne (pe_callB call_len_seq (by rfl) ml PySem.boot_len (pa_cons (pv 0) pa_nil)) pe_int (nomark _))))) (pss_one (ps_ret pe_bl)) pss_nil))
      (pss_cons (by exact (ps_asg (pv 0) (pg_tup rfl (pgs_cons (pg_name (i := 1) nd rfl (Or.inl rfl)) (pgs_cons (pg_name (i := 2) nd rfl (Or.inl rfl)) pgs_nil)))))
      (pss_cons (by exact (ps_if (PW.pt (pw_or (pt_not (pt_val (pe_callB call_isi (by rfl) mi (by decide +kernel) (pa_cons (pv 2) (pa_cons (pe_bltn (v := .ty "tuple") (by rfl) mt (by decide +kernel) rfl) pa_nil)))))
        (pw_or1 (pt_not (pt_chain op_le op_le pe_int (pe_callB call_len_seq (by rfl) ml PySem.boot_len (pa_cons (pv 2) pa_nil)) (pe_glob (v := .int 12) rfl mp ⟨_, rfl⟩)))))) (pss_one (ps_ret pe_bl)) pss_nil))
      (pss_cons (by exact (ps_if (pt_not (pt_val (C8.pe_c ci hr (by decide) rfl (pa_cons (pv 1) (pa_cons pe_int (pa_cons (pe_op op_sub (pe_callB call_len_seq (by rfl) ml PySem.boot_len (pa_cons (pv 2) pa_nil)) pe_int) pa_nil)))))) (pss_one (ps_ret pe_bl)) pss_nil))
      (pss_one (by exact (ps_ret (pe_callB (cr_all rfl) (by rfl) ma (by decide +kernel) (pa_cons (pe_lc (own := [("length", 3)]) (g := gName 3) (tt := tYes) rfl nd (pi_tup (pv 2)) (blkOk_by (N := nIC) (sc := defScope s_is_coder) (by decide +kernel))
          (fun _ _ _ _ _ => pg_name (i := 3) nd rfl (Or.inl rfl)) (fun _ _ _ _ _ => pts_nil) (fun _ _ _ _ _ => pe_and (C8.pe_c cw hr (by decide) rfl (pa_cons (pv 3) pa_nil)) (pe_one (pe_cmpR op_ge (pv 3) pe_int (nomark _))))) pa_nil)))))))), ?_⟩
    refine ⟨_, rfl, v, .ty "tuple", _, _, isT d, rfl, .ty _, hv.ty, kit_tuple d, _, rfl, ?_⟩
    cases hT : isT d with
    | false =>
      have e : isCd d = false := by cases d <;> first | rfl | (cases hT)
      rw [e] at q
      exact q H (Same.refl H)
    | true =>
      cases hv with
      | tup ea ma =>
        rename_i a xs ds
        refine ⟨_, rfl, a, xs, rfl, .inr (SqT.of ea), rfl, _, rfl, ite2 (fun g => ?_) (fun g => ?_)⟩
        · have z : xs.length ≠ 2 := fun z => by
            rw [z] at g
            cases g
          have e : isCd (.tuple ds) = false := isCd_two fun z2 => z (by rw [ma.length, z2])
          rw [e] at q
          exact q H (Same.refl H)
        · have z : xs.length = 2 := Classical.byContradiction fun z => g (by
            rw [Bool.not_eq_true', decide_eq_false_iff_not]
            intro y
            exact z (by have := V.int.inj y; omega))
          cases ma with
          | nil => cases z
          | cons hp m1 =>
            rename_i xp xs1 dp ds1
            cases m1 with
            | nil => cases z
            | cons hl m2 =>
              rename_i xl xs2 dl ds2
              cases m2 with
              | cons _ m3 => exact absurd z (by simp only [List.length_cons]; omega)
              | nil =>
                refine ⟨_, rfl, a, [xp, xl], rfl, SqT.of ea, rfl, _, _, rfl, _, _, rfl, rfl, ?_⟩
                refine ⟨_, rfl, xl, .ty "tuple", _, _, isT dl, rfl, .ty _, hl.ty, kit_tuple dl, _, rfl, ?_⟩
                cases hT2 : isT dl with
                | false =>
                  rw [isCd_no hT2] at q
                  exact q H (Same.refl H)
                | true =>
                  cases hl with
                  | tup eb mb =>
                    rename_i b ls dls
                    have hll := mb.length
                    refine ⟨_, rfl, b, ls, rfl, .inr (SqT.of eb), _, _, rfl, rfl, _, rfl, ?_⟩
                    have eC : isCd (.tuple [dp, .tuple dls]) = ((decide (1 ≤ dls.length) && decide (dls.length ≤ 12)) && (inR dp 0 ((dls.length : Int) - 1) && dls.all natD)) := rfl
                    rw [eC, ← hll] at q
                    refine ite2 (fun g1 => ?_) (fun g1 => ?_)
                    · have g1' : 1 ≤ ls.length := by have y := of_decide_eq_true g1; omega
                      refine ⟨_, _, rfl, rfl, _, rfl, ?_⟩
                      rw [decide_eq_true g1', Bool.true_and] at q
                      have e12 : decide ((ls.length : Int) ≤ 12) = decide (ls.length ≤ 12) := by
                        by_cases c : ls.length ≤ 12
                        · rw [decide_eq_true c, decide_eq_true (by omega)]
                        · rw [decide_eq_false c, decide_eq_false (by omega)]
                      rw [e12]
                      cases c12 : decide (ls.length ≤ 12) with
                      | false =>
                        rw [c12, Bool.false_and] at q
                        exact q H (Same.refl H)
                      | true =>
                        rw [c12, Bool.true_and] at q
                        have c12' := of_decide_eq_true c12
                        refine ⟨_, rfl, _, rfl, b, ls, rfl, .inr (SqT.of eb), _, _, rfl, rfl, xp, dp, 0, _, rfl, hp, _, rfl, ?_⟩
                        cases ci : inR dp 0 ((ls.length : Int) - 1) with
                        | false =>
                          rw [ci, Bool.false_and] at q
                          exact q H (Same.refl H)
                        | true =>
                          rw [ci, Bool.true_and] at q
                          refine ⟨_, rfl, b, rfl, ⟨ls, SqT.of eb⟩, fun D nD => ?_⟩
                          have ml2 : (dls.map natD).length ≤ 100000 := by rw [List.length_map, ← hll]; omega
                          refine lc_it walk_tup (fun i H3 => Same H H3 ∧ H3 D = some (.lst (((dls.map natD).take i).map V.bl))) ⟨same_new nD, upd_same⟩ (fun i H3 _ p => SqT.of (p.1 _ _ eb)) ?_ ?_
                          · rintro i x H3 H4 hi ⟨s3, e3⟩ ⟨rfl, hx⟩
                            obtain ⟨dx, hdx, tx⟩ := mb.get hx
                            have hc : (dls.map natD)[i]? = some (natD dx) := by rw [List.getElem?_map, hdx]; rfl
                            refine ⟨rfl, _, rfl, x, dx, rfl, Th.same s3 dx tx, _, rfl, ?_⟩
                            have fin : ∀ y : Bool, y = natD dx → ∃ acc, H4 D = some (HO.lst acc) ∧ acc.length < sizeLine ∧ Same H (upd H4 D (HO.lst (acc ++ [V.bl y]))) ∧ upd H4 D (HO.lst (acc ++ [V.bl y])) D = some (HO.lst (((dls.map natD).take (i + 1)).map V.bl)) := by
                              rintro y rfl
                              obtain ⟨acc, a1, a2, a3, a4⟩ := snoc_bl (H4 := H4) (D := D) e3 hc ml2
                              exact ⟨acc, a1, a2, same_push s3 nD, a3⟩
                            cases tx with
                            | int n => exact ⟨_, rfl, _, _, rfl, rfl, fin _ rfl⟩
                            | _ => exact fin _ rfl
                          · rintro H3 ⟨s3, e3⟩
                            rw [show ls.length = (dls.map natD).length by rw [List.length_map, hll], List.take_length] at e3
                            refine ⟨D, _, rfl, SqL.of e3, ?_⟩
                            rw [List.all_map]
                            exact q H3 s3
                    · have g1' : ¬ 1 ≤ ls.length := fun y => g1 (decide_eq_true (by omega))
                      refine ⟨_, rfl, ?_⟩
                      rw [decide_eq_false g1', Bool.false_and, Bool.false_and] at q
                      exact q H (Same.refl H)
                  | _ => cases hT2
      | _ => cases hT
end
end Lk
end
section
set_option maxRecDepth 100000
set_option maxHeartbeats 2000000
/-! A caught error that a name keeps behind its suite; isinstance of it. -/
namespace Lk
open PySem PySem.Spec PyProof.Rows L2
/-- an error's object of the class cls, its own dict at d, caught before -/
def ExT (cls : Value) (d : Option Addr) (a : Addr) : HO := .ext fun h => ∃ (oe : Obj) (vs : Array Value), h.get? a = some oe ∧ Zc cls d oe ∧ oe.data = .fields vs
theorem exT_ok {P : Program} {w : World} {H : Hp} {h : Heap} {a : Addr} {cls : Value} {d : Option Addr} {oe : Obj} {vs : Array Value} (e : h.get? a = some oe) (z : Zc cls d oe) (hd : oe.data = .fields vs) : ObjOk P w H h a (ExT cls d a) :=
  ⟨⟨oe, vs, e, z, hd⟩, ⟨oe, e⟩, fun _ _ ⟨o, v, q, r⟩ k => ⟨o, v, k o q, r⟩⟩
section
variable {X : Cx} {pins : List (Addr × Obj)} {σ : L2.St} {H : Hp} {s : Shared}
/-- what is pinned and was made since the entry may be tracked -/
theorem tracked {a : Addr} {oe : Obj} {o : HO} (I : Inv X ((a, oe) :: pins) σ H s) (h0 : X.s_0.heap.get? a = none) (hp : ∀ p ∈ X.pn ++ pins, p.1 ≠ a) (new : ObjOk X.prog X.w (upd H a o) s.heap a o) : Inv X pins σ (upd H a o) s := by
  obtain ⟨ha, hn, nL, nF, nc⟩ := I.pin (a, oe) (List.mem_append.mpr (.inr List.mem_cons_self))
  refine ⟨I.ok, I.os, I.bare, ⟨I.base.keep, I.base.slot, fun b u e n hx => ?_, I.base.there, fun b xs e => ?_, fun b u xs e => ?_, fun b ps e => ?_⟩, I.loc, I.cell, ?_, fun x c e => ?_, fun p h => ?_, I.hok.laidN (fun _ _ e => e) hn new, I.len⟩
  · rw [upd_ne (fun z => by rw [z, h0] at e; cases e)]
    exact I.base.free b u e n hx
  · rw [upd_ne (ne_of_none (I.base.tups b xs e) hn)]
    exact I.base.tups b xs e
  · rw [upd_ne (ne_of_none (I.base.frzs b u xs e) hn)]
    exact I.base.frzs b u xs e
  · obtain ⟨m, q⟩ := I.base.tbls b ps e
    exact ⟨m, by rw [upd_ne (ne_of_none q hn)]; exact q⟩
  · rw [upd_ne nL.symm]
    exact I.free
  · rw [upd_ne (fun z => ?_)]
    · exact I.freeC x c e
    · obtain ⟨v, o', q1, q2⟩ := I.cell x c e
      have q3 : s.heap.get? a = some o' := by rw [← z]; exact q1
      rw [show s.heap.get? a = some oe from ha] at q3
      cases q3
      exact nc v q2
  · have hm : p ∈ X.pn ++ ((a, oe) :: pins) := by
      rcases List.mem_append.mp h with h | h
      · exact List.mem_append.mpr (.inl h)
      · exact List.mem_append.mpr (.inr (List.mem_cons_of_mem _ h))
    obtain ⟨q1, q2, q3⟩ := I.pin p hm
    exact ⟨q1, by rw [upd_ne (hp p h)]; exact q2, q3⟩
theorem unsuiteP {a : Addr} {q : Addr × Obj} (I : Inv (X.suite a (q :: (X.pn ++ pins))) [] σ H s) (ok : X.Ok) : Inv X (q :: pins) σ H s :=
  ⟨ok, I.os, I.bare, I.base, I.loc, I.cell, I.free, I.freeC, fun p hp => I.pin p (by
    rw [List.append_nil]
    show p ∈ q :: (X.pn ++ pins)
    rcases List.mem_append.mp hp with h | h
    · exact List.mem_cons_of_mem _ (List.mem_append.mpr (.inl h))
    · rcases List.mem_cons.mp h with e | h
      · rw [e]; exact List.mem_cons_self
      · exact List.mem_cons_of_mem _ (List.mem_append.mpr (.inr h))), I.hok, I.len⟩
end
/-- the wish of a clause that takes whatever comes, and behind which the error is kept -/
def wKeep (K : PySem.W.Frag) (c : Value) (i : Nat) (ts : Addr → Value → Option Addr → TS) (D : Ends) : WX := fun cls d σ H =>
  PySem.W.exmOne K cls c = some true ∧ ∀ a, H a = none → ts a cls d { nx := fun σ' H' => H' a = none → D.nx (σ'.set i none) (upd H' a (ExT cls d a)), rt := fun _ _ => False, bk := fun _ _ => False, ct := fun _ _ => False } (σ.set i (some (.ref a))) H
section
variable {X : Cx} {x n : Str} {c : Value} {i : Nat} {body suite : List Stmt} {b₀ : Stmt} {np pos pos' : Pos} {tb : WX → TS} {ts : Addr → Value → Option Addr → TS}
/-- what is known of an error that came down: its object where it landed, that it is new, that the frame's state stands -/
structure Down (X : Cx) (pins : List (Addr × Obj)) (a : Addr) (cls : Value) (d : Option Addr) (σ : L2.St) (H : Hp) (s : Shared) : Prop where
  st : Inv X pins σ H s
  ob : ∃ oe vs, s.heap.get? a = some oe ∧ Zc cls d oe ∧ oe.data = .fields vs
  nH : H a = none
  n0 : X.s_0.heap.get? a = none
  nP : ∀ p ∈ X.pn ++ pins, p.1 ≠ a
  nL : a ≠ X.env.locals
  nF : a ∉ X.fs
theorem down {pins : List (Addr × Obj)} {a : Addr} {B : Heap} {cls : Value} {d : Option Addr} {σ : L2.St} {H : Hp} {sI s' : Shared} {h : Heap} (hs : X.stack = X.env :: X.outer) (hf : X.env.frame = some X.env.locals) (hex : X.ex = [])
    (J : Inv X pins σ H sI) (nb : ∀ b o, sI.heap.get? b = some o → b ∉ frs X.stack → B.get? b = some o) (up : sI.heap.UpToSlots h) (os : s'.os = sI.os) (ag : AllBare s'.gens) (na : H a = none)
    (fl : HandSPX.FlyingZ B (X.env :: X.outer) a (Zc cls d) h) : Down X pins a cls d σ H { s' with heap := h } := by
  obtain ⟨oe, vs, he, hz, hd⟩ := fl.there
  have off : a ∉ frs (X.env :: X.outer) := fun hm => by
    obtain ⟨_, o, e, q⟩ := fl.2.2.1.mem hm
    have z : oe = o := Option.some.inj (he.symm.trans e)
    exact q vs (by rw [← z]; exact hd)
  have gone : sI.heap.get? a = none := by
    rcases e : sI.heap.get? a with _ | o
    · rfl
    · have z := nb a o e (by rw [hs]; exact off)
      rw [fl.2.1] at z
      cases z
  refine ⟨J.landed nb fl.1 up os ag, ⟨oe, vs, he, hz, hd⟩, na, ?_, fun p hp z => ?_, fun z => off ?_, fun hm => off ?_⟩
  · rcases e : X.s_0.heap.get? a with _ | o
    · rfl
    · obtain ⟨u, z⟩ := J.base.there a o e (by rw [hex]; exact fun z => nomatch z)
      rw [gone] at z
      cases z
  · have q := (J.pin p hp).1
    rw [z, gone] at q
    cases q
  · exact List.mem_filterMap.mpr ⟨X.env, List.mem_cons_self, by rw [hf, z]⟩
  · obtain ⟨e, he, q⟩ := List.mem_filterMap.mp hm
    exact List.mem_filterMap.mpr ⟨e, List.mem_cons_of_mem _ he, q⟩
/-- a body that ran through a try ran -/
theorem through {pins : List (Addr × Obj)} {xe : Value → Shared → Prop} {D : Ends} {s1 : Shared} (ok : X.Ok) : ∀ {f : Flow}, SP (X.tr (X.pn ++ pins) xe) [] D f s1 → SP X pins D f s1
  | .next, ⟨σ, H, J, q⟩ => ⟨σ, H, J.ofTry ok, q⟩
  | .brk, ⟨σ, H, J, q⟩ => ⟨σ, H, J.ofTry ok, q⟩
  | .cont, ⟨σ, H, J, q⟩ => ⟨σ, H, J.ofTry ok, q⟩
  | .ret _, ⟨v, σ, H, J, r, q⟩ => ⟨v, σ, H, J.ofTry ok, r, q⟩
/-- the suite runs, its name goes, the error is tracked from then on -/
theorem kept {pins : List (Addr × Obj)} {a : Addr} {cls : Value} {d : Option Addr} {σ : L2.St} {H : Hp} {s : Shared} {D : Ends} (ok : X.Ok) (hN : X.N.Nodup) (hi : X.N[i]? = some n) (hln : X.env.kindOf n = some .local)
    (hsu : ∀ (oe : Obj) (pn : List (Addr × Obj)), Zc cls d oe → (∃ vs, oe.data = .fields vs) → PSs (X.suite a ((a, oe) :: pn)) (b₀ :: suite) (ts a cls d)) (W : Down X pins a cls d σ H s)
    (h : ts a cls d { nx := fun σ' H' => H' a = none → D.nx (σ'.set i none) (upd H' a (ExT cls d a)), rt := fun _ _ => False, bk := fun _ _ => False, ct := fun _ _ => False } (σ.set i (some (.ref a))) H)
    {R : Flow → Shared → Prop} {E1 E2 : Value → Shared → Prop} (hR : ∀ s6, wpAny (model X.prog X.w) X.A (do bindName X.env n .none; unbindBehindTheSuite X.env n pos') (fun _ s7 => SP X pins D .next s7) X.xe s6 → R .next s6) :
    wpAny (model X.prog X.w) (X.A.mark (some (.ref a))) (storeName X.env n (.ref a)) (fun _ s5 => wpAny (model X.prog X.w) (X.A.mark (some (.ref a))) (execs (b₀ :: suite) X.env) R E2 s5) E1 s := by
  obtain ⟨oe, vs, he, hz, hd⟩ := W.ob
  have S := W.st.suite he hd W.nH W.nL W.nF
  refine store_ok (X := X.suite a ((a, oe) :: (X.pn ++ pins))) (v := .ref a) S hN hi (.inl hln) rfl (fun s5 S5 => ?_) (.inr hln)
  refine wpAny_mono ((hsu oe (X.pn ++ pins) hz ⟨_, hd⟩).run [] s5 _ H _ S5 h) (fun f s6 z => ?_) fun _ _ z => z.elim
  match f, z with
  | .next, ⟨σ6, H6, S6, q6⟩ =>
    refine hR s6 (gone_ok (unsuiteP S6 ok) hN hi hln fun s7 J7 => ?_)
    obtain ⟨p1, p2, _⟩ := J7.pin (a, oe) (List.mem_append.mpr (.inr List.mem_cons_self))
    exact ⟨_, _, tracked J7 W.n0 W.nP (exT_ok p1 hz hd), q6 p2⟩
  | .brk, ⟨_, _, _, q⟩ => exact q.elim
  | .cont, ⟨_, _, _, q⟩ => exact q.elim
  | .ret _, ⟨_, _, _, _, _, q⟩ => exact q.elim
theorem ps_try_keep (hs : X.stack = X.env :: X.outer) (hf : X.env.frame = some X.env.locals) (hex : X.ex = []) (hN : X.N.Nodup) (hi : X.N[i]? = some n) (hln : X.env.kindOf n = some .local) (hc : Names X x c)
    (hb : ∀ (W : WX) (pn : List (Addr × Obj)) (xe : Value → Shared → Prop), Takes (X.tr pn xe) W → PassesOwn (model X.prog X.w) X.A X.env xe → PSs (X.tr pn xe) body (tb W))
    (hsu : ∀ (a : Addr) (oe : Obj) (cls : Value) (d : Option Addr) (pn : List (Addr × Obj)), Zc cls d oe → (∃ vs, oe.data = .fields vs) → PSs (X.suite a ((a, oe) :: pn)) (b₀ :: suite) (ts a cls d)) :
    PS X (.Try body [.ExceptHandler (some (.Name x np)) (some n) (b₀ :: suite) pos'] [] [] pos) (fun D σ H => tb (wKeep X.K c i ts D) D σ H) := by
  refine ⟨fun pins s σ H D I h => wpAny_Try_except ?_⟩
  have hfr : X.A.frames = some (X.env :: X.outer) := I.ok.frames.trans (by rw [hs])
  refine wpAny_mono ((hb (wKeep X.K c i ts D) (X.pn ++ pins) _ (fun u s' xx => ?_) PassesOwn.looking).run [] s σ H D (I.toTry _) h) (fun f s1 z => ?_) (fun _ _ z => z)
  rotate_left
  · have z' := through I.ok z
    match f, z' with
    | .next, ⟨_, _, J, q⟩ => exact wpAny_execs_nil ⟨_, _, J, q⟩
    | .brk, z' => exact z'
    | .cont, z' => exact z'
    | .ret _, z' => exact z'
  · obtain ⟨a, B, sI, _, σ', H', cls, d, rfl, J', nb, up, sky, na, os, ag, hex1, hyes⟩ := xx
    have J : Inv X pins σ' H' sI := J'.ofTry I.ok
    rw [show (X.tr (X.pn ++ pins) _).stack = X.env :: X.outer from hs] at sky
    refine Sky.land Zc.steady hfr hf sky fun h3 fl3 up3 => ?_
    have W3 := down hs hf hex J nb (up.trans up3) os ag na fl3
    obtain ⟨oe, vs, he, hz, hd⟩ := W3.ob
    have S3 := W3.st.suite he hd na W3.nL W3.nF
    refine wpAny_handleBy_cons (codeAny_handlers_test ?_) fun q => nomatch q
    have look : PySem.W.Looks (model X.prog X.w) h3 (typeOf (.ref a)) cls := fun A Q E s k q => wpAny_typeOf_ref (k _ _ he) (by rw [hz.1]; exact q)
    have name : ∀ {Q : Value → Shared → Prop} {E : Value → Shared → Prop}, Q c { s' with heap := h3 } → wpAny (model X.prog X.w) (X.A.mark (some (.ref a))) (eval (.Name x np) X.env) Q E { s' with heap := h3 } := fun q => by
      rcases hc with ⟨k1, k2, k3 | ⟨k3, k4, k5⟩⟩
      · exact ld_glob S3 k1 k3 q k2
      · exact ld_blt S3 k1 k3 k4 q k5 k2
    refine name ((PySem.W.exm_one W3.st.kIn look hex1).here (codeAny_handlers_suite_as (HandSPX.lands_againZ fl3 fun h4 fl4 up4 => ?_)))
    exact kept I.ok hN hi hln (hsu a · cls d ·) (down hs hf hex J nb ((up.trans up3).trans up4) os ag na fl4) (hyes a na) (fun _ z => z)
end
/-! ### isinstance of such -/
section
variable {X : Cx}
/-- the class of such an error is known to be read rightly -/
theorem exT_at {pins : List (Addr × Obj)} {σ : L2.St} {H : Hp} {s : Shared} {a D : Addr} (I : Inv X pins σ H s) (ha : H a = some (ExT (.ref D) none a)) : ∃ oe, PySem.W.InstAt s.heap a oe D none := by
  obtain ⟨⟨oe, vs, he, hz, hd⟩, _⟩ := I.hok a _ ha
  refine ⟨oe, ?_⟩
  obtain ⟨oc, od, oda, osl⟩ := oe
  obtain ⟨h1, h2⟩ := hz
  dsimp only at h1 h2 hd
  subst h1 h2 hd
  exact ⟨he, rfl, rfl, trivial⟩
def rIsX (K : PySem.W.Frag) : List V → Hp → VK → Prop := fun xs H Q => ∃ (a D : Addr) (c : V) (u : Value) (b : Bool), xs = [.ref a, c] ∧ ExcC K D ∧ H a = some (ExT (.ref D) none a) ∧ ClsV c u ∧ PySem.W.kitOne K (.ref D) u = some b ∧ Q (.bl b) H
theorem call_isX : CallR X (.builtin "isinstance") (rIsX X.K) := by
  intro pins s σ H xs us Q I r h
  obtain ⟨a, D, c, u, b, rfl, C, ha, k, e, q⟩ := h
  obtain ⟨u1, u2, rfl, r1, r2⟩ := vals2 r
  have e2 := k.eq r2
  subst e2
  cases (show u1 = Value.ref a from r1)
  obtain ⟨oe, J⟩ := exT_at I ha
  exact PySem.W.kia_one (PySem.W.handS_kitx_exc C.hg C.hk C.hs C.hd C.ha C.hn C.ht C.hm) I.kIn J e (fun z => nomatch z) fun tk => ⟨.bl b, H, I.tok tk, rfl, q⟩
def rIsXT (K : PySem.W.Frag) : List V → Hp → VK → Prop := fun xs H Q => ∃ (a D tp : Addr) (cs : List V) (us : List Value) (b : Bool), xs = [.ref a, .ref tp] ∧ ExcC K D ∧ H a = some (ExT (.ref D) none a) ∧ H tp = some (.tup cs) ∧ Paired ClsV cs us ∧ PySem.W.kitAny K (.ref D) us = some b ∧ Q (.bl b) H
theorem call_isXT : CallR X (.builtin "isinstance") (rIsXT X.K) := by
  intro pins s σ H xs us Q I r h
  obtain ⟨a, D, tp, cs, ws, b, rfl, C, ha, hT, k, e, q⟩ := h
  obtain ⟨u1, u2, rfl, r1, r2⟩ := vals2 r
  cases (show u2 = Value.ref tp from r2)
  cases (show u1 = Value.ref a from r1)
  obtain ⟨oe, J⟩ := exT_at I ha
  obtain ⟨_, its, rv, o, h1, h2, n, h3⟩ := (show ObjOk X.prog X.w H s.heap tp (.tup cs) from I.hok tp _ hT)
  have e3 := ClsV.all k rv
  subst e3
  obtain ⟨oc, od, dt, sl⟩ := o
  simp only at h2 h3
  subst h2 h3
  exact PySem.W.kia_tup (PySem.W.handS_kitx_exc C.hg C.hk C.hs C.hd C.ha C.hn C.ht C.hm) I.kIn J h1 e (fun z => nomatch z) fun tk => ⟨.bl b, H, I.tok tk, rfl, q⟩
end
end Lk
end
section
set_option maxRecDepth 100000
set_option maxHeartbeats 2000000
/-! is_ring of anything, befores, before: what is told. -/
namespace Lk
open PySem PySem.Spec PyProof.Rows L2
theorem depthAll_ints : ∀ l : List Nat, PyData.depthAll (l.map dN) = 0
  | [] => by simp [PyData.depthAll]
  | n :: l => by simp [PyData.depthAll, PyData.depth, depthAll_ints l]
theorem layAll_ints : ∀ l : List Nat, PyData.canLayAll0 (l.map dN) = true
  | [] => by simp [PyData.canLayAll0]
  | n :: l => by simp [PyData.canLayAll0, PyData.canLay0, layAll_ints l]
theorem shaped_ints (l : List Nat) : SeqAt.shaped (.list (l.map dN)) = true := by
  unfold SeqAt.shaped
  rw [Bool.and_eq_true]
  refine ⟨by simp [PyData.canLay0, layAll_ints l], decide_eq_true ?_⟩
  simp only [PyData.depth, depthAll_ints]
  decide
theorem shaped_none : SeqAt.shaped .none = true := by
  unfold SeqAt.shaped
  rw [Bool.and_eq_true]
  exact ⟨by simp [PyData.canLay0], decide_eq_true (by simp [PyData.depth])⟩
theorem eqv_list_none (ds : List PyData) : PyData.eqv (.list ds) .none = false := by simp [PyData.eqv]
theorem eqv_ints (l m : List Nat) : PyData.eqv (.list (l.map dN)) (.list (m.map dN)) = decide (l = m) := by
  have key : ∀ l m : List Nat, PyData.eqvAll (l.map dN) (m.map dN) = decide (l = m) := by
    intro l
    induction l with
    | nil => intro m; cases m <;> simp [PyData.eqvAll]
    | cons a l ih =>
      intro m
      cases m with
      | nil => simp [PyData.eqvAll]
      | cons b m =>
        simp only [List.map_cons, PyData.eqvAll, PyData.eqv, ih]
        by_cases e : a = b
        · subst e
          simp
        · have e2 : ¬ ((a : Int) = (b : Int)) := by omega
          simp [e, e2]
  simp only [PyData.eqv, key]
mutual
/-- data without dicts, as the hand layer tells it -/
theorem Th.dp {K : PySem.W.Frag} {H : Hp} : ∀ (d : PyData) {v : V}, d.canLay0 = true → Th H v d → Dp K H v d
  | .none, _, _, h => by cases h; exact .non
  | .bool b, _, _, h => by cases h; exact .bl b
  | .int i, _, _, h => by cases h; exact .int i
  | .str x, _, _, h => by cases h; exact .str x
  | .list ds, _, n, h => by
    cases h with
    | lst e m => exact .lst (SqL.of e) (ThAll.dp ds (by simpa [PyData.canLay0] using n) m)
  | .tuple ds, _, n, h => by
    cases h with
    | tup e m => exact .tup (SqT.of e) (ThAll.dp ds (by simpa [PyData.canLay0] using n) m)
  | .dict kvs, _, n, _ => by simp [PyData.canLay0] at n
theorem ThAll.dp {K : PySem.W.Frag} {H : Hp} : ∀ (ds : List PyData) {vs : List V}, PyData.canLayAll0 ds = true → ThAll H vs ds → DpAll K H vs ds
  | [], _, _, h => by cases h; exact .nil
  | d :: ds, _, n, h => by
    have n2 : d.canLay0 = true ∧ PyData.canLayAll0 ds = true := by simpa [PyData.canLayAll0] using n
    cases h with
    | cons a b => exact .cons (Th.dp d n2.1 a) (ThAll.dp ds n2.2 b)
end
theorem dp_ints {K : PySem.W.Frag} {H : Hp} {p : Addr} {l : List Nat} (e : H p = some (.lst (l.map vN))) : Dp K H (.ref p) (.list (l.map dN)) :=
  .lst (SqL.of e) (ThAll.dp _ (layAll_ints l) (ints_nat l))
def ringD (c : Cd) (e : PyData) : Prop := ∃ a k, a < c.2.length ∧ RingK c a k ∧ e = .list ((ringL c a k).map dN)
def spIsRing (C : Addr) : Sp := fun vs H Q E => ∃ v u d e, vs = [v, u] ∧ Th H v d ∧ Th H u e ∧ (∀ ds, e = .list ds → ds.length ≤ 100000) ∧ (isCd d = false → ∀ H', Same H H' → E (.ref C) none H') ∧
  (∀ c, d = cdD c → CdOk c → ∀ b H', (b = true ↔ ringD c e) → Same H H' → Q (.bl b) H')
/-- the coder ahead of whose step at k its word wasn't known -/
def prv (c : Cd) (k : Nat) : Cd := (k, c.2.set k (len c k - 1))
def bef (c : Cd) : List Nat := (List.range c.2.length).filter fun i => decide (go c i = c.1) && decide (0 < len c i)
theorem bef_le (c : Cd) : (bef c).length ≤ c.2.length := by
  unfold bef
  exact Nat.le_trans (List.length_filter_le _ _) (by rw [List.length_range]; exact Nat.le_refl _)
theorem bef_mem {c : Cd} {k : Nat} : k ∈ bef c ↔ k < c.2.length ∧ go c k = c.1 ∧ 0 < len c k := by
  unfold bef
  rw [List.mem_filter, List.mem_range, Bool.and_eq_true, decide_eq_true_eq, decide_eq_true_eq]
theorem prv_ok {c : Cd} (h : CdOk c) {k : Nat} (hk : k < c.2.length) : CdOk (prv c k) := by
  refine ⟨?_, ?_⟩
  · show k < (c.2.set k _).length
    rw [List.length_set]
    exact hk
  · show (c.2.set k _).length ≤ 12
    rw [List.length_set]
    exact h.2
def spTaken : Sp := fun vs H Q _ => ∃ (v : V) (c : Cd) (k : Nat), vs = [v, .int (k : Int)] ∧ Cat H v c ∧ CdOk c ∧ k < c.2.length ∧ 0 < len c k ∧ ∀ v' H', Same H H' → Cat H' v' (prv c k) → Q v' H'
def toldBefores (c : Cd) (Q : VK) (H : Hp) : Prop := ∀ p H' ws, H p = none → Same H H' → H' p = some (.lst ws) → ThAll H' ws ((bef c).map fun k => cdD (prv c k)) → Q (.ref p) H'
/-- the first of these that is free, or None -/
def BefV (c : Cd) (H' : Hp) (v : V) : Prop := (v = .non ∧ ∀ k, k ∈ bef c → ¬ Free (prv c k)) ∨ ∃ (i k : Nat), (bef c)[i]? = some k ∧ Free (prv c k) ∧ (∀ (j m : Nat), j < i → (bef c)[j]? = some m → ¬ Free (prv c m)) ∧ Cat H' v (prv c k)
def spBefore (C1 C2 : Addr) : Sp := fun vs H Q E => ∃ v d, vs = [v] ∧ Th H v d ∧ (isCd d = false → ∀ H', Same H H' → E (.ref C1) none H') ∧
  (∀ c, d = cdD c → CdOk c → (¬ Free c → ∀ H', Same H H' → E (.ref C2) none H') ∧ (Free c → ∀ v' H', Same H H' → BefV c H' v' → Q v' H'))
end Lk
end
section
set_option maxRecDepth 100000
set_option maxHeartbeats 4000000
/-! tuple * int, of any small number. -/
namespace Lk
open PySem PySem.Spec PyProof.Rows L2
theorem tup_mul_one (l : Addr) (items : Array Value) (n : Nat) (dd : Option Addr) (sl : Array (Option Value)) (u : Tok) :
    Meets (Builtin.«tuple.__mul__» ⟨[.ref l, .int 1 u], []⟩) (fun _ R s => s.heap.get? l = some { cls := .type "tuple", dict := dd, data := .seq items n, slots := sl } ∧ R (.ok (.ret (Value.ref l))) s) :=
  .of_wp fun prog w A R s h => by
    obtain ⟨hp, g, d, tk, os⟩ := s
    obtain ⟨hl, h⟩ := h
    have f1 := AutoSeq1.idx_int
    wp_walk using wpAny_loadPart' hl
    repeat (first
      | (refine wpAny_ite_false (decide_eq_false (by decide)) ?_; wp_walk using wpAny_loadPart' hl)
      | (refine wpAny_ite_true (decide_eq_true (by simp)) ?_; wp_walk using wpAny_loadPart' hl))
    exact ⟨_, rfl, h⟩
theorem tup_mul_none (l : Addr) (items : Array Value) (n : Nat) (dd : Option Addr) (sl : Array (Option Value)) (x : Int) (u : Tok) (h0 : x ≤ 0) (hb : -(2 ^ 63) ≤ x) (hi : items.isEmpty = false) :
    Meets (Builtin.«tuple.__mul__» ⟨[.ref l, .int x u], []⟩) (fun _ R s => s.heap.get? l = some { cls := .type "tuple", dict := dd, data := .seq items n, slots := sl } ∧
      R (.ok (.ret (Value.ref s.heap.objs.size))) { s with heap := s.heap.push { cls := Value.type "tuple", data := Data.seq #[] } }) :=
  .of_wp fun prog w A R s h => by
    obtain ⟨hp, g, d, tk, os⟩ := s
    obtain ⟨hl, h⟩ := h
    have f1 := AutoSeq1.idx_int
    have c0 : (decide (x < -(2 ^ 63)) || decide (x ≥ 2 ^ 63)) = false := by
      rw [decide_eq_false (by omega), decide_eq_false (by omega)]
      rfl
    have c1 : (items.isEmpty || x == 1) = false := by
      rw [hi, Bool.false_or]
      exact beq_eq_false_iff_ne.mpr (by omega)
    have c2 : (decide (x ≤ 0) || items.isEmpty) = true := by
      rw [decide_eq_true h0]
      rfl
    wp_walk using wpAny_loadPart' hl
    repeat (first
      | (refine wpAny_ite_false (decide_eq_false (by rw [c0]; exact Bool.false_ne_true)) ?_; wp_walk using wpAny_loadPart' hl)
      | (refine wpAny_ite_false (decide_eq_false (by rw [c1]; exact Bool.false_ne_true)) ?_; wp_walk using wpAny_loadPart' hl)
      | (refine wpAny_ite_true (decide_eq_true (by rw [c2])) ?_; wp_walk using wpAny_loadPart' hl))
    exact ⟨_, rfl, h⟩
/-- xs * k, new or not -/
def rMulT (K : PySem.W.Frag) : R2 := fun x y H Q => ∃ l k xs, x = .ref l ∧ y = .int k ∧ SqT K H l xs ∧ xs ≠ [] ∧ -1000 ≤ k ∧ k ≤ 1000 ∧ xs.length ≤ 1000 ∧ ∀ p H', Same H H' → (SqT K H' p (List.replicate k.toNat xs).flatten) → (H' p = some (.tup (List.replicate k.toNat xs).flatten) ∨ k = 1 ∧ p = l) → Q (.ref p) H'
theorem op_mulT {X : Cx} : OpR X (binaryOp .Mult) (rMulT X.K) := by
  intro pins s σ H x y v u Q I rx ry h
  obtain ⟨l, k, xs, rfl, rfl, hT, hne, h1, h2, hz, q⟩ := h
  by_cases g2 : 2 ≤ k
  · exact op_repT pins s σ H _ _ v u Q I rx ry ⟨l, k, xs, rfl, rfl, hT, hne, g2, h2, hz, fun p hp => q p _ (same_new hp) (.inl (.inl upd_same)) (.inl upd_same)⟩
  · cases rx
    obtain ⟨t, rfl⟩ := ry
    obtain ⟨its, r, ⟨⟨cls, dd, data, sl⟩, ho, hc, n, hd⟩, hs⟩ := I.tuple hT
    simp only at hc hd
    subst hc hd
    have hi : its.toArray.isEmpty = false := by
      cases its with
      | nil =>
        cases r
        exact absurd rfl hne
      | cons a b => rfl
    by_cases g1 : k = 1
    · subst g1
      refine wpAny_binaryOp_repeat_ref (T := "tuple") (U := "int") (by decide) ⟨_, ho, rfl⟩ (fun s' => typeIs_int s' 1 t) noFill_tuple_mul PySem.F.fills_int_mul PySem.F.slot_int_rmul repeat_tuple PySem.F.slot_int_index.lookup
        (call_meets PySem.F.slot_int_rmul (typeIs_int s 1 t) PySem.F.entry_int_rmul (PySem.F.args_int_rmul_2 _ _) (int_rmul_tuple 1 t l its.toArray n dd sl)
          ⟨ho, rfl, ⟨_, ho, rfl⟩, call_meets PySem.F.slot_tuple_mul ⟨_, ho, rfl⟩ PySem.F.entry_tuple_mul (PySem.F.args_tuple_mul_2 _ _) (tup_mul_one l its.toArray n dd sl t) ⟨ho, ?_⟩⟩)
      refine ⟨.ref l, H, I, rfl, q l H (Same.refl H) ?_ (.inr ⟨rfl, rfl⟩)⟩
      rw [show (List.replicate (1 : Int).toNat xs).flatten = xs by simp]
      exact hT
    · have g0 : k ≤ 0 := by omega
      refine wpAny_binaryOp_repeat_ref (T := "tuple") (U := "int") (by decide) ⟨_, ho, rfl⟩ (fun s' => typeIs_int s' k t) noFill_tuple_mul PySem.F.fills_int_mul PySem.F.slot_int_rmul repeat_tuple PySem.F.slot_int_index.lookup
        (call_meets PySem.F.slot_int_rmul (typeIs_int s k t) PySem.F.entry_int_rmul (PySem.F.args_int_rmul_2 _ _) (int_rmul_tuple k t l its.toArray n dd sl)
          ⟨ho, rfl, ⟨_, ho, rfl⟩, call_meets PySem.F.slot_tuple_mul ⟨_, ho, rfl⟩ PySem.F.entry_tuple_mul (PySem.F.args_tuple_mul_2 _ _) (tup_mul_none l its.toArray n dd sl k t g0 (by omega) hi) ⟨ho, ?_⟩⟩)
      have e0 : (List.replicate k.toNat xs).flatten = [] := by rw [show k.toNat = 0 by omega]; rfl
      have hf : H s.heap.objs.size = none := I.hok.fresh (Nat.le_refl _)
      refine ⟨.ref s.heap.objs.size, upd H s.heap.objs.size (.tup []), I.laid (t' := s.toks) (o := .tup []) (fun b ob q => Heap.get?_push_of_some _ q) (Nat.le_refl _) ?_, rfl, q _ _ (same_new hf) ?_ ?_⟩
      · exact ⟨by show 0 ≤ sizeLine; exact Nat.zero_le _, [], .nil, IsTup.new _ _⟩
      · rw [e0]
        exact .inl (.inl upd_same)
      · rw [e0]
        exact .inl upd_same
/-! ### tuples that were made in the run -/
def rCutT : V → Option Int → Option Int → Hp → VK → Prop := fun x lo hi H Q => ∃ a xs, x = .ref a ∧ H a = some (.tup xs) ∧ ∀ b H', Same H H' → H' b = some (.tup (cutV xs lo hi)) → Q (.ref b) H'
theorem sl_cutT {X : Cx} : SlR X rCutT := by
  intro pins s σ H x v vl vu lo hi sl Q I rx hs pl pu h
  obtain ⟨a, xs, rfl, hx, q⟩ := h
  refine sl_tupA pins s σ H _ v vl vu _ _ sl Q I rx hs pl pu ⟨a, xs, rfl, SqT.of hx, fun z => ?_, fun z p hp => ?_⟩
  · refine q a H (Same.refl H) ?_
    have e : cutV xs lo hi = xs := by
      unfold cutV
      rw [z.1, z.2, List.drop_zero, Nat.sub_zero, List.take_length]
    rw [e]
    exact hx
  · exact q p _ (same_new hp) upd_same
def rAddT : R2 := fun x y H Q => ∃ a b xs ys, x = .ref a ∧ y = .ref b ∧ H a = some (.tup xs) ∧ H b = some (.tup ys) ∧ xs.length + ys.length ≤ sizeLine ∧ ∀ p H', Same H H' → H' p = some (.tup (xs ++ ys)) → Q (.ref p) H'
theorem op_addT {X : Cx} : OpR X (binaryOp .Add) rAddT := by
  intro pins s σ H x y v u Q I rx ry h
  obtain ⟨a, b, xs, ys, rfl, rfl, ha, hb, hl, q⟩ := h
  refine op_catA pins s σ H _ _ v u Q I rx ry ⟨a, b, xs, ys, rfl, rfl, SqT.of ha, SqT.of hb, hl, fun e => ?_, fun _ e => ?_, fun _ _ p hp => q p _ (same_new hp) upd_same⟩
  · subst e
    exact q b H (Same.refl H) hb
  · subst e
    exact q a H (Same.refl H) (by rw [List.append_nil]; exact ha)
def rRepTT : R2 := fun x y H Q => ∃ l k xs, x = .ref l ∧ y = .int k ∧ H l = some (.tup xs) ∧ xs ≠ [] ∧ -1000 ≤ k ∧ k ≤ 1000 ∧ xs.length ≤ 1000 ∧ ∀ p H', Same H H' → H' p = some (.tup (List.replicate k.toNat xs).flatten) → Q (.ref p) H'
theorem op_repTT {X : Cx} : OpR X (binaryOp .Mult) rRepTT := by
  intro pins s σ H x y v u Q I rx ry h
  obtain ⟨l, k, xs, rfl, rfl, hT, hne, h1, h2, hz, q⟩ := h
  refine op_mulT pins s σ H _ _ v u Q I rx ry ⟨l, k, xs, rfl, rfl, SqT.of hT, hne, h1, h2, hz, fun p H' s1 _ z => q p H' s1 ?_⟩
  rcases z with z | ⟨rfl, rfl⟩
  · exact z
  · rw [show (List.replicate (1 : Int).toNat xs).flatten = xs by simp]
    exact s1 _ _ hT
end Lk
end
section
set_option maxRecDepth 100000
set_option maxHeartbeats 2000000
namespace Lk
open PySem PySem.Spec PyProof.Rows L2
/-! ### xs.count(b), a list of truths -/
def eqB (k : Bool) (v : Value) : Bool := match v with
  | .bool n => n == k
  | _ => false
theorem bools_of : ∀ {bs : List Bool} {us : List Value}, Vals (bs.map V.bl) us → us = bs.map Value.bool
  | [], _, r => by cases r; rfl
  | b :: bs, _, r => by
    cases r with
    | cons r1 r2 =>
      rw [bools_of r2]
      cases (show _ = Value.bool b from r1)
      rfl
theorem eqB_count (k : Bool) : ∀ bs : List Bool, (bs.map Value.bool).countP (eqB k) = bs.count k
  | [] => rfl
  | b :: bs => by
    rw [List.map_cons, List.countP_cons, List.count_cons, eqB_count k bs]
    rfl
section
variable {X : Cx}
def rCntB (K : PySem.W.Frag) : V → List V → Hp → VK → Prop := fun x xs H Q => ∃ (p : Addr) (bs : List Bool) (k : Bool), x = .ref p ∧ xs = [.bl k] ∧ SqL K H p (bs.map V.bl) ∧ Q (.int (bs.count k : Nat)) H
theorem mt_lcountB : MtR X "list.count" (rCntB X.K) := by
  intro pins s σ H x xs v us Q I rx rxs h
  obtain ⟨p, bs, k, rfl, rfl, hs, q⟩ := h
  cases rx
  obtain ⟨u, rfl, ru⟩ := rxs.one
  cases (show u = Value.bool k from ru)
  obtain ⟨its, rv, ⟨⟨cls, dd, data, sl⟩, n, ho, hc, hdn, hd⟩, hlen⟩ := I.list hs
  simp only at hc hd
  subst hc hd
  have hi := bools_of rv
  subst hi
  refine call_meets PySem.F.slot_list_count ⟨_, ho, rfl⟩ PySem.F.entry_list_count (PySem.F.args_list_count_2 _ _)
    (SeqAt.list_countAt p (bs.map Value.bool).toArray n dd sl (.bool k) (eqB k)) ⟨ho, fun y hy => ?_, ?_⟩
  · have hy' : y ∈ bs.map Value.bool := by simpa using hy
    obtain ⟨b, _, rfl⟩ := List.mem_map.mp hy'
    exact SeqAt.EqAt.bool_bool b k
  · refine ⟨.int (bs.count k : Nat), H, I.tok _, ⟨s.toks, ?_⟩, q⟩
    show Value.int (((bs.map Value.bool).toArray.toList.countP (eqB k) : Nat) : Int) s.toks = Value.int ((bs.count k : Nat) : Int) s.toks
    rw [show (bs.map Value.bool).toArray.toList = bs.map Value.bool from rfl, eqB_count]
end
theorem kit_self {K : PySem.W.Frag} (C : Addr) : PySem.W.kitOne K (.ref C) (.ref C) = some true := by
  unfold PySem.W.kitOne
  rw [if_pos (beq_self_eq_true _)]
/-- isinstance(caught, x), x a class of the program's own; caught in slot 0 -/
def tIsG (K : PySem.W.Frag) (C : Addr) : TE := fun σ H Q => ∃ a D b, σ[0]? = some (some (.ref a)) ∧ ExcC K D ∧ H a = some (ExT (.ref D) none a) ∧ PySem.W.kitOne K (.ref D) (.ref C) = some b ∧ Q (.bl b) H
theorem pe_isG {X : Cx} {x : Str} {C : Addr} {p p1 p2 pos : Pos} (mi : X.mg "isinstance" = none) (g : X.mg x = some (.ref C)) (hi : Gl X "isinstance") (hg : Gl X x) (hN : X.N[0]? = some ("caught" : Str)) (hv : Vis X.env.scope ("caught" : Str)) (hd : (x == ("__debug__" : Str)) = false := by decide)
    (hs1 : starEach [Expr.Name "caught" p1, Expr.Name x p2] X.env = (false, eval (.Name "caught" p1) X.env) :: starEach [Expr.Name x p2] X.env := by rfl) (hs2 : starEach [Expr.Name x p2] X.env = (false, eval (.Name x p2) X.env) :: starEach [] X.env := by rfl) :
    PE X (.Call (.Name "isinstance" p) [.Name "caught" p1, .Name x p2] [] pos) (tIsG X.K C) := by
  have h : PE X (.Call (.Name "isinstance" p) [.Name "caught" p1, .Name x p2] [] pos) _ := pe_callB call_isX hi mi (by decide +kernel) (pa_cons (pv 0 hN hv) (pa_cons (pe_glob (v := .ref C) hg g rfl hd) pa_nil))
  refine ⟨fun pins s σ H Q I q => h.run pins s σ H Q I ?_⟩
  obtain ⟨a, D, b, e, c, ha, k, q⟩ := q
  exact ⟨.ref a, e, a, D, .ref C, _, b, rfl, c, ha, .own C, k, q⟩
/-- x names a class that the class at CL is under or not -/
def IsB (K : PySem.W.Frag) (mg : Str → Option Value) (CL : Addr) (x : Str) (b : Bool) : Prop := ∃ C, mg x = some (.ref C) ∧ PySem.W.kitOne K (.ref CL) (.ref C) = some b
/-- the classes of errors, seen from the one at CL -/
structure Errs (K : PySem.W.Frag) (mg : Str → Option Value) (CL : Addr) (b1 b2 b3 b4 b5 b6 b7 : Bool) : Prop where
  C : ExcC K CL
  ve : mg "ValueError" = none
  yes : PySem.W.kitOne K (.ref CL) (.type "ValueError") = some true
  iso : mg "isinstance" = none
  e1 : IsB K mg CL "NoKnown" b1
  e2 : IsB K mg CL "NoText" b2
  e3 : IsB K mg CL "NoPairs" b3
  e4 : IsB K mg CL "NoLoop" b4
  e5 : IsB K mg CL "NoCoder" b5
  e6 : IsB K mg CL "NoCount" b6
  e7 : IsB K mg CL "NotRound" b7
  f1 : IsB K mg CL "NoCounts" false
  f2 : IsB K mg CL "NoLog" false
  f3 : IsB K mg CL "NoPlace" false
  f4 : IsB K mg CL "NoRow" false
  f5 : IsB K mg CL "NoSign" false
  f6 : IsB K mg CL "NoTree" false
  f7 : IsB K mg CL "NoWord" false
  f8 : IsB K mg CL "NotLike" false
  f9 : IsB K mg CL "Nothing" false
def OneHot (b1 b2 b3 b4 b5 b6 b7 : Bool) : Prop := (b1 = true ∧ b2 = false ∧ b3 = false ∧ b4 = false ∧ b5 = false ∧ b6 = false ∧ b7 = false) ∨ (b1 = false ∧ b2 = true ∧ b3 = false ∧ b4 = false ∧ b5 = false ∧ b6 = false ∧ b7 = false) ∨ (b1 = false ∧ b2 = false ∧ b3 = true ∧ b4 = false ∧ b5 = false ∧ b6 = false ∧ b7 = false) ∨ (b1 = false ∧ b2 = false ∧ b3 = false ∧ b4 = true ∧ b5 = false ∧ b6 = false ∧ b7 = false) ∨ (b1 = false ∧ b2 = false ∧ b3 = false ∧ b4 = false ∧ b5 = true ∧ b6 = false ∧ b7 = false) ∨ (b1 = false ∧ b2 = false ∧ b3 = false ∧ b4 = false ∧ b5 = false ∧ b6 = true ∧ b7 = false) ∨ (b1 = false ∧ b2 = false ∧ b3 = false ∧ b4 = false ∧ b5 = false ∧ b6 = false ∧ b7 = true)
/-- the name by which the law knows it -/
def clsName (b1 b2 b3 b4 b5 b6 b7 : Bool) : Str := if b1 then "NoKnown" else if b2 then "NoText" else if b3 then "NoPairs" else if b4 then "NoLoop" else if b5 then "NoCoder" else if b6 then "NoCount" else if b7 then "NotRound" else "odd"
def spClass (CL : Addr) (nm : Str) : Sp := fun vs H Q _ => ∃ a, vs = [.ref a] ∧ H a = some (ExT (.ref CL) none a) ∧ ∀ H', Same H H' → Q (.str nm) H'
end Lk
end
section
set_option maxRecDepth 100000
set_option maxHeartbeats 2000000
/-! The law's bag and what it draws: what is promised. -/
namespace Lk
open PySem PySem.Spec PyProof.Rows L2
theorem but_of {a : Addr} {H H' : Hp} (h : Same H H') : SameBut a H H' := fun b o _ e => h b o e
def bagO (b : Int × Int × Int) : HO := .lst [.int b.1, .int b.2.1, .int b.2.2]
def Bag (H : Hp) (a : Addr) : Prop := ∃ b, H a = some (bagO b)
def spBag : Sp := fun vs H Q _ => ∃ c : Int, vs = [.int c] ∧ ∀ p b, H p = none → Q (.ref p) (upd H p (bagO b))
def spPick : Sp := fun vs H Q _ => ∃ (a : Addr) (m : Int), vs = [.ref a, .int m] ∧ Bag H a ∧ 0 < m ∧ m ≤ 10 ^ 40 ∧ ∀ v H', 0 ≤ v → v < m → Bag H' a → SameBut a H H' → Q (.int v) H'
theorem pick_div {i j : Int} (h0 : 0 < j) (h1 : j ≤ 10 ^ 40) : CDivW i j := wide_div h0 (b := 200) (by
  have e : (2 : Nat) ^ 200 > 10 ^ 40 := by decide +kernel
  omega) (by decide) (by decide)
def spCoder : Sp := fun vs H Q _ => ∃ (a : Addr) (m : Int), vs = [.ref a, .int m] ∧ Bag H a ∧ 1 ≤ m ∧ m ≤ 12 ∧
  ∀ v c H', CdOk c → (c.2.length : Int) ≤ m → (∀ n ∈ c.2, n < 10 ^ 29) → Bag H' a → SameBut a H H' → Cat H' v c → Q v H'
theorem Bag.ne {H : Hp} {a p : Addr} (h : Bag H a) (n : H p = none) : a ≠ p := by
  obtain ⟨b, e⟩ := h
  exact ne_of_none e n
theorem Bag.same {H H' : Hp} {a : Addr} (h : Bag H a) (s : Same H H') : Bag H' a := by
  obtain ⟨b, e⟩ := h
  exact ⟨b, s _ _ e⟩
/-- the classes that are known by these names -/
def spCls (L : List (Addr × Str)) : Sp := fun vs H Q _ => ∃ a CL nm, vs = [.ref a] ∧ (CL, nm) ∈ L ∧ H a = some (ExT (.ref CL) none a) ∧ ∀ H', Same H H' → Q (.str nm) H'
theorem fnOk_nil {P : Program} {w : World} {K : PySem.W.Frag} {mg : Str → Option Value} {base : Heap} {k : Nat} {f : Addr} {fd : FuncData} : FnOk P w K mg base CX0 k f fd ["caught"] (spCls []) :=
  ⟨fun _ _ _ _ h => (by obtain ⟨_, _, _, _, m, _⟩ := h; cases m), fun _ _ _ _ _ _ _ _ _ _ _ _ _ h => (by obtain ⟨_, _, _, _, m, _⟩ := h; cases m)⟩
theorem fnOk_cls {P : Program} {w : World} {K : PySem.W.Frag} {mg : Str → Option Value} {base : Heap} {k : Nat} {f CL : Addr} {fd : FuncData} {nm : Str} {L : List (Addr × Str)} (h1 : FnOk P w K mg base CX0 k f fd ["caught"] (spClass CL nm)) (h2 : FnOk P w K mg base CX0 k f fd ["caught"] (spCls L)) :
    FnOk P w K mg base CX0 k f fd ["caught"] (spCls ((CL, nm) :: L)) := by
  refine ⟨fun vs H Q E h => ?_, fun A outer s H args us vs Q E hr e0 hb r h => ?_⟩
  · obtain ⟨a, _, _, rfl, _⟩ := h
    rfl
  · obtain ⟨a, C, n, e, m, ha, q⟩ := h
    rcases List.mem_cons.mp m with z | z
    · cases z
      exact h1.run A outer s H args us vs Q E hr e0 hb r ⟨a, e, ha, q⟩
    · exact h2.run A outer s H args us vs Q E hr e0 hb r ⟨a, C, n, e, z, ha, q⟩
end Lk
end
section
set_option maxRecDepth 100000
set_option maxHeartbeats 2000000
namespace Lk
open PySem PySem.Spec PyProof.Rows L2
/-- letters from a to z -/
def Az (l : List Nat) : Prop := ∀ c ∈ l, 97 ≤ c ∧ c ≤ 122
theorem sameBut_new {a p : Addr} {H : Hp} {o : HO} (h : H p = none) : SameBut a H (upd H p o) := fun b u n e => by rw [upd_ne (ne_of_none e h)]; exact e
theorem alpha_at {i : Nat} (h : i < 26) : (Str.ofString "abcdefghijklmnopqrstuvwxyz").cps[i]? = some (97 + i) := by
  have e : ∀ i : Fin 26, (Str.ofString "abcdefghijklmnopqrstuvwxyz").cps[i.val]? = some (97 + i.val) := by decide +kernel
  exact e ⟨i, h⟩
theorem alpha_len : (Str.ofString "abcdefghijklmnopqrstuvwxyz").length = 26 := by decide +kernel
theorem join_ones (l : List Nat) : Txt.join (Str.ofString "") (l.map fun c => SX.S [c]) = SX.S l := by
  have e : ∀ l : List Nat, TL.joinL [] (l.map fun c => [c]) = l := by
    intro l
    induction l with
    | nil => rfl
    | cons c r ih =>
      cases r with
      | nil => rfl
      | cons d r => 
        show [c] ++ ([] ++ TL.joinL [] ((d :: r).map fun c => [c])) = c :: d :: r
        rw [ih]
        rfl
  have h := SX.join_S [] (l.map fun c => [c])
  rw [e, List.map_map] at h
  exact h
section
variable {P : Program} {w : World} {K : PySem.W.Frag} {mg : Str → Option Value} {base : Heap}
def spSomeT : Sp := fun vs H Q _ => ∃ (a : Addr) (m : Int) (b : Int × Int × Int), vs = [.ref a, .int m] ∧ H a = some (bagO b) ∧ 0 ≤ m ∧ m ≤ 1000000 ∧
  ∀ l H', Az l → (l.length : Int) = m → Bag H' a → SameBut a H H' → Q (.str (SX.S l)) H'
end
def azC (c : Nat) : Bool := decide (97 ≤ c) && decide (c ≤ 122)
def isAz (l : List Nat) : Bool := l.all azC
theorem isAz_iff {l : List Nat} : isAz l = true ↔ Az l := by
  unfold isAz Az azC
  rw [List.all_eq_true]
  constructor
  · intro h c hc
    have z := h c hc
    rw [Bool.and_eq_true, decide_eq_true_eq, decide_eq_true_eq] at z
    exact z
  · intro h c hc
    rw [Bool.and_eq_true, decide_eq_true_eq, decide_eq_true_eq]
    exact h c hc
/-- what is no text -/
inductive NoStr (H : Hp) : V → Prop where
  | non : NoStr H .non
  | bl (b : Bool) : NoStr H (.bl b)
  | int (i : Int) : NoStr H (.int i)
  | lst {a : Addr} {xs : List V} (e : H a = some (.lst xs)) : NoStr H (.ref a)
  | tup {a : Addr} {xs : List V} (e : H a = some (.tup xs)) : NoStr H (.ref a)
  | dK {a : Addr} {kvs : List (Key × V)} (e : H a = some (.dK kvs)) : NoStr H (.ref a)
theorem NoStr.same {H H' : Hp} {v : V} (h : NoStr H v) (s : Same H H') : NoStr H' v := by
  cases h with
  | non => exact .non
  | bl b => exact .bl b
  | int i => exact .int i
  | lst e => exact .lst (s _ _ e)
  | tup e => exact .tup (s _ _ e)
  | dK e => exact .dK (s _ _ e)
theorem NoStr.ty {K : PySem.W.Frag} {H : Hp} {v : V} (h : NoStr H v) : ∃ n, TyX K H v (.type n) ∧ kitB n "str" = some false := by
  cases h with
  | non => exact ⟨"NoneType", .base .non, by decide +kernel⟩
  | bl b => exact ⟨"bool", .base (.bl b), by decide +kernel⟩
  | int i => exact ⟨"int", .base (.int i), by decide +kernel⟩
  | lst e => exact ⟨"list", .base (.lst e), by decide +kernel⟩
  | tup e => exact ⟨"tuple", .base (.tup e), by decide +kernel⟩
  | dK e => exact ⟨"dict", .base (.dK e), by decide +kernel⟩
/-- is_letters of v is b -/
inductive LetV (H : Hp) : V → Bool → Prop where
  | str (l : List Nat) (h : l.length ≤ 100000) : LetV H (.str (SX.S l)) (isAz l)
  | oth {v : V} (h : NoStr H v) : LetV H v false
theorem LetV.same {H H' : Hp} {v : V} {b : Bool} (h : LetV H v b) (s : Same H H') : LetV H' v b := by
  cases h with
  | str l z => exact .str l z
  | oth z => exact .oth (z.same s)
theorem lt_one (c d : Nat) : decide (([c] : List Nat) < [d]) = decide (c < d) := by
  by_cases h : c < d
  · rw [decide_eq_true h, decide_eq_true]
    exact List.Lex.rel h
  · rw [decide_eq_false h, decide_eq_false]
    intro z
    cases z with
    | rel z => exact h z
    | cons z => cases z
theorem az_ge (c : Nat) : (!decide (((SX.S [c]).cps.toList : List Nat) < (Str.ofString "a").cps.toList)) = decide (97 ≤ c) := by
  rw [show (Str.ofString "a").cps.toList = [97] from by decide +kernel]
  show (!decide (([c] : List Nat) < [97])) = _
  rw [lt_one]
  by_cases h : c < 97
  · rw [decide_eq_true h, decide_eq_false (by omega)]; rfl
  · rw [decide_eq_false h, decide_eq_true (by omega)]; rfl
theorem az_le (c : Nat) : (!decide ((Str.ofString "z").cps.toList < ((SX.S [c]).cps.toList : List Nat))) = decide (c ≤ 122) := by
  rw [show (Str.ofString "z").cps.toList = [122] from by decide +kernel]
  show (!decide (([122] : List Nat) < [c])) = _
  rw [lt_one]
  by_cases h : 122 < c
  · rw [decide_eq_true h, decide_eq_false (by omega)]; rfl
  · rw [decide_eq_false h, decide_eq_true (by omega)]; rfl
section
variable {P : Program} {w : World} {K : PySem.W.Frag} {mg : Str → Option Value} {base : Heap}
def spLetters : Sp := fun vs H Q _ => ∃ v b, vs = [v] ∧ LetV H v b ∧ ∀ H', Same H H' → Q (.bl b) H'
end

end Lk
end
section
set_option maxRecDepth 100000
set_option maxHeartbeats 2000000
/-! Numbers by their figures. -/
namespace Lk
open PySem PySem.Spec PyProof.Rows L2
def dec (n : Nat) : List Nat := (Nat.toDigits 10 n).map Char.toNat
theorem str_dec (n : Nat) : Str.ofString (toString ((n : Nat) : Int)) = SX.S (dec n) := by
  rw [Str.ofString_eq_toList]
  show (⟨((String.ofList (Nat.toDigits 10 n)).toList.map Char.toNat).toArray⟩ : Str) = _
  rw [String.toList_ofList]
  rfl
theorem dec_small {n : Nat} (h : n < 10) : dec n = [48 + n] := by
  unfold dec
  rw [Nat.toDigits_of_lt_base h, NumText.digitChar_of _ h]
  show [(Char.ofNat (48 + n)).toNat] = _
  have e : ∀ n : Nat, n < 10 → (Char.ofNat (48 + n)).toNat = 48 + n := by decide
  rw [e n h]
theorem dec_more {n : Nat} (h : 10 ≤ n) : dec n = dec (n / 10) ++ [48 + n % 10] := by
  have e : n = 10 * (n / 10) + n % 10 := (Nat.div_add_mod n 10).symm
  have z := Nat.toDigits_append_toDigits (b := 10) (n := n / 10) (d := n % 10) (by decide) (by omega) (Nat.mod_lt _ (by decide))
  rw [← e] at z
  unfold dec
  rw [← z, List.map_append]
  congr 1
  exact dec_small (Nat.mod_lt _ (by decide))
theorem dec_ne (n : Nat) : dec n ≠ [] := by
  by_cases h : n < 10
  · rw [dec_small h]; exact List.cons_ne_nil _ _
  · rw [dec_more (by omega)]
    intro z
    simp at z
theorem dec_digits (n : Nat) : NumText.AllDigits (dec n) := by
  induction n using Nat.strongRecOn with
  | _ n ih =>
    by_cases h : n < 10
    · rw [dec_small h]
      intro c hc
      rw [List.mem_singleton.mp hc]
      omega
    · rw [dec_more (by omega)]
      intro c hc
      rcases List.mem_append.mp hc with z | z
      · exact ih (n / 10) (by omega) c z
      · rw [List.mem_singleton.mp z]
        omega
theorem dec_val (n : Nat) : NumText.digitsVal (dec n) = n := by
  induction n using Nat.strongRecOn with
  | _ n ih =>
    by_cases h : n < 10
    · rw [dec_small h]
      show 0 * 10 + (48 + n - 48) = n
      omega
    · rw [dec_more (by omega), NumText.digitsVal_snoc, ih (n / 10) (by omega)]
      omega
/-- no nought ahead -/
theorem dec_head (n : Nat) : dec n = [48] ∨ ∃ c r, dec n = c :: r ∧ 49 ≤ c := by
  induction n using Nat.strongRecOn with
  | _ n ih =>
    by_cases h : n < 10
    · rw [dec_small h]
      by_cases h0 : n = 0
      · left; rw [h0]
      · exact .inr ⟨_, [], rfl, by omega⟩
    · right
      rw [dec_more (by omega)]
      rcases ih (n / 10) (by omega) with z | ⟨c, r, z, hc⟩
      · exfalso
        have y := dec_val (n / 10)
        rw [z] at y
        have x : NumText.digitsVal [48] = 0 := rfl
        omega
      · rw [z]
        exact ⟨c, r ++ [48 + n % 10], rfl, hc⟩
theorem dec_len {n k : Nat} (hk : 0 < k) (h : n < 10 ^ k) : (dec n).length ≤ k := by
  have z := (Nat.length_repr_le_iff hk).mpr h
  have e : (Nat.repr n).length = (dec n).length := by
    show (String.ofList (Nat.toDigits 10 n)).length = _
    unfold dec
    rw [List.length_map, String.length_ofList]
  omega
theorem int_dec (n : Nat) (h : (dec n).length ≤ 4300) : intText? (SX.S (dec n)) = some ((n : Nat) : Int) := by
  have z := intText_digits (x := SX.S (dec n)) (dec_digits n) (dec_ne n) (by rw [SX.S_len]; exact h)
  have e : (SX.S (dec n)).cps.toList = dec n := rfl
  rw [e, dec_val] at z
  exact z
theorem dec_inj {a b : Nat} (h : dec a = dec b) : a = b := by
  rw [← dec_val a, ← dec_val b, h]
theorem dec_noblank (n : Nat) : (32 : Nat) ∉ dec n := fun z => by
  have y := dec_digits n 32 z
  omega
/-! ### what a text says as a number -/
def isDig (c : Nat) : Bool := decide (48 ≤ c) && decide (c ≤ 57)
def readN (w : List Nat) : Option Nat := if decide (1 ≤ w.length) && decide (w.length ≤ 40) && w.all isDig && !(decide (w.head? = some 48) && decide (w ≠ [48])) then some (NumText.digitsVal w) else none
theorem readN_bad {w : List Nat} (h : ¬ (1 ≤ w.length ∧ w.length ≤ 40 ∧ w.all isDig = true)) : readN w = none := by
  unfold readN
  refine if_neg fun z => h ?_
  simp only [Bool.and_eq_true, decide_eq_true_eq] at z
  exact ⟨z.1.1.1, z.1.1.2, z.1.2⟩
theorem readN_zero {w : List Nat} (h : w.head? = some 48) (k : w ≠ [48]) : readN w = none := by
  unfold readN
  refine if_neg fun z => ?_
  rw [Bool.and_eq_true] at z
  rw [decide_eq_true h, decide_eq_true k] at z
  exact absurd z.2 (by decide)
theorem readN_good {w : List Nat} (h1 : 1 ≤ w.length) (h2 : w.length ≤ 40) (h3 : w.all isDig = true) (h4 : ¬ (w.head? = some 48 ∧ w ≠ [48])) : readN w = some (NumText.digitsVal w) := by
  unfold readN
  refine if_pos ?_
  rw [decide_eq_true h1, decide_eq_true h2, h3]
  by_cases c : w.head? = some 48
  · rw [decide_eq_true c, decide_eq_false (fun z => h4 ⟨c, z⟩)]; rfl
  · rw [decide_eq_false c]; rfl
theorem dig_ge (c : Nat) : (!decide (((SX.S [c]).cps.toList : List Nat) < (Str.ofString "0").cps.toList)) = decide (48 ≤ c) := by
  rw [show (Str.ofString "0").cps.toList = [48] from by decide +kernel]
  show (!decide (([c] : List Nat) < [48])) = _
  rw [lt_one]
  by_cases h : c < 48
  · rw [decide_eq_true h, decide_eq_false (by omega)]; rfl
  · rw [decide_eq_false h, decide_eq_true (by omega)]; rfl
theorem dig_le (c : Nat) : (!decide ((Str.ofString "9").cps.toList < ((SX.S [c]).cps.toList : List Nat))) = decide (c ≤ 57) := by
  rw [show (Str.ofString "9").cps.toList = [57] from by decide +kernel]
  show (!decide (([57] : List Nat) < [c])) = _
  rw [lt_one]
  by_cases h : 57 < c
  · rw [decide_eq_true h, decide_eq_false (by omega)]; rfl
  · rw [decide_eq_false h, decide_eq_true (by omega)]; rfl
theorem all_dig {w : List Nat} (h : w.all isDig = true) : NumText.AllDigits w := fun c hc => by
  have z := List.all_eq_true.mp h c hc
  unfold isDig at z
  rw [Bool.and_eq_true] at z
  exact ⟨of_decide_eq_true z.1, of_decide_eq_true z.2⟩
theorem read_dec {n : Nat} (h : n < 10 ^ 40) : readN (dec n) = some n := by
  unfold readN
  have h1 := dec_len (k := 40) (by decide) h
  have h0 : 1 ≤ (dec n).length := List.length_pos_iff.mpr (dec_ne n)
  have h2 : (dec n).all isDig = true := List.all_eq_true.mpr fun c hc => by
    have z := dec_digits n c hc
    unfold isDig
    rw [decide_eq_true z.1, decide_eq_true z.2]
    rfl
  rw [decide_eq_true h0, decide_eq_true h1, h2]
  have h3 : (decide ((dec n).head? = some 48) && decide (dec n ≠ [48])) = false := by
    rcases dec_head n with z | ⟨c, r, z, hc⟩
    · rw [z]; rfl
    · rw [z, decide_eq_false (by intro y; have := Option.some.inj y; omega)]; rfl
  rw [h3, dec_val]
  rfl
/-- numbers with blanks between -/
def blanks (ns : List Nat) : List Nat := TL.joinL [32] (ns.map dec)
/-- a coder's text -/
def wordsC (c : Cd) : List (List Nat) := [97, 116] :: dec c.1 :: [107, 110, 111, 119, 115] :: c.2.map dec
def showL (c : Cd) : List Nat := TL.joinL [32] (wordsC c)
theorem split_show (c : Cd) : TL.spl [32] 0 [] (showL c) = wordsC c := by
  refine SX.spl_join (c := 32) (sep := []) (List.cons_ne_nil _ _) fun p hp => ?_
  unfold wordsC at hp
  rcases List.mem_cons.mp hp with rfl | hp
  · decide
  rcases List.mem_cons.mp hp with rfl | hp
  · exact dec_noblank _
  rcases List.mem_cons.mp hp with rfl | hp
  · decide
  obtain ⟨n, _, rfl⟩ := List.mem_map.mp hp
  exact dec_noblank _
theorem show_inj {c d : Cd} (h : showL c = showL d) : c = d := by
  have z := congrArg (TL.spl [32] 0 []) h
  rw [split_show, split_show] at z
  unfold wordsC at z
  injection z with _ z
  injection z with z1 z
  injection z with _ z
  refine Prod.ext (dec_inj z1) ?_
  have z2 := congrArg (List.map NumText.digitsVal) z
  rw [List.map_map, List.map_map] at z2
  have e : ∀ l : List Nat, l.map (NumText.digitsVal ∘ dec) = l := fun l => by
    rw [show (NumText.digitsVal ∘ dec) = id from funext dec_val, List.map_id]
  rw [e, e] at z2
  exact z2
theorem show_cons (c : Cd) (h : c.2 ≠ []) : showL c = [97, 116, 32] ++ (dec c.1 ++ ([32, 107, 110, 111, 119, 115, 32] ++ blanks c.2)) := by
  obtain ⟨a, l⟩ := c
  cases l with
  | nil => exact absurd rfl h
  | cons b l =>
    unfold showL wordsC blanks
    simp only [List.map_cons, TL.joinL, List.append_assoc, List.cons_append, List.nil_append]
theorem joinL_len (ws : List (List Nat)) {B : Nat} (h : ∀ w ∈ ws, w.length ≤ B) : (TL.joinL [32] ws).length ≤ ws.length * (B + 1) := by
  match ws, h with
  | [], _ => exact Nat.zero_le _
  | [p], h =>
    have := h p List.mem_cons_self
    show p.length ≤ 1 * (B + 1)
    omega
  | p :: q :: r, h =>
    have h1 := h p List.mem_cons_self
    have h2 := joinL_len (q :: r) fun w hw => h w (List.mem_cons_of_mem _ hw)
    show (p ++ ([32] ++ TL.joinL [32] (q :: r))).length ≤ _
    rw [List.length_append, List.length_append]
    show p.length + (1 + _) ≤ (r.length + 1 + 1) * (B + 1)
    have e : (q :: r).length = r.length + 1 := rfl
    rw [e] at h2
    rw [Nat.succ_mul (r.length + 1)]
    omega
end Lk
end
section
set_option maxRecDepth 100000
set_option maxHeartbeats 2000000
namespace Lk
open PySem PySem.Spec PyProof.Rows L2
def numFrom : Nat → List (List Nat) → List (Key × V)
  | _, [] => []
  | n, w :: r => (.inr (SX.S w), .int (n : Nat)) :: numFrom (n + 1) r
theorem num_len : ∀ (n : Nat) (ws : List (List Nat)), (numFrom n ws).length = ws.length
  | _, [] => rfl
  | n, w :: r => congrArg (· + 1) (num_len (n + 1) r)
theorem num_snoc : ∀ (n : Nat) (ws : List (List Nat)) (w : List Nat), numFrom n (ws ++ [w]) = numFrom n ws ++ [(.inr (SX.S w), .int ((n + ws.length : Nat) : Int))]
  | n, [], w => by simp [numFrom]
  | n, x :: r, w => by
    show _ :: numFrom (n + 1) (r ++ [w]) = _ :: (numFrom (n + 1) r ++ [_])
    rw [num_snoc (n + 1) r w, List.length_cons, show n + 1 + r.length = n + (r.length + 1) by omega]
theorem num_val : ∀ (n : Nat) (ws : List (List Nat)) (w : List Nat), valV (numFrom n ws) (Sum.inr (SX.S w)) = if w ∈ ws then some (V.int ((n + ws.idxOf w : Nat) : Int)) else none
  | n, [], w => by rw [if_neg (by simp)]; rfl
  | n, x :: r, w => by
    by_cases h : x = w
    · subst h
      rw [if_pos List.mem_cons_self]
      have e : valV (numFrom n (x :: r)) (Sum.inr (SX.S x)) = some (V.int (n : Nat)) := valV_pos rfl
      rw [e, List.idxOf_cons_self]
      rfl
    · have e : valV (numFrom n (x :: r)) (Sum.inr (SX.S w)) = valV (numFrom (n + 1) r) (Sum.inr (SX.S w)) := valV_neg fun z => h (SX.S_inj (Sum.inr.inj z))
      rw [e, num_val (n + 1) r w]
      have hm : w ∈ x :: r ↔ w ∈ r := ⟨fun z => (List.mem_cons.mp z).resolve_left fun q => h q.symm, List.mem_cons_of_mem _⟩
      by_cases hr : w ∈ r
      · have ei : (x :: r).idxOf w = r.idxOf w + 1 := by
          rw [List.idxOf_cons, show (x == w) = false from beq_false_of_ne h]
          rfl
        rw [if_pos hr, if_pos (hm.mpr hr), ei, show n + 1 + r.idxOf w = n + (r.idxOf w + 1) by omega]
      · rw [if_neg hr, if_neg fun z => hr (hm.mp z)]
theorem num_is (ws : List (List Nat)) (w : List Nat) : (valV (numFrom 0 ws) (Sum.inr (SX.S w))).isSome = decide (w ∈ ws) := by
  rw [num_val]
  by_cases h : w ∈ ws
  · rw [if_pos h, decide_eq_true h]; rfl
  · rw [if_neg h, decide_eq_false h]; rfl
theorem num_put {ws : List (List Nat)} {w : List Nat} (h : w ∉ ws) : putK (numFrom 0 ws) (Sum.inr (SX.S w)) (.int (ws.length : Nat)) = numFrom 0 (ws ++ [w]) := by
  have z : valV (numFrom 0 ws) (Sum.inr (SX.S w)) = none := by rw [num_val, if_neg h]
  rw [putK_new _ z, num_snoc, Nat.zero_add]
/-- the texts of words, as they stand in a list or tuple -/
abbrev tx (ws : List (List Nat)) : List V := ws.map fun w => V.str (SX.S w)
theorem SqT_same {K : PySem.W.Frag} {H H' : Hp} {a : Addr} {xs : List V} (h : SqT K H a xs) (s : Same H H') : SqT K H' a xs := by
  rcases h with (h | ⟨o, h⟩) | h
  · exact .inl (.inl (s _ _ h))
  · exact .inl (.inr ⟨o, s _ _ h⟩)
  · exact .inr h
theorem SqL_same {K : PySem.W.Frag} {H H' : Hp} {a : Addr} {xs : List V} (h : SqL K H a xs) (s : Same H H') : SqL K H' a xs := by
  rcases h with (h | ⟨o, h⟩) | h
  · exact .inl (.inl (s _ _ h))
  · exact .inl (.inr ⟨o, s _ _ h⟩)
  · exact .inr h
def sub (t : List Nat) (a b : Nat) : List Nat := (t.drop a).take (b - a)
theorem slice_sub {t : List Nat} {i j : Int} (h0 : 0 ≤ i) (h1 : i ≤ j) (h2 : j ≤ t.length) : Txt.slice (SX.S t) (some i) (some j) = SX.S (sub t i.toNat j.toNat) := by
  have e := beq_iff_eq.mp (PyProof.Rows.slice_closesL (x := SX.S t) h0 h1 (by rw [SX.S_len]; exact h2))
  refine e.trans (TL.ext_tl ?_)
  show (t.drop i.toNat).take (j - i).toNat = (t.drop i.toNat).take (j.toNat - i.toNat)
  rw [show (j - i).toNat = j.toNat - i.toNat by omega]
/-- from at on the longest of ws with which t goes on ends at e -/
structure LE (ws : List (List Nat)) (t : List Nat) (at' e : Nat) : Prop where
  ge : at' ≤ e
  le : e ≤ t.length
  all : ∀ j, at' < j → j ≤ e → sub t at' j ∈ ws
  no : e < t.length → sub t at' (e + 1) ∉ ws
section
variable {P : Program} {w : World} {K : PySem.W.Frag} {mg : Str → Option Value} {base : Heap}
def spNumbered (K : PySem.W.Frag) : Sp := fun vs H Q _ => ∃ a ws, vs = [.ref a] ∧ SqT K H a (tx ws) ∧ (([] : List Nat) :: ws).Nodup ∧ ws.length ≤ 100000 ∧
  ∀ p H', H p = none → H' p = some (.dK (numFrom 0 ([] :: ws))) → Same H H' → Q (.ref p) H'
end
theorem sub_len {t : List Nat} {a b : Nat} (h1 : a ≤ b) (h2 : b ≤ t.length) : (sub t a b).length = b - a := by
  unfold sub
  rw [List.length_take, List.length_drop]
  omega
theorem sub_all (t : List Nat) : sub t 0 t.length = t := by
  unfold sub
  rw [List.drop_zero, Nat.sub_zero]
  exact List.take_of_length_le (Nat.le_refl _)
theorem LE.uniq {ws : List (List Nat)} {t : List Nat} {a e e' : Nat} (h : LE ws t a e) (h' : LE ws t a e') : e = e' := by
  rcases Nat.lt_trichotomy e e' with c | c | c
  · have := h'.le
    have := h.ge
    exact absurd (h'.all (e + 1) (by omega) (by omega)) (h.no (by omega))
  · exact c
  · have := h.le
    have := h'.ge
    exact absurd (h.all (e' + 1) (by omega) (by omega)) (h'.no (by omega))
theorem LE.get (ws : List (List Nat)) (t : List Nat) : ∀ (n a b : Nat), a ≤ b → b ≤ t.length → t.length - b = n → (∀ j, a < j → j ≤ b → sub t a j ∈ ws) → ∃ e, LE ws t a e
  | 0, a, b, h1, h2, h3, h => ⟨b, h1, h2, h, fun z => absurd z (by omega)⟩
  | n + 1, a, b, h1, h2, h3, h => by
    by_cases c : sub t a (b + 1) ∈ ws
    · exact LE.get ws t n a (b + 1) (by omega) (by omega) (by omega) fun j j1 j2 => by
        rcases Nat.lt_or_ge b j with z | z
        · rw [show j = b + 1 by omega]; exact c
        · exact h j j1 z
    · exact ⟨b, h1, h2, h, fun _ => c⟩
theorem LE.ex (ws : List (List Nat)) (t : List Nat) (a : Nat) (h : a ≤ t.length) : ∃ e, LE ws t a e := LE.get ws t _ a a (Nat.le_refl _) h rfl fun j j1 j2 => absurd j1 (by omega)
section
variable {P : Program} {w : World} {K : PySem.W.Frag} {mg : Str → Option Value} {base : Heap}
def spLongest : Sp := fun vs H Q _ => ∃ d ws t a, vs = [.ref d, .str (SX.S t), .int ((a : Nat) : Int)] ∧ H d = some (.dK (numFrom 0 ws)) ∧ a ≤ t.length ∧ t.length ≤ 100000 ∧
  ∀ e : Nat, LE ws t a e → Q (.int ((e : Nat) : Int)) H
end
def isWord (l : List Nat) : Bool := isAz l && decide (0 < l.length)
/-- is_word of v is b -/
inductive WordV (H : Hp) : V → Bool → Prop where
  | str (l : List Nat) (h : l.length ≤ 100000) : WordV H (.str (SX.S l)) (isWord l)
  | oth {v : V} (h : NoStr H v) : WordV H v false
theorem WordV.same {H H' : Hp} {v : V} {b : Bool} (h : WordV H v b) (s : Same H H') : WordV H' v b := by
  cases h with
  | str l z => exact .str l z
  | oth z => exact .oth (z.same s)
/-- what is no tuple -/
inductive NoTup (H : Hp) : V → Prop where
  | non : NoTup H .non
  | bl (b : Bool) : NoTup H (.bl b)
  | int (i : Int) : NoTup H (.int i)
  | str (z : Str) : NoTup H (.str z)
  | lst {a : Addr} {xs : List V} (e : H a = some (.lst xs)) : NoTup H (.ref a)
  | dK {a : Addr} {kvs : List (Key × V)} (e : H a = some (.dK kvs)) : NoTup H (.ref a)
theorem NoTup.same {H H' : Hp} {v : V} (h : NoTup H v) (s : Same H H') : NoTup H' v := by
  cases h with
  | non => exact .non
  | bl b => exact .bl b
  | int i => exact .int i
  | str z => exact .str z
  | lst e => exact .lst (s _ _ e)
  | dK e => exact .dK (s _ _ e)
theorem NoTup.ty {K : PySem.W.Frag} {H : Hp} {v : V} (h : NoTup H v) : ∃ n, TyX K H v (.type n) ∧ kitB n "tuple" = some false := by
  cases h with
  | non => exact ⟨"NoneType", .base .non, by decide +kernel⟩
  | bl b => exact ⟨"bool", .base (.bl b), by decide +kernel⟩
  | int i => exact ⟨"int", .base (.int i), by decide +kernel⟩
  | str z => exact ⟨"str", .base (.str z), by decide +kernel⟩
  | lst e => exact ⟨"list", .base (.lst e), by decide +kernel⟩
  | dK e => exact ⟨"dict", .base (.dK e), by decide +kernel⟩
/-- rising, as texts -/
def Rise : List (List Nat) → Bool
  | [] => true
  | [_] => true
  | a :: b :: r => decide (a < b) && Rise (b :: r)
/-- with each word also the word without its last letter -/
def Clos (ws : List (List Nat)) : Bool := ws.all fun l => decide (l.take (l.length - 1) ∈ ([] : List Nat) :: ws)
def isKnown (ws : List (List Nat)) : Bool := ws.all isWord && (Rise ws && Clos ws)
/-- is_known of v is b -/
inductive KnownV (H : Hp) : V → Bool → Prop where
  | no {v : V} (h : NoTup H v) : KnownV H v false
  | bad {a : Addr} {xs : List V} {bs : List Bool} (e : H a = some (.tup xs)) (hl : xs.length ≤ 100000) (h : bs.length = xs.length) (hw : ∀ (i : Nat) (x : V) (b : Bool), xs[i]? = some x → bs[i]? = some b → WordV H x b) (hb : bs.all id = false) : KnownV H (.ref a) false
  | tup {a : Addr} {ws : List (List Nat)} (e : H a = some (.tup (tx ws))) (hl : ws.length ≤ 100000) (h : ∀ x ∈ ws, x.length ≤ 100000) : KnownV H (.ref a) (isKnown ws)
theorem KnownV.same {H H' : Hp} {v : V} {b : Bool} (h : KnownV H v b) (s : Same H H') : KnownV H' v b := by
  cases h with
  | no h => exact .no (h.same s)
  | bad e hl h hw hb => exact .bad (s _ _ e) hl h (fun i x b hx hb => (hw i x b hx hb).same s) hb
  | tup e hl h => exact .tup (s _ _ e) hl h
section
variable {P : Program} {w : World} {K : PySem.W.Frag} {mg : Str → Option Value} {base : Heap}
def spWord : Sp := fun vs H Q _ => ∃ v b, vs = [v] ∧ WordV H v b ∧ ∀ H', Same H H' → Q (.bl b) H'
theorem walk_zipTx {a b : Addr} {xs ys : List V} {n : Nat} (hn : n = min xs.length ys.length) : Walk (RZ.ItzT K a b) n (fun H => SqT K H a xs ∧ SqT K H b ys) (YPair (fun i => xs[i]?) (fun i => ys[i]?)) := by
  subst hn
  refine ⟨fun i _ hi q => ?_, fun _ q => ⟨xs, ys, q.1, q.2, by omega⟩, fun i H v H' _ q y => ?_⟩
  · have h1 : i < xs.length := by omega
    have h2 : i < ys.length := by omega
    exact ⟨xs, ys, xs[i], ys[i], q.1, q.2, by simp [h1], by simp [h2]⟩
  · obtain ⟨T, x, z, h1, h2, h3, h4, h5⟩ := y
    exact ⟨T, x, z, h1, h2, h3, h4 xs q.1, h5 ys q.2⟩
end
/-- t[1:] of a tuple: all but its first, new or not -/
def rTail (K : PySem.W.Frag) : V → Option Int → Option Int → Hp → VK → Prop := fun x lo hi H Q => ∃ a xs, x = .ref a ∧ lo = some 1 ∧ hi = none ∧ SqT K H a xs ∧ ∀ b H', Same H H' → SqT K H' b (xs.drop 1) → Q (.ref b) H'
theorem sl_tail {X : Cx} : SlR X (rTail X.K) := by
  intro pins s σ H x v vl vu lo hi sl Q I rx hs pl pu h
  obtain ⟨a, xs, rfl, rfl, rfl, hx, q⟩ := h
  refine sl_tupA pins s σ H _ v vl vu _ _ sl Q I rx hs pl pu ⟨a, xs, rfl, hx, fun z => ?_, fun z p hp => ?_⟩
  · have e : min 1 xs.length = 0 := z.1
    have e2 : xs = [] := List.eq_nil_of_length_eq_zero (by omega)
    subst e2
    exact q a H (Same.refl H) hx
  · refine q p _ (same_new hp) (.inl (.inl ?_))
    rw [upd_same]
    have e : cutV xs (some 1) none = xs.drop 1 := by
      show (xs.drop (min 1 xs.length)).take (xs.length - min 1 xs.length) = xs.drop 1
      cases xs with
      | nil => rfl
      | cons x r =>
        rw [List.length_cons, show min 1 (r.length + 1) = 1 by omega]
        exact List.take_of_length_le (by rw [List.length_drop, List.length_cons] <;> omega)
    rw [e]
def risebs (ws : List (List Nat)) : List Bool := (ws.zip (ws.drop 1)).map fun p => decide (p.1 < p.2)
theorem riseT_all : ∀ ws : List (List Nat), (risebs ws).all id = Rise ws
  | [] => rfl
  | [_] => rfl
  | a :: b :: r => by
    show (decide (a < b) && (risebs (b :: r)).all id) = (decide (a < b) && Rise (b :: r))
    rw [riseT_all (b :: r)]
theorem rise_pair : ∀ {ws : List (List Nat)}, Rise ws = true → ws.Pairwise (· < ·)
  | [], _ => List.Pairwise.nil
  | [a], _ => List.pairwise_singleton _ a
  | a :: b :: r, h => by
    have h' : (decide (a < b) && Rise (b :: r)) = true := h
    rw [Bool.and_eq_true, decide_eq_true_eq] at h'
    have ih := rise_pair h'.2
    refine List.Pairwise.cons (fun y hy => ?_) ih
    rcases List.mem_cons.mp hy with e | e
    · rw [e]; exact h'.1
    · exact List.lt_trans h'.1 ((List.pairwise_cons.mp ih).1 y e)
theorem rise_nodup {ws : List (List Nat)} (h : Rise ws = true) : ws.Nodup :=
  (rise_pair h).imp (S := fun a b => a ≠ b) fun {a b} hl (e : a = b) => List.lt_irrefl b (by rw [e] at hl; exact hl)
theorem isWord_iff {l : List Nat} : isWord l = true ↔ Az l ∧ 0 < l.length := by
  unfold isWord
  rw [Bool.and_eq_true, decide_eq_true_eq, isAz_iff]
theorem word_ne {l : List Nat} (h : isWord l = true) : l ≠ [] := List.ne_nil_of_length_pos (isWord_iff.mp h).2
theorem nodup0 {ws : List (List Nat)} (hw : ws.all isWord = true) (hr : Rise ws = true) : (([] : List Nat) :: ws).Nodup :=
  List.nodup_cons.mpr ⟨fun z => word_ne (List.all_eq_true.mp hw [] z) rfl, rise_nodup hr⟩
theorem tx_at {ws : List (List Nat)} {i : Nat} {x : V} (h : (tx ws)[i]? = some x) : ∃ l, ws[i]? = some l ∧ x = .str (SX.S l) := by
  rw [List.getElem?_map] at h
  cases e : ws[i]? with
  | none => rw [e] at h; cases h
  | some l => rw [e] at h; exact ⟨l, rfl, (Option.some.inj h).symm⟩
section
variable {P : Program} {w : World} {K : PySem.W.Frag} {mg : Str → Option Value} {base : Heap}
def spIsKnown : Sp := fun vs H Q _ => ∃ v b, vs = [v] ∧ KnownV H v b ∧ ∀ H', Same H H' → Q (.bl b) H'
abbrev nK : List Str := ["thing", "numbers", "word", "later"]
end
theorem KnownV.words {H : Hp} {v : V} {b : Bool} (h : KnownV H v b) (hb : b = true) : ∃ a ws, v = .ref a ∧ H a = some (.tup (tx ws)) ∧ isKnown ws = true ∧ ws.length ≤ 100000 := by
  cases h with
  | no h => cases hb
  | bad e hl h hw hb' => cases hb
  | tup e hl h => exact ⟨_, _, rfl, e, hb, hl⟩
def isText (l : List Nat) : Bool := isAz l && decide (l.length ≤ 2000)
/-- whether v is a text that a learner may read is b -/
inductive TextV (H : Hp) : V → Bool → Prop where
  | str (l : List Nat) (h : l.length ≤ 100000) : TextV H (.str (SX.S l)) (isText l)
  | oth {v : V} (h : NoStr H v) : TextV H v false
theorem TextV.same {H H' : Hp} {v : V} {b : Bool} (h : TextV H v b) (s : Same H H') : TextV H' v b := by
  cases h with
  | str l z => exact .str l z
  | oth z => exact .oth (z.same s)
theorem TextV.text {H : Hp} {v : V} {b : Bool} (h : TextV H v b) (hb : b = true) : ∃ l, v = .str (SX.S l) ∧ isText l = true := by
  cases h with
  | str l z => exact ⟨l, rfl, hb⟩
  | oth z => cases hb
theorem isText_iff {l : List Nat} : isText l = true ↔ Az l ∧ l.length ≤ 2000 := by
  unfold isText
  rw [Bool.and_eq_true, decide_eq_true_eq, isAz_iff]
theorem isKnown_iff {ws : List (List Nat)} : isKnown ws = true ↔ ws.all isWord = true ∧ Rise ws = true ∧ Clos ws = true := by
  unfold isKnown
  rw [Bool.and_eq_true, Bool.and_eq_true]
/-- from at on a text is read into these new words; the rest begins at r -/
inductive Reads : List (List Nat) → List Nat → Nat → List (List Nat) → Nat → Prop where
  | done {ws : List (List Nat)} {t : List Nat} {a : Nat} (h : LE ws t a t.length) : Reads ws t a [] a
  | more {ws : List (List Nat)} {t : List Nat} {a e r : Nat} {ns : List (List Nat)} (h : LE ws t a e) (he : e < t.length) (hr : Reads (ws ++ [sub t a (e + 1)]) t (e + 1) ns r) : Reads ws t a (sub t a (e + 1) :: ns) r
section
variable {P : Program} {w : World} {K : PySem.W.Frag} {mg : Str → Option Value} {base : Heap}
def spRefK (C : Addr) : Sp := fun vs H Q E => ∃ v b, vs = [v] ∧ KnownV H v b ∧ (b = true → ∀ H', Same H H' → Q .non H') ∧ (b = false → ∀ H', Same H H' → E (.ref C) none H')
def spRefT (C : Addr) : Sp := fun vs H Q E => ∃ v b, vs = [v] ∧ TextV H v b ∧ (b = true → ∀ H', Same H H' → Q .non H') ∧ (b = false → ∀ H', Same H H' → E (.ref C) none H')
def spRead (CK CT : Addr) : Sp := fun vs H Q E => ∃ kv tv b1 b2, vs = [kv, tv] ∧ KnownV H kv b1 ∧ TextV H tv b2 ∧ (b1 = false → ∀ H', Same H H' → E (.ref CK) none H') ∧ (b1 = true → b2 = false → ∀ H', Same H H' → E (.ref CT) none H') ∧
  (b1 = true → b2 = true → ∀ a ws t, kv = .ref a → H a = some (.tup (tx ws)) → isKnown ws = true → tv = .str (SX.S t) → ∀ ns r, Reads ([] :: ws) t 0 ns r → r ≤ t.length →
    ∀ d p H', Same H H' → H d = none → H' d = some (.dK (numFrom 0 (([] :: ws) ++ ns))) → H' p = some (.tup [.ref d, .str (SX.S (t.drop r))]) → Q (.ref p) H')
end

end Lk
end
section
set_option maxRecDepth 100000
set_option maxHeartbeats 2000000
/-! Sets of texts of one sign: set(text), its length, sorted. -/
namespace Lk
open PySem PySem.Spec PySem.Calls PySem.Froz PyProof.Rows L2
/-- the payload's table rises, and can be walked -/
def TxR (w : World) (D : SD) : Prop := Ris D.2.2.place.toList ∧ (w.params.followText "set-order" = true ∨ D.2.2.led = true)
theorem tailTx_ris {w : World} {ep : Nat} {es1 : Array (Int × Value)} {t2 : SetTable} {wd : Bool} (r1 : Ris t2.place.toList) (r2 : w.params.followText "set-order" = true ∨ t2.led = true) : TxR w (tailTx ep es1 t2 wd) := by
  unfold tailTx
  by_cases c : (!wd && t2.tooFull) = true
  · rw [if_pos c]
    exact ⟨relayAll_ris _ _ _, by rw [relayAll_led]; exact r2⟩
  · rw [if_neg c]
    exact ⟨r1, r2⟩
theorem addTx_ris {w : World} {D : SD} (h : Int) (v : Value) (r : TxR w D) : TxR w (addTx h v D) := by
  obtain ⟨es, ep, t⟩ := D
  obtain ⟨r1, r2⟩ := r
  have q1 := layNew_ris t es h v r1
  have q2 : (layNew t es h v).2.1.led = t.led := layNew_led t es h v
  have q3 : w.params.followText "set-order" = true ∨ (layNew t es h v).2.1.led = true := r2.imp id fun z => by rw [q2]; exact z
  unfold addTx
  refine tailTx_ris ?_ ?_
  · split
    · exact q1
    · exact q1
  · split
    · exact q3
    · exact q3
section
variable {P : Program} {w : World} {A : Around} {E : Value → Shared → Prop} {s : Shared}
theorem add_in {a : Addr} {T : String} {D : SD} {l : List Str} {k : Str} {u : Tok} {Q : Bool → Shared → Prop} (ho : s.heap.get? a = some (sObj T D)) (F : TxOk P w D l) (hk : k ∈ l) (hb : l.length < scanBound) (h : Q false s) :
    wpAny (model P w) A (setAddHashed a (.str k u) (hashStr w k)) Q E s := by
  have hsz := F.sz
  obtain ⟨j, hj⟩ : ∃ j, List.findIdx? (fun e => (strKind P w).is k e.2) D.1.toList = some j := by
    cases e : List.findIdx? (fun e => (strKind P w).is k e.2) D.1.toList with
    | some j => exact ⟨j, rfl⟩
    | none =>
      obtain ⟨z, hz, q⟩ := (F.mem k).mp hk
      have c := List.findIdx?_eq_none_iff.mp e z hz
      rw [q] at c
      cases c
  unfold setAddHashed setAddHashedIn
  refine wpAny_holding (wpAny_bind (wpAny_setState_of ho rfl F.fit ?_))
  dsimp only
  rw [byScan_of rfl (by omega) F.el]
  simp only [↓reduceIte]
  unfold setAddByScan
  refine wpAny_bind (wpAny_bind (wpAny_rule (wpAny_bind (wpAny_setScan_of (knd := strKind P w) (k := k) (is_str k u) ho rfl F.fit F.el ?_))))
  rw [hj]
  dsimp only
  exact wpAny_pure (wpAny_pure h)
end
section
variable {P : Program} {w : World} {A : Around} {R : Result → Shared → Prop}
theorem sing_inj {c d : Nat} (h : sing c = sing d) : c = d := by
  have q : [c] = [d] := congrArg (fun y : Str => y.cps.toList) h
  exact (List.cons.inj q).1
/-- the rest of a text's signs go into the set -/
theorem upd_all {a it : Addr} (hne : a ≠ it) {x : Str} {u : Tok} (hh : A.handled = none) : ∀ (cs : List Nat) (i : Nat) (D : SD) (l : List Str) (s : Shared), x.cps.toList.drop i = cs →
    s.heap.get? a = some (sObj "set" D) → s.heap.get? it = some (itObj x u i) → TxOk P w D l → TxR w D → l.Nodup → l.length + cs.length < scanBound →
    (∀ h' tk D' l', (∀ b o, b ≠ a → b ≠ it → s.heap.get? b = some o → h'.get? b = some o) → h'.get? a = some (sObj "set" D') → TxOk P w D' l' → TxR w D' → l'.Nodup → (∀ y, y ∈ l' ↔ y ∈ l ∨ ∃ c ∈ cs, y = sing c) →
      l'.length ≤ l.length + cs.length → R (.ok (.ret .none)) { s with heap := h', toks := tk }) → codeAny (model P w) A (.builtin "set.update.loop" ⟨[.ref a, .ref it], []⟩) R s
  | [], i, D, l, s, hd, ha, hit, F, rr, nd, hb, h => by
    refine codeAny_builtin PyProof.Rows.F.entry_set_update_loop ?_
    rw [Around.under_plainId PyProof.Rows.F.plain_set_update_loop _]
    show wpAny _ A.in1 (pyNext (.ref it) >>= _) _ _ s
    refine wpAny_bind (end_x (u := u) (by exact hh) hit (at_end hd) (wpAny_pure ?_))
    have k : ∀ b o, b ≠ it → s.heap.get? b = some o → (endHeap s.heap it i).get? b = some o := fun b o hb e =>
      Heap.get?_push_of_some _ (Heap.get?_push_of_some _ (PySem.Heap.get?_update_of_ne _ (Ne.symm hb) e))
    exact h _ _ D l (fun b o _ hb e => k b o hb e) (k a _ hne ha) F rr nd (fun y => by simp) (Nat.le_refl _)
  | c :: r, i, D, l, s, hd, ha, hit, F, rr, nd, hb, h => by
    obtain ⟨hx, hd2⟩ := Froz.at_of hd
    have hb2 : l.length + (r.length + 1) < scanBound := hb
    refine codeAny_builtin PyProof.Rows.F.entry_set_update_loop ?_
    rw [Around.under_plainId PyProof.Rows.F.plain_set_update_loop _]
    show wpAny _ A.in1 (pyNext (.ref it) >>= _) _ _ s
    refine wpAny_bind (next_x (u := u) hit hx ?_)
    show wpAny _ A.in1 (holding [Value.str (sing c) s.toks] (setAdd a (.str (sing c) s.toks)) >>= _) _ _ _
    refine wpAny_bind (wpAny_holding ?_)
    unfold setAdd
    refine wpAny_holding (wpAny_bind ((strKind P w).pyHash (k := sing c) (is_str _ _) ?_))
    have ha1 : (s.heap.update it (fun _ => itObj x u (i + 1))).get? a = some (sObj "set" D) := PySem.Heap.get?_update_of_ne _ (Ne.symm hne) ha
    have hit1 : (s.heap.update it (fun _ => itObj x u (i + 1))).get? it = some (itObj x u (i + 1)) := get_upd _ hit rfl
    have oth1 : ∀ b o, b ≠ it → s.heap.get? b = some o → (s.heap.update it (fun _ => itObj x u (i + 1))).get? b = some o := fun b o hb e => PySem.Heap.get?_update_of_ne _ (Ne.symm hb) e
    by_cases hm : sing c ∈ l
    · refine add_in (s := { s with heap := s.heap.update it (fun _ => itObj x u (i + 1)), toks := s.toks + 1 + 1 }) ha1 F hm (by omega) ?_
      refine wpAny_pure ⟨plainId_quiet PyProof.Rows.F.plain_set_update_loop _, upd_all hne hh r (i + 1) D l _ hd2 ha1 hit1 F rr nd (by omega) fun h' tk D' l' k ga F' rr' nd' mm ll => ?_⟩
      refine h h' tk D' l' (fun b o na ni e => k b o na ni (oth1 b o ni e)) ga F' rr' nd' (fun y => ?_) (by show l'.length ≤ l.length + (r.length + 1); omega)
      rw [mm y]
      constructor
      · rintro (q | ⟨d, hd, q⟩)
        · exact .inl q
        · exact .inr ⟨d, List.mem_cons_of_mem _ hd, q⟩
      · rintro (q | ⟨d, hd, q⟩)
        · exact .inl q
        · rcases List.mem_cons.mp hd with e | e
          · exact .inl (by rw [q, e]; exact hm)
          · exact .inr ⟨d, e, q⟩
    · refine add_x (l := l) (D := D) (s := { s with heap := s.heap.update it (fun _ => itObj x u (i + 1)), toks := s.toks + 1 + 1 }) ha1 F hm (by omega) ?_
      have ha2 : ((s.heap.update it (fun _ => itObj x u (i + 1))).update a (fun _ => sObj "set" (addTx (hashStr w (sing c)) (.str (sing c) s.toks) D))).get? a = some (sObj "set" (addTx (hashStr w (sing c)) (.str (sing c) s.toks) D)) := get_upd _ ha1 rfl
      have hit2 : ((s.heap.update it (fun _ => itObj x u (i + 1))).update a (fun _ => sObj "set" (addTx (hashStr w (sing c)) (.str (sing c) s.toks) D))).get? it = some (itObj x u (i + 1)) := PySem.Heap.get?_update_of_ne _ hne hit1
      refine wpAny_pure ⟨plainId_quiet PyProof.Rows.F.plain_set_update_loop _, upd_all hne hh r (i + 1) _ (sing c :: l) _ hd2 ha2 hit2 (add_ok s.toks F) (addTx_ris _ _ rr) (List.nodup_cons.mpr ⟨hm, nd⟩) (by show l.length + 1 + r.length < scanBound; omega) fun h' tk D' l' k ga F' rr' nd' mm ll => ?_⟩
      refine h h' tk D' l' (fun b o na ni e => k b o na ni (PySem.Heap.get?_update_of_ne _ (Ne.symm na) (oth1 b o ni e))) ga F' rr' nd' (fun y => ?_) (by have z : l'.length ≤ l.length + 1 + r.length := ll; show l'.length ≤ l.length + (r.length + 1); omega)
      rw [mm y]
      constructor
      · rintro (q | ⟨d, hd, q⟩)
        · rcases List.mem_cons.mp q with e | e
          · exact .inr ⟨c, List.mem_cons_self, e⟩
          · exact .inl e
        · exact .inr ⟨d, List.mem_cons_of_mem _ hd, q⟩
      · rintro (q | ⟨d, hd, q⟩)
        · exact .inl (List.mem_cons_of_mem _ q)
        · rcases List.mem_cons.mp hd with e | e
          · exact .inl (by rw [q, e]; exact List.mem_cons_self)
          · exact .inr ⟨d, e, q⟩
end
end Lk
end
section
set_option maxRecDepth 100000
set_option maxHeartbeats 2000000
namespace Lk
open PySem PySem.Spec PySem.Calls PySem.Froz PyProof.Rows L2
section
variable {P : Program} {w : World} {A : Around} {E : Value → Shared → Prop} {s : Shared}
def newS (w : World) : Obj := sObj "set" (#[], 0, .fresh 0 0 (!w.params.followText "set-order"))
theorem newS_ok {P : Program} {w : World} : TxOk P w ((#[], 0, .fresh 0 0 (!w.params.followText "set-order")) : SD) [] := TxOk.nil (by rfl)
theorem newS_ris {w : World} : TxR w ((#[], 0, .fresh 0 0 (!w.params.followText "set-order")) : SD) := ⟨List.Pairwise.nil, by
  show _ ∨ (!w.params.followText "set-order") = true
  cases w.params.followText "set-order"
  · exact .inr rfl
  · exact .inl rfl⟩
theorem sub_str_set : isSubtype (.type "str") (.type "set") = pure false := by rw [isSubtype_type]; kernel_rfl
theorem sub_str_frozenset : isSubtype (.type "str") (.type "frozenset") = pure false := by rw [isSubtype_type]; kernel_rfl
theorem sub_str_dict : isSubtype (.type "str") (.type "dict") = pure false := by rw [isSubtype_type]; kernel_rfl
set_option maxRecDepth 100000 in
set_option maxHeartbeats 3200000 in
/-- set(text) -/
theorem call_set_text {x : Str} {u : Tok} {Q : Value → Shared → Prop} (hh : A.handled = none) (ha : x.cps.all (· < 128) = true) (hb : x.cps.toList.length < scanBound)
    (h : ∀ (h' : Heap) (tk : Nat) (D : SD) (l : List Str), h'.get? s.heap.objs.size = some (sObj "set" D) → TxOk P w D l → TxR w D → l.Nodup → (∀ y, y ∈ l ↔ ∃ c ∈ x.cps.toList, y = sing c) → l.length ≤ x.cps.toList.length →
      (∀ b o, s.heap.get? b = some o → h'.get? b = some o) → Q (.ref s.heap.objs.size) { s with heap := h', toks := tk }) :
    wpAny (model P w) A (call (.type "set") [.str x u]) Q E s := by
  obtain ⟨c, tl, hmro⟩ := F.called_set.mro
  have hmade := F.called_set.made
  have hsub := F.called_set.sub
  refine wpAny_call (codeAny_of_tree ?_)
  show wpAny _ _ (callAny (.type "set") _) _ _ _
  refine wpAny_pure ⟨Code.quiet_builtin _ (by decide +kernel), codeAny_builtin F.entry_type_call ?_⟩
  rw [Around.under_plain (weight_type_call_type "set" [.str x u] []) rfl]
  have h1 := F.called_set.notType
  have h2 := F.called_set.canCreate
  have hct := F.typeCall_set_1 (.str x u)
  repeat (any_goals (first | assumption | wp_step))
  refine codeAny_mono (code_set_led1 (.str x u) (E := E) (Q₁ := fun obj s₁ => obj = .ref s.heap.objs.size ∧ s₁ = { s with heap := s.heap.push (newS w) }) ⟨rfl, rfl⟩) fun r s₁ hr => ?_
  cases r with
  | error e => exact hr
  | ok fl =>
    cases fl with
    | ret obj =>
      obtain ⟨rfl, rfl⟩ := hr
      have hS : (s.heap.push (newS w)).get? s.heap.objs.size = some (newS w) := Heap.get?_push_size _ rfl
      have hT : Shared.TypeIs { s with heap := s.heap.push (newS w) } (.ref s.heap.objs.size) "set" := ⟨_, hS, rfl⟩
      have hli := F.called_set.init.lookup
      have hbi := F.called_set.init.bind (.ref s.heap.objs.size)
      repeat (any_goals (first | assumption | wp_step))
      refine codeAny_mono (codeAny_call_builtin (R := wants (fun r s₂ => r = .none ∧ ∃ h' tk D l, s₂ = { s with heap := h', toks := tk } ∧ h'.get? s.heap.objs.size = some (sObj "set" D) ∧ TxOk P w D l ∧ TxR w D ∧ l.Nodup ∧ (∀ y, y ∈ l ↔ ∃ c ∈ x.cps.toList, y = sing c) ∧
          l.length ≤ x.cps.toList.length ∧ (∀ b o, s.heap.get? b = some o → h'.get? b = some o)) E) F.called_set.init.plain F.entry_set_init (check_set_init_1 hT ?_)) fun r₂ s₂ hr₂ => ?_
      · have hsls := sub_str_set
        have hslf := sub_str_frozenset
        have hne : (Value.type "str" == Value.type "dict") = false := by decide
        unfold Builtin.«set.__init__» noKeywords Builtin.Frozenset.updateFrom
        generalize hPI : pyIter = PI
        wp_walk
        subst hPI
        refine wpAny_pyIter_ascii ha ?_
        have ho : ((s.heap.push (newS w)).push (itObj x u 0)).get? s.heap.objs.size = some (newS w) := Heap.get?_push_of_some _ hS
        have hi : ((s.heap.push (newS w)).push (itObj x u 0)).get? (s.heap.push (newS w)).objs.size = some (itObj x u 0) := Heap.get?_push_size _ rfl
        have hne : s.heap.objs.size ≠ (s.heap.push (newS w)).objs.size := by rw [Heap.size_push]; exact Nat.ne_of_lt (Nat.lt_succ_self _)
        have hh3 : A.in1.in1.handled = none := by simp [hh]
        refine wpAny_bind (wpAny_runValue ?_)
        refine upd_all (s := { s with heap := (s.heap.push (newS w)).push (itObj x u 0) }) hne hh3 x.cps.toList 0 _ [] rfl ho hi newS_ok newS_ris List.nodup_nil (by simpa using hb) fun h' tk D' l' k ga F' rr' nd' mm ll => ?_
        refine wpAny_pure (wpAny_pure ⟨rfl, h', tk, D', l', rfl, ga, F', rr', nd', fun y => ?_, by simpa using ll, fun b o e => ?_⟩)
        · rw [mm y]
          simp
        · have hlt := Heap.lt_size e
          exact k b o (Nat.ne_of_lt hlt) (by rw [Heap.size_push]; exact Nat.ne_of_lt (Nat.lt_succ_of_lt hlt)) (Heap.get?_push_of_some _ (Heap.get?_push_of_some _ e))
      · cases r₂ with
        | error e => exact hr₂
        | ok fl₂ =>
          cases fl₂ with
          | ret r =>
            obtain ⟨rfl, h', tk, D, l, rfl, q1, q2, q3, q4, q5, q6, q7⟩ := hr₂
            repeat (any_goals (first | assumption | wp_step))
            exact h _ _ _ _ q1 q2 q3 q4 q5 q6 q7
          | _ => exact hr₂.elim
    | _ => exact hr.elim
end
end Lk
end
section
set_option maxRecDepth 100000
set_option maxHeartbeats 2000000
/-! Sets of signs over the tracked heap. -/
namespace Lk
open PySem PySem.Spec PySem.Froz PyProof.Rows L2
/-- a set of texts of one sign at a -/
def SetT (P : Program) (w : World) (a : Addr) (l : List Str) : HO := .ext fun h => ∃ D, h.get? a = some (sObj "set" D) ∧ TxOk P w D l ∧ TxR w D
theorem setT_ok {P : Program} {w : World} {H : Hp} {h : Heap} {a : Addr} {D : SD} {l : List Str} (e : h.get? a = some (sObj "set" D)) (F : TxOk P w D l) (r : TxR w D) : ObjOk P w H h a (SetT P w a l) :=
  ⟨⟨D, e, F, r⟩, ⟨_, e⟩, fun _ _ ⟨D, q, z⟩ k => ⟨D, k _ q, z⟩⟩
section
variable {X : Cx}
def rSetT (P : Program) (w : World) : List V → Hp → VK → Prop := fun xs H Q => ∃ l : List Nat, xs = [.str (SX.S l)] ∧ l.all (· < 128) = true ∧ l.length < 4000 ∧
  ∀ p ks, H p = none → ks.Nodup → (∀ y, y ∈ ks ↔ ∃ c ∈ l, y = sing c) → ks.length ≤ l.length → Q (.ref p) (upd H p (SetT P w p ks))
theorem cr_setT (hc : X.calm = true) : CallR X (.type "set") (rSetT X.prog X.w) := by
  intro pins s σ H xs us Q I r h
  obtain ⟨l, rfl, ha, hb, q⟩ := h
  obtain ⟨u, rfl, t, rfl⟩ := vals1 r
  refine call_set_text (I.ok.hd hc) (by rw [← Array.all_toList]; exact ha) (Nat.lt_trans (show (SX.S l).cps.toList.length < 4000 from hb) (by decide)) fun h' tk D ks g F rr nd mm ll k => ?_
  exact ⟨.ref _, upd H s.heap.objs.size (SetT X.prog X.w s.heap.objs.size ks), I.laid (t' := tk) k (Nat.le_refl _) (setT_ok g F rr), rfl, q _ ks (I.hok.fresh (Nat.le_refl _)) nd mm ll⟩
/-- len of it -/
def rLenT (P : Program) (w : World) : List V → Hp → VK → Prop := fun xs H Q => ∃ a ks, xs = [.ref a] ∧ H a = some (SetT P w a ks) ∧ ks.length < 4096 ∧ Q (.int ks.length) H
theorem call_lenT : CallR X (.builtin "len") (rLenT X.prog X.w) := by
  intro pins s σ H xs us Q I r h
  obtain ⟨a, ks, rfl, ha, hz, q⟩ := h
  obtain ⟨u, rfl, hu⟩ := vals1 r
  cases (show u = Value.ref a from hu)
  obtain ⟨⟨D, g, F, rr⟩, _⟩ := I.hok a _ ha
  have e : D.1.size = ks.length := F.sz
  refine call_len_set (es := D.1) (ep := D.2.1) (t := D.2.2) g ⟨rfl, rfl, rfl⟩ rfl F.fit (by rw [e]; omega) ?_
  exact ⟨.int ks.length, H, I.tok _, ⟨_, by rw [e]⟩, q⟩
end
end Lk
end
section
set_option maxRecDepth 100000
set_option maxHeartbeats 2000000
namespace Lk
open PySem PySem.Spec PyProof.Rows L2
section
variable {X : Cx} {k j : Nat} {x : Str} {sp : Sp} {p pos : Pos} {e : Expr} {es : List Expr} {t : TA} {W : WX}
end
def isLoop (l : List Nat) : Bool := isAz l && (decide (1 ≤ l.length) && decide (l.length ≤ 12))
/-- is_loop of v is b -/
inductive LoopV (H : Hp) : V → Bool → Prop where
  | str (l : List Nat) (h : l.length ≤ 100000) : LoopV H (.str (SX.S l)) (isLoop l)
  | oth {v : V} (h : NoStr H v) : LoopV H v false
theorem LoopV.same {H H' : Hp} {v : V} {b : Bool} (h : LoopV H v b) (s : Same H H') : LoopV H' v b := by
  cases h with
  | str l z => exact .str l z
  | oth z => exact .oth (z.same s)
section
variable {P : Program} {w : World} {K : PySem.W.Frag} {mg : Str → Option Value} {base : Heap}
def spIsLoop : Sp := fun vs H Q _ => ∃ v b, vs = [v] ∧ LoopV H v b ∧ ∀ H', Same H H' → Q (.bl b) H'
/-- nothing, or NoLoop -/
def spRefuse (C : Addr) : Sp := fun vs H Q E => ∃ v b, vs = [v] ∧ LoopV H v b ∧ (b = true → ∀ H', Same H H' → Q .non H') ∧ (b = false → ∀ H', Same H H' → E (.ref C) none H')
end
theorem few_len {α : Type} [DecidableEq α] : ∀ {ks L : List α}, ks.Nodup → (∀ y ∈ ks, y ∈ L) → ks.length ≤ L.length
  | [], _, _, _ => Nat.zero_le _
  | k :: ks, L, nd, h => by
    obtain ⟨h1, h2⟩ := List.nodup_cons.mp nd
    have hk : k ∈ L := h k List.mem_cons_self
    have e : (L.erase k).length = L.length - 1 := List.length_erase_of_mem hk
    have hp : 0 < L.length := List.length_pos_of_mem hk
    have ih := few_len (ks := ks) (L := L.erase k) h2 fun y hy => by
      have ny : y ≠ k := fun z => h1 (by rw [← z]; exact hy)
      exact (List.mem_erase_of_ne ny).mpr (h y (List.mem_cons_of_mem _ hy))
    show ks.length + 1 ≤ L.length
    omega
theorem less_of_dup {α : Type} [DecidableEq α] : ∀ {L : List α}, ¬ L.Nodup → ∃ L' : List α, L'.length < L.length ∧ ∀ y, y ∈ L → y ∈ L'
  | [], h => absurd List.nodup_nil h
  | x :: L, h => by
    by_cases hx : x ∈ L
    · exact ⟨L, Nat.lt_succ_self _, fun y hy => by
        rcases List.mem_cons.mp hy with e | e
        · rw [e]; exact hx
        · exact e⟩
    · have hL : ¬ L.Nodup := fun z => h (List.nodup_cons.mpr ⟨hx, z⟩)
      obtain ⟨L', l1, l2⟩ := less_of_dup hL
      exact ⟨x :: L', Nat.succ_lt_succ l1, fun y hy => by
        rcases List.mem_cons.mp hy with e | e
        · rw [e]; exact List.mem_cons_self
        · exact List.mem_cons_of_mem _ (l2 y e)⟩
theorem map_sing_nodup {l : List Nat} (h : l.Nodup) : (l.map PySem.Froz.sing).Nodup := by
  induction l with
  | nil => exact List.nodup_nil
  | cons c r ih =>
    obtain ⟨h1, h2⟩ := List.nodup_cons.mp h
    refine List.nodup_cons.mpr ⟨fun z => ?_, ih h2⟩
    obtain ⟨d, hd, e⟩ := List.mem_map.mp z
    rw [sing_inj e] at hd
    exact h1 hd
/-- a set of a text's signs has as many as the text just where they are unlike -/
theorem set_len {l : List Nat} {ks : List Str} (nd : ks.Nodup) (mm : ∀ y, y ∈ ks ↔ ∃ c ∈ l, y = PySem.Froz.sing c) : ks.length = l.length ↔ l.Nodup := by
  have mm' : ∀ y, y ∈ ks ↔ y ∈ l.map PySem.Froz.sing := fun y => by
    rw [mm y, List.mem_map]
    exact ⟨fun ⟨c, h, e⟩ => ⟨c, h, e.symm⟩, fun ⟨c, h, e⟩ => ⟨c, h, e.symm⟩⟩
  constructor
  · intro e
    by_cases h : l.Nodup
    · exact h
    · obtain ⟨L', l1, l2⟩ := less_of_dup h
      have z := few_len nd (L := L'.map PySem.Froz.sing) fun y hy => by
        obtain ⟨c, hc, rfl⟩ := (mm y).mp hy
        exact List.mem_map.mpr ⟨c, l2 c hc, rfl⟩
      rw [List.length_map] at z
      omega
  · intro h
    have a := few_len nd (L := l.map PySem.Froz.sing) fun y hy => (mm' y).mp hy
    have b := few_len (map_sing_nodup h) (L := ks) fun y hy => (mm' y).mpr hy
    rw [List.length_map] at a b
    omega
def rotL (l : List Nat) (k : Nat) : List Nat := l.drop k ++ l.take k
/-- d is the least turn, one at least, that gives the loop again -/
def IsPer (l : List Nat) (d : Nat) : Prop := 1 ≤ d ∧ d ≤ l.length ∧ rotL l (d % l.length) = l ∧ ∀ j, 1 ≤ j → j < d → rotL l (j % l.length) ≠ l
theorem isLoop_len {l : List Nat} (h : isLoop l = true) : Az l ∧ 1 ≤ l.length ∧ l.length ≤ 12 := by
  unfold isLoop at h
  rw [Bool.and_eq_true, Bool.and_eq_true, decide_eq_true_eq, decide_eq_true_eq] at h
  exact ⟨isAz_iff.mp h.1, h.2⟩
theorem az_small {l : List Nat} (h : Az l) : l.all (· < 128) = true := by
  rw [List.all_eq_true]
  intro c hc
  have z := h c hc
  exact decide_eq_true (by omega)
theorem LoopV.text {H : Hp} {v : V} {b : Bool} (h : LoopV H v b) (hb : b = true) : ∃ l, v = .str (SX.S l) ∧ isLoop l = true := by
  cases h with
  | str l z => exact ⟨l, rfl, hb⟩
  | oth z => cases hb
theorem small12 {l : List Nat} (h : l.length ≤ 12) : (SX.S l).length ≤ sizeLine := by
  rw [SX.S_len]
  exact Nat.le_trans h (by decide)
section
variable {P : Program} {w : World} {K : PySem.W.Frag} {mg : Str → Option Value} {base : Heap}
def spPlain (C : Addr) : Sp := fun vs H Q E => ∃ v b, vs = [v] ∧ LoopV H v b ∧ (b = true → ∀ l, v = .str (SX.S l) → ∀ H', Same H H' → Q (.bl (decide l.Nodup)) H') ∧ (b = false → ∀ H', Same H H' → E (.ref C) none H')
def spTurned (C : Addr) : Sp := fun vs H Q E => ∃ v n b, vs = [v, .int n] ∧ LoopV H v b ∧ (b = true → ∀ l, v = .str (SX.S l) → ∀ H', Same H H' → Q (.str (SX.S (rotL l (n % l.length).toNat))) H') ∧ (b = false → ∀ H', Same H H' → E (.ref C) none H')
end
/-- the k-th letter of the endless loop -/
def lat (l : List Nat) (k : Nat) : Nat := l.getD (k % l.length) 0
theorem getD_eq {l : List Nat} {i : Nat} (h : i < l.length) : l.getD i 0 = l[i] := by
  rw [List.getD_eq_getElem?_getD, List.getElem?_eq_getElem h]
  rfl
theorem rotL_len (l : List Nat) (k : Nat) : (rotL l k).length = l.length := by
  unfold rotL
  rw [List.length_append, List.length_drop, List.length_take]
  omega
theorem rotL_at {l : List Nat} {k i : Nat} (hk : k < l.length) (hi : i < l.length) : (rotL l k).getD i 0 = l.getD ((i + k) % l.length) 0 := by
  unfold rotL
  rw [List.getD_eq_getElem?_getD, List.getD_eq_getElem?_getD]
  by_cases c : i < l.length - k
  · rw [List.getElem?_append_left (by rw [List.length_drop]; exact c), List.getElem?_drop, Nat.mod_eq_of_lt (by omega), Nat.add_comm]
  · rw [List.getElem?_append_right (by rw [List.length_drop]; omega), List.length_drop, List.getElem?_take, if_pos (by omega)]
    have e : (i + k) % l.length = i - (l.length - k) := by
      rw [Nat.mod_eq_sub_mod (by omega), Nat.mod_eq_of_lt (by omega)]
      omega
    rw [e]
theorem lat_mod (l : List Nat) (k : Nat) : lat l (k % l.length) = lat l k := by
  unfold lat
  rw [Nat.mod_mod]
theorem ext_getD {a b : List Nat} (hl : a.length = b.length) (h : ∀ i, i < a.length → a.getD i 0 = b.getD i 0) : a = b := by
  refine List.ext_getElem hl fun i h1 h2 => ?_
  have z := h i h1
  rw [getD_eq h1, getD_eq h2] at z
  exact z
theorem rot_per {l : List Nat} {j : Nat} (h0 : 0 < l.length) : rotL l (j % l.length) = l ↔ ∀ k, lat l (k + j) = lat l k := by
  have hj : j % l.length < l.length := Nat.mod_lt _ h0
  constructor
  · intro e k
    have hk : k % l.length < l.length := Nat.mod_lt _ h0
    have z := rotL_at hj hk
    rw [e] at z
    unfold lat
    rw [z, Nat.add_mod k j]
  · intro h
    refine ext_getD (rotL_len _ _) fun i hi => ?_
    rw [rotL_len] at hi
    rw [rotL_at hj hi]
    have z := h i
    unfold lat at z
    rw [Nat.mod_eq_of_lt hi] at z
    rw [← z]
    congr 1
    rw [Nat.add_mod i j, Nat.add_mod i (j % l.length), Nat.mod_mod]
theorem per_mul {l : List Nat} {d : Nat} (h : ∀ k, lat l (k + d) = lat l k) : ∀ q k, lat l (k + d * q) = lat l k
  | 0, k => by rw [Nat.mul_zero, Nat.add_zero]
  | q + 1, k => by
    rw [Nat.mul_succ, ← Nat.add_assoc, h, per_mul h q k]
theorem per_mod {l : List Nat} {d : Nat} (h : ∀ k, lat l (k + d) = lat l k) (k : Nat) : lat l (k % d) = lat l k := by
  have z := per_mul h (k / d) (k % d)
  rw [Nat.mod_add_div] at z
  exact z.symm
theorem take_at {l : List Nat} {d i : Nat} (hd : d ≤ l.length) (hi : i < d) : (l.take d).getD i 0 = lat l i := by
  unfold lat
  rw [Nat.mod_eq_of_lt (by omega), List.getD_eq_getElem?_getD, List.getElem?_take, if_pos hi, ← List.getD_eq_getElem?_getD]
theorem per_of {l : List Nat} {d : Nat} (h : IsPer l d) : ∀ k, lat l (k + d) = lat l k := (rot_per (by have := h.1; have := h.2.1; omega)).mp h.2.2.1
/-- two loops have one root just where they read alike for ever -/
theorem roots {a b : List Nat} {d e : Nat} (ha : IsPer a d) (hb : IsPer b e) : a.take d = b.take e ↔ ∀ k, lat a k = lat b k := by
  have pa := per_of ha
  have pb := per_of hb
  have la : (a.take d).length = d := by rw [List.length_take]; exact Nat.min_eq_left ha.2.1
  have lb : (b.take e).length = e := by rw [List.length_take]; exact Nat.min_eq_left hb.2.1
  constructor
  · intro z k
    have ed : d = e := by rw [← la, z, lb]
    subst ed
    rw [← per_mod pa k, ← per_mod pb k]
    have hk : k % d < d := Nat.mod_lt _ ha.1
    rw [← take_at ha.2.1 hk, ← take_at hb.2.1 hk, z]
  · intro z
    have ed : d = e := by
      rcases Nat.lt_trichotomy d e with c | c | c
      · have q : ∀ k, lat b (k + d) = lat b k := fun k => by rw [← z, ← z, pa]
        exact absurd ((rot_per (by have := hb.1; have := hb.2.1; omega)).mpr q) (hb.2.2.2 d ha.1 c)
      · exact c
      · have q : ∀ k, lat a (k + e) = lat a k := fun k => by rw [z, z, pb]
        exact absurd ((rot_per (by have := ha.1; have := ha.2.1; omega)).mpr q) (ha.2.2.2 e hb.1 c)
    subst ed
    refine ext_getD (by rw [la, lb]) fun i hi => ?_
    rw [la] at hi
    rw [take_at ha.2.1 hi, take_at hb.2.1 hi, z]
theorem least {p : Nat → Prop} : ∀ n, p n → ∃ k, p k ∧ k ≤ n ∧ ∀ j, j < k → ¬ p j := by
  intro n
  induction n using Nat.strongRecOn with
  | ind n ih =>
    intro h
    by_cases c : ∃ j, j < n ∧ p j
    · obtain ⟨j, hj, hp⟩ := c
      obtain ⟨k, k1, k2, k3⟩ := ih j hj hp
      exact ⟨k, k1, by omega, k3⟩
    · exact ⟨n, h, Nat.le_refl _, fun j hj hp => c ⟨j, hj, hp⟩⟩
/-- each loop has a root -/
theorem per_ex {l : List Nat} (h0 : 0 < l.length) : ∃ d, IsPer l d := by
  have hn : 1 ≤ l.length ∧ rotL l (l.length % l.length) = l := ⟨h0, by rw [Nat.mod_self]; unfold rotL; simp⟩
  obtain ⟨k, k1, k2, k3⟩ := least (p := fun d => 1 ≤ d ∧ rotL l (d % l.length) = l) l.length hn
  exact ⟨k, k1.1, k2, k1.2, fun j j1 j2 e => k3 j j2 ⟨j1, e⟩⟩
/-- two loops that read alike for as many letters as their lengths' product read alike for ever -/
theorem alike_all {a b : List Nat} (h : ∀ k, k < a.length * b.length → lat a k = lat b k) (ha : 0 < a.length) (hb : 0 < b.length) : ∀ k, lat a k = lat b k := by
  intro k
  have hk : k % (a.length * b.length) < a.length * b.length := Nat.mod_lt _ (Nat.mul_pos ha hb)
  have z := h _ hk
  unfold lat at z ⊢
  rw [Nat.mod_mul_right_mod, Nat.mod_mul_left_mod] at z
  exact z
section
variable {P : Program} {w : World} {K : PySem.W.Frag} {mg : Str → Option Value} {base : Heap}
def spRoot (C : Addr) : Sp := fun vs H Q E => ∃ v b, vs = [v] ∧ LoopV H v b ∧ (b = true → ∀ l d, v = .str (SX.S l) → IsPer l d → ∀ H', Same H H' → Q (.str (SX.S (l.take d))) H') ∧ (b = false → ∀ H', Same H H' → E (.ref C) none H')
/-- how many letters two loops read alike, or None -/
def spAlike (C : Addr) : Sp := fun vs H Q E => ∃ v u b c, vs = [v, u] ∧ LoopV H v b ∧ LoopV H u c ∧ (b = true → c = true → ∀ l m, v = .str (SX.S l) → u = .str (SX.S m) →
    ((∀ k, lat l k = lat m k) → ∀ H', Same H H' → Q .non H') ∧ (∀ k : Nat, lat l k ≠ lat m k → (∀ j, j < k → lat l j = lat m j) → ∀ H', Same H H' → Q (.int k) H')) ∧ ((b && c) = false → ∀ H', Same H H' → E (.ref C) none H')
theorem lat_item {l : List Nat} (h0 : 0 < l.length) (k : Nat) : (SX.S l).cps[((k : Int) % (l.length : Int)).toNat]? = some (lat l k) := by
  have e : ((k : Int) % (l.length : Int)).toNat = k % l.length := by omega
  have hk : k % l.length < l.length := Nat.mod_lt _ h0
  rw [e]
  show (l.toArray)[k % l.length]? = some (lat l k)
  rw [List.getElem?_toArray, List.getElem?_eq_getElem hk]
  unfold lat
  rw [getD_eq hk]
end

end Lk
end
section
set_option maxRecDepth 100000
set_option maxHeartbeats 2000000
/-! The rules that lay a new object, told without the heap's text: what was stays, the object is there. -/
namespace Lk
open PySem PySem.Spec PyProof.Rows L2
section
variable {X : Cx} {es : List Expr} {t : TA} {pos : Pos}
def tTupS (t : TA) : TE := fun σ H Q => t σ H fun xs H1 => xs.length ≤ sizeLine ∧ ∀ p H2, H1 p = none → Same H1 H2 → H2 p = some (.tup xs) → Q (.ref p) H2
def tLstS (t : TA) : TE := fun σ H Q => t σ H fun xs H1 => xs.length ≤ sizeLine ∧ ∀ p H2, H1 p = none → Same H1 H2 → H2 p = some (.lst xs) → Q (.ref p) H2
theorem pe_tupS {x1} (h : PA X es t) : PE X (.Tuple es x1 pos) (tTupS t) := by
  refine ⟨fun pins s σ H Q I hq => wpAny_Tuple_spliced (thn (h.run pos pins s σ H _ I hq) fun us s1 ⟨xs, H1, I1, r, z, q⟩ => ⟨by rw [← r.length]; exact z, ?_⟩)⟩
  have free : H1 s1.heap.objs.size = none := I1.hok.fresh (Nat.le_refl _)
  refine ⟨.ref s1.heap.objs.size, _, I1.laid (o := .tup xs) (t' := s1.toks) (fun b u e => Heap.get?_push_of_some _ e) (Nat.le_refl _) ?_, rfl, q _ _ free (same_new free) upd_same⟩
  exact ⟨z, us, r, ⟨_, Heap.get?_push_size _ rfl, rfl, _, rfl⟩⟩
theorem pe_lstS (h : PA X es t) : PE X (.List es pos) (tLstS t) := by
  refine ⟨fun pins s σ H Q I hq => wpAny_List_spliced (thn (h.run pos pins s σ H _ I hq) fun us s1 ⟨xs, H1, I1, r, z, q⟩ => ⟨by rw [← r.length]; exact z, ?_⟩)⟩
  have free : H1 s1.heap.objs.size = none := I1.hok.fresh (Nat.le_refl _)
  refine ⟨.ref s1.heap.objs.size, _, I1.laid (o := .lst xs) (t' := s1.toks) (fun b u e => Heap.get?_push_of_some _ e) (Nat.le_refl _) ?_, rfl, q _ _ free (same_new free) upd_same⟩
  exact ⟨z, us, 0, r, Heap.get?_push_size _ rfl⟩
def rCatS : R2 := fun x y H Q => ∃ a b xs ys, x = .ref a ∧ y = .ref b ∧ H a = some (.lst xs) ∧ H b = some (.lst ys) ∧ xs.length + ys.length ≤ sizeLine ∧ ∀ p H2, H p = none → Same H H2 → H2 p = some (.lst (xs ++ ys)) → Q (.ref p) H2
theorem op_catS : OpR X (binaryOp .Add) rCatS := by
  intro pins s σ H x y v u Q I rx ry h
  obtain ⟨a, b, xs, ys, rfl, rfl, ha, hb, hl, q⟩ := h
  exact op_cat pins s σ H _ _ v u Q I rx ry ⟨a, b, xs, ys, rfl, rfl, ha, hb, hl, fun p hp => q p _ hp (same_new hp) upd_same⟩
/-- tuple(xs) of a list, tuple(t) of a tuple -/
def rTupS : List V → Hp → VK → Prop := fun vs H Q => ∃ p xs, vs = [.ref p] ∧ ((H p = some (.lst xs) ∧ ∀ l H2, H l = none → Same H H2 → H2 l = some (.tup xs) → Q (.ref l) H2) ∨ (H p = some (.tup xs) ∧ Q (.ref p) H))
theorem call_tupS : CallR X (.type "tuple") rTupS := by
  intro pins s σ H xs us Q I r h
  obtain ⟨p, ys, rfl, h⟩ := h
  rcases h with ⟨h, q⟩ | ⟨h, q⟩
  · exact call_tuple_of pins s σ H _ us Q I r ⟨p, ys, rfl, .inl ⟨SqL.of h, fun l hl => q l _ hl (same_new hl) upd_same⟩⟩
  · exact call_tuple_of pins s σ H _ us Q I r ⟨p, ys, rfl, .inr ⟨SqT.of h, q⟩⟩
/-- list(xs), list(t) -/
def rLisS : List V → Hp → VK → Prop := fun vs H Q => ∃ p xs, vs = [.ref p] ∧ (H p = some (.lst xs) ∨ H p = some (.tup xs)) ∧ ∀ l H2, H l = none → Same H H2 → H2 l = some (.lst xs) → Q (.ref l) H2
theorem call_lisS : CallR X (.type "list") rLisS := by
  intro pins s σ H xs us Q I r h
  obtain ⟨p, ys, rfl, h, q⟩ := h
  refine call_list_of pins s σ H _ us Q I r ⟨p, ys, rfl, ?_, fun l hl => q l _ hl (same_new hl) upd_same⟩
  exact h.imp SqL.of SqT.of
end
/-- the cells: the script's first ones, and 0 -/
theorem cells_ints {ns : List Int} {k : Int} : ∀ x ∈ cutV (ns.map V.int) none (some k) ++ [V.int 0], ∃ z, x = V.int z := by
  intro x hx
  rcases List.mem_append.mp hx with h | h
  · unfold cutV at h
    obtain ⟨z, _, e⟩ := List.mem_map.mp (List.mem_of_mem_drop (List.mem_of_mem_take h))
    exact ⟨z, e.symm⟩
  · exact ⟨0, List.mem_singleton.mp h⟩
theorem cells_len {ns : List Int} {k : Int} (h : ns.length ≤ 63) : (cutV (ns.map V.int) none (some k)).length ≤ 63 := by
  unfold cutV
  rw [List.length_take, List.length_drop, List.length_map]
  omega
end Lk
end
section
set_option maxRecDepth 100000
set_option maxHeartbeats 2000000
/-! The law's urn. -/
namespace Lk
open PySem PySem.Spec PyProof.Rows L2
def CPowW (i j : Int) : Prop := 0 ≤ j ∧ j ≤ 8 ∧ i.natAbs < 2 ^ 1000
theorem op_powW {X : Cx} : OpR X (binaryOp .Pow) (rI CPowW fun i j => .int (i ^ j.toNat)) := opI fun i j _ _ _ _ _ hc q => by
  obtain ⟨h0, h8, hi⟩ := hc
  refine pow_int h0 ?_ q
  have l := PySem.Flt.log2_lt_of (by decide : 0 < 1000) hi
  have b : Builtin.Int.intBits i ≤ 1000 := by
    unfold Builtin.Int.intBits
    split <;> omega
  have h1 : (Builtin.Int.intBits i : Int) * j ≤ 1000 * j := Int.mul_le_mul_of_nonneg_right (by omega) h0
  omega
def Urn (H : Hp) (a : Addr) (n : Int) : Prop := ∃ u0 u1 u2 : Int, H a = some (.lst [.int u0, .int u1, .int u2]) ∧ 0 ≤ u1 ∧ u1 < 10 ^ 36 ∧ 0 ≤ u2 ∧ u2 ≤ n
theorem Urn.ne {H : Hp} {a p : Addr} {n : Int} (h : Urn H a n) (e : H p = none) : a ≠ p := by
  obtain ⟨_, _, _, e2, _⟩ := h
  exact ne_of_none e2 e
theorem Urn.same {H H' : Hp} {a : Addr} {n : Int} (h : Urn H a n) (s : Same H H') : Urn H' a n := by
  obtain ⟨u0, u1, u2, e, r⟩ := h
  exact ⟨u0, u1, u2, s _ _ e, r⟩
theorem Urn.le {H : Hp} {a : Addr} {n m : Int} (h : Urn H a n) (l : n ≤ m) : Urn H a m := by
  obtain ⟨u0, u1, u2, e, h1, h2, h3, h4⟩ := h
  exact ⟨u0, u1, u2, e, h1, h2, h3, Int.le_trans h4 l⟩
theorem Urn.cat {H H2 : Hp} {a : Addr} {n : Int} {v : V} {c : Cd} (h : Urn H a n) (s : SameBut a H H2) (k : Cat H v c) : Cat H2 v c := by
  obtain ⟨_, _, _, e, _⟩ := h
  exact k.but e s
def spUrn : Sp := fun vs H Q _ => ∃ c : Int, vs = [.int c] ∧ ∀ p H', H p = none → Same H H' → Urn H' p 0 → Q (.ref p) H'
def spPull : Sp := fun vs H Q _ => ∃ (a : Addr) (m n : Int), vs = [.ref a, .int m] ∧ Urn H a n ∧ n ≤ 100000 ∧ 0 < m ∧ m ≤ 10 ^ 40 ∧ ∀ v H', 0 ≤ v → v < m → Urn H' a (n + 1) → SameBut a H H' → Q (.int v) H'
end Lk
end
section
set_option maxRecDepth 100000
set_option maxHeartbeats 2000000
/-! Going home; the tree of a round. -/
namespace Lk
open PySem PySem.Spec PyProof.Rows L2
/-- where one stands behind so many turns, who stays at home -/
def hw (c : Cd) : Nat → Nat → Nat
  | 0, i => i
  | k + 1, i => if hw c k i = c.1 then hw c k i else go c (hw c k i)
theorem hw_run (c : Cd) (i : Nat) : ∀ k, ((∃ j, j ≤ k ∧ gon c j i = c.1) ∧ hw c k i = c.1) ∨ ((∀ j, j ≤ k → gon c j i ≠ c.1) ∧ hw c k i = gon c k i)
  | 0 => by
    by_cases e : i = c.1
    · exact .inl ⟨⟨0, Nat.le_refl _, e⟩, e⟩
    · refine .inr ⟨fun j hj => ?_, rfl⟩
      rw [Nat.le_zero.mp hj]
      exact e
  | k + 1 => by
    rcases hw_run c i k with ⟨⟨j, hj, e⟩, h⟩ | ⟨h1, h2⟩
    · refine .inl ⟨⟨j, by omega, e⟩, ?_⟩
      show (if hw c k i = c.1 then hw c k i else go c (hw c k i)) = c.1
      rw [if_pos h]
      exact h
    · have e : hw c (k + 1) i = gon c (k + 1) i := by
        show (if hw c k i = c.1 then hw c k i else go c (hw c k i)) = gon c (k + 1) i
        rw [h2, if_neg (h1 k (Nat.le_refl _)), gon_succ]
      by_cases z : gon c (k + 1) i = c.1
      · exact .inl ⟨⟨k + 1, Nat.le_refl _, z⟩, e.trans z⟩
      · refine .inr ⟨fun j hj => ?_, e⟩
        rcases Nat.lt_or_ge j (k + 1) with l | g
        · exact h1 j (by omega)
        · rw [show j = k + 1 by omega]
          exact z
theorem rch_near {c : Cd} (h : COk c) {i : Nat} (hi : i < c.2.length) (r : Rch c i) : ∃ j, j < c.2.length ∧ gon c j i = c.1 := by
  obtain ⟨j, hj, hl⟩ := least_of (Q := fun k => gon c k i = c.1) r.choose_spec
  refine ⟨j, ?_, hj⟩
  have nd : ((List.range (j + 1)).map fun k => gon c k i).Nodup := by
    refine List.pairwise_map.mpr (List.Pairwise.imp_of_mem (R := fun a b => a < b) (fun {a b} ha hb l e => ?_) List.pairwise_lt_range)
    rw [List.mem_range] at ha hb
    refine hl (a + (j - b)) (by omega) ?_
    rw [gon_add, e, ← gon_add, show b + (j - b) = j by omega]
    exact hj
  have z := nodup_below nd fun x hx => by
    obtain ⟨k, _, rfl⟩ := List.mem_map.mp hx
    exact gon_lt h hi k
  rw [List.length_map, List.length_range] at z
  omega
theorem hw_home {c : Cd} (h : COk c) {i : Nat} (hi : i < c.2.length) {k : Nat} (hk : c.2.length ≤ k + 1) : hw c k i = c.1 ↔ Rch c i := by
  rcases hw_run c i k with ⟨⟨j, _, e⟩, e2⟩ | ⟨h1, h2⟩
  · exact ⟨fun _ => ⟨j, e⟩, fun _ => e2⟩
  · refine ⟨fun z => ⟨k, h2.symm.trans z⟩, fun r => ?_⟩
    obtain ⟨j, hj, e⟩ := rch_near h hi r
    exact absurd e (h1 j (by omega))
theorem hw_lt {c : Cd} (h : COk c) {i : Nat} (hi : i < c.2.length) : ∀ k, hw c k i < c.2.length
  | 0 => hi
  | k + 1 => by
    show (if hw c k i = c.1 then hw c k i else go c (hw c k i)) < c.2.length
    split
    · exact hw_lt h hi k
    · exact go_lt h _
def Home0 (c : Cd) : Prop := c.1 = 0 ∧ len c 0 % c.2.length = 0
instance (c : Cd) : Decidable (Home0 c) := inferInstanceAs (Decidable (_ ∧ _))
theorem visit : ∀ (n : Nat) {c : Cd} (i v : Nat), COk c → len c i ≤ v → v < len (it n c) i → ∃ t, t < n ∧ (it t c).1 = i ∧ len (it t c) i = v
  | 0, c, i, v, _, h1, h2 => by
    have z : len (it 0 c) i = len c i := rfl
    omega
  | n + 1, c, i, v, hc, h1, h2 => by
    by_cases e : c.1 = i ∧ len c i = v
    · exact ⟨0, by omega, e.1, e.2⟩
    · have l : len (nx c) i ≤ v := by
        by_cases e2 : c.1 = i
        · have ne : len c i ≠ v := fun z => e ⟨e2, z⟩
          have z := len_nx_same hc
          rw [e2] at z
          omega
        · rw [len_nx_ne (fun z => e2 z.symm)]
          exact h1
      obtain ⟨t, ht, e1, e2⟩ := visit n i v (nx_ok hc) l h2
      exact ⟨t + 1, by omega, e1, e2⟩
def Hm (d : Cd) (j : Nat) : Prop := Home0 (it j d) ∧ ∀ k, k < j → ¬ Home0 (it k d)
theorem hm_is {d : Cd} (h : COk d) (f : Free d) : ∃ j, Hm d j := by
  have hp : 0 < d.2.length := Nat.lt_of_le_of_lt (Nat.zero_le _) h
  have e : len (it (d.2.length * d.2.length) d) 0 = len d 0 + d.2.length := by
    rw [it_round h f]
    exact getD_map_add _ _ hp
  obtain ⟨v, v1, v2, v3⟩ : ∃ v, len d 0 ≤ v ∧ v < len d 0 + d.2.length ∧ v % d.2.length = 0 := by
    by_cases z : len d 0 = 0
    · exact ⟨0, by omega, by omega, Nat.zero_mod _⟩
    · obtain ⟨v, a1, a2, a3⟩ := some_to (p := d.2.length) 0 (len d 0 - 1) 0 hp
      rw [Nat.zero_add] at a3
      exact ⟨v, by omega, by omega, a3⟩
  obtain ⟨t, _, t1, t2⟩ := visit (d.2.length * d.2.length) 0 v h v1 (by rw [e]; exact v2)
  have hm : Home0 (it t d) := ⟨t1, by rw [it_len, t2]; exact v3⟩
  exact least_of (Q := fun k => Home0 (it k d)) hm
theorem hm_one {d : Cd} {j k : Nat} (a : Hm d j) (b : Hm d k) : j = k := by
  rcases Nat.lt_trichotomy j k with l | e | l
  · exact absurd a.1 (b.2 j l)
  · exact e
  · exact absurd b.1 (a.2 k l)
/-- the tree of the round to which c comes -/
def TreeOf (c : Cd) (t : List Nat) : Prop := ∃ n j, Ahead c n ∧ Hm (it n c) j ∧ t = (gos (it (n + j) c)).drop 1
theorem treeOf_one {c : Cd} {t u : List Nat} (a : TreeOf c t) (b : TreeOf c u) : t = u := by
  obtain ⟨n, j, a1, a2, rfl⟩ := a
  obtain ⟨m, k, b1, b2, rfl⟩ := b
  have e := ahead_one a1 b1
  subst e
  rw [hm_one a2 b2]
theorem treeOf_len {c : Cd} {t : List Nat} (a : TreeOf c t) : t.length = c.2.length - 1 := by
  obtain ⟨n, j, _, _, rfl⟩ := a
  rw [List.length_drop, gos_len, it_len]
theorem treeOf_lt {c : Cd} (h : COk c) {t : List Nat} (a : TreeOf c t) : ∀ x ∈ t, x < c.2.length := by
  obtain ⟨n, j, _, _, rfl⟩ := a
  intro x hx
  have hx2 := List.mem_of_mem_drop hx
  unfold gos at hx2
  obtain ⟨i, _, rfl⟩ := List.mem_map.mp hx2
  have z := go_lt (it_ok (n + j) h) i
  rw [it_len] at z
  exact z
theorem ne_no {A B : Prop} {x y : V} (e : x = y) (h : B) : if (!decide (x = y)) = true then A else B := by
  rw [decide_eq_true e]
  exact iteF h
theorem ne_yes {A B : Prop} {x y : V} (e : ¬ x = y) (h : A) : if (!decide (x = y)) = true then A else B := by
  rw [decide_eq_false e]
  exact iteT h
def toldTree (c : Cd) (Q : VK) (H : Hp) : Prop := ∀ t p H', TreeOf c t → Same H H' → H' p = some (.tup (t.map vN)) → Q (.ref p) H'
def spGoals : Sp := fun vs H Q _ => ∃ v c, vs = [v] ∧ Cat H v c ∧ CdOk c ∧ ∀ p H', H p = none → Same H H' → H' p = some (.lst ((gos c).map vN)) → Q (.ref p) H'
def spHome : Sp := fun vs H Q _ => ∃ g c, vs = [.ref g, .int ((c.1 : Nat) : Int)] ∧ H g = some (.lst ((gos c).map vN)) ∧ COk c ∧ c.2.length ≤ 12 ∧ ∀ b, (b = true ↔ Free c) → Q (.bl b) H
def spEnter : Sp := fun vs H Q _ => ∃ v c, vs = [v] ∧ Cat H v c ∧ CdOk c ∧ toldEnter c Q H
def spTree : Sp := fun vs H Q _ => ∃ v c, vs = [v] ∧ Cat H v c ∧ CdOk c ∧ toldTree c Q H
def spUCoder : Sp := fun vs H Q _ => ∃ (a : Addr) (m n : Int), vs = [.ref a, .int m] ∧ Urn H a n ∧ n ≤ 90000 ∧ 1 ≤ m ∧ m ≤ 12 ∧
  ∀ v c H', CdOk c → (c.2.length : Int) ≤ m → (∀ n ∈ c.2, n < 10 ^ 31) → Urn H' a (n + 100) → SameBut a H H' → Cat H' v c → Q v H'
end Lk
end
section
set_option maxRecDepth 100000
set_option maxHeartbeats 2000000
/-! How long the text of data is. -/
namespace Lk
open PySem PySem.Spec PyProof.Rows L2
theorem textFrom_le : ∀ (ts : List Str) (k : Nat) (acc : Str), (textFrom k acc ts).length ≤ acc.length + piled ts
  | [], _, acc => Nat.le_add_right _ _
  | t :: r, k, acc => by
    have ih := textFrom_le r (k + 1) (acc ++ (if k > 0 then ", " else "" : String) ++ t)
    have e : (acc ++ (if k > 0 then ", " else "" : String) ++ t).length ≤ acc.length + 2 + t.length := by
      rw [strLen_append, strLen_append]
      split
      · exact Nat.le_refl _
      · show acc.length + 0 + t.length ≤ _
        omega
    rw [piled_cons]
    show (textFrom (k + 1) _ r).length ≤ _
    omega
theorem listText_le (ts : List Str) : (listText ts).length ≤ 2 + piled ts := by
  unfold listText
  rw [strLen_append]
  have h := textFrom_le ts 0 "["
  have e1 : (("[" : String) : Str).length = 1 := rfl
  have e2 : (("]" : String) : Str).length = 1 := rfl
  omega
theorem tupleText_le (ts : List Str) : (tupleText ts).length ≤ 3 + piled ts := by
  unfold tupleText
  rw [strLen_append, strLen_append]
  have e1 : ((("(" : String) : Str)).length = 1 := rfl
  have e3 : (((if ts.length == 1 then ",)" else ")" : String) : Str)).length ≤ 2 := by split <;> decide
  by_cases h : ts = []
  · subst h
    have e4 : (Str.join ", " []).length = 0 := rfl
    omega
  · have j := join_length_add ts h
    omega
mutual
/-- a bound of the length of the text -/
def wt : PyData → Nat
  | .none => 4
  | .bool _ => 5
  | .int i => (toString i).length
  | .str x => (reprText x).length
  | .list ds => 2 + wts ds
  | .tuple ds => 3 + wts ds
  | .dict kvs => (dictText (PyData.shownKv kvs)).length
def wts : List PyData → Nat
  | [] => 0
  | d :: ds => wt d + 2 + wts ds
end
mutual
theorem shown_wt : ∀ d : PyData, d.shown.length ≤ wt d
  | .none => by simp only [PyData.shown, wt]; decide
  | .bool b => by cases b <;> (simp only [PyData.shown, wt]; decide)
  | .int i => by simp only [PyData.shown, wt]; rw [PySem.ofString_length]; exact Nat.le_refl _
  | .str x => by simp only [PyData.shown, wt]; exact Nat.le_refl _
  | .list ds => by
    simp only [PyData.shown, wt]
    have h := listText_le (PyData.shownAll ds)
    have g := piled_wts ds
    omega
  | .tuple ds => by
    simp only [PyData.shown, wt]
    have h := tupleText_le (PyData.shownAll ds)
    have g := piled_wts ds
    omega
  | .dict kvs => by simp only [PyData.shown, wt]; exact Nat.le_refl _
theorem piled_wts : ∀ ds : List PyData, piled (PyData.shownAll ds) ≤ wts ds
  | [] => by simp [PyData.shownAll, wts, piled]
  | d :: ds => by
    have h := shown_wt d
    have g := piled_wts ds
    simp only [PyData.shownAll, wts, piled_cons]
    omega
end
theorem wts_append : ∀ ds es : List PyData, wts (ds ++ es) = wts ds + wts es
  | [], es => by simp [wts]
  | d :: ds, es => by
    show wt d + 2 + wts (ds ++ es) = wt d + 2 + wts ds + wts es
    rw [wts_append ds es]
    omega
theorem wts_le {B : Nat} : ∀ {ds : List PyData}, (∀ d ∈ ds, wt d ≤ B) → wts ds ≤ ds.length * (B + 2)
  | [], _ => Nat.zero_le _
  | d :: ds, h => by
    have ih := wts_le (ds := ds) fun x hx => h x (List.mem_cons_of_mem _ hx)
    have h1 := h d List.mem_cons_self
    show wt d + 2 + wts ds ≤ (ds.length + 1) * (B + 2)
    rw [Nat.add_mul, Nat.one_mul]
    omega
theorem wt_int {i : Int} (h : i.natAbs < 10 ^ 45) : wt (.int i) ≤ 46 := int_text_length_le10 (by decide) h
theorem wt_nat {n : Nat} (h : n < 10 ^ 45) : wt (dN n) ≤ 46 := wt_int (by omega)
theorem wts_nats {ls : List Nat} (h : ∀ n ∈ ls, n < 10 ^ 45) : wts (ls.map dN) ≤ ls.length * 48 := by
  have z := wts_le (B := 46) (ds := ls.map dN) fun d hd => by
    obtain ⟨n, hn, rfl⟩ := List.mem_map.mp hd
    exact wt_nat (h n hn)
  rw [List.length_map] at z
  exact z
theorem showAll_nats : ∀ {ls : List Nat}, (∀ n ∈ ls, n < 10 ^ 45) → PyData.showableAll (ls.map dN) = true
  | [], _ => by simp [PyData.showableAll]
  | n :: ls, h => by
    have h1 := h n List.mem_cons_self
    have lt : ((n : Int).natAbs).log2 < 1920 := by
      have e : ((n : Int).natAbs) = n := by omega
      rw [e]
      by_cases z : n = 0
      · subst z
        decide
      · exact (Nat.log2_lt z).mpr (Nat.lt_trans h1 (by decide +kernel))
    simp only [List.map_cons, PyData.showableAll, PyData.showable, showAll_nats (fun x hx => h x (List.mem_cons_of_mem _ hx)), decide_eq_true lt, Bool.and_self]
theorem show_cd {c : Cd} (h0 : c.1 < 10 ^ 45) (h : ∀ n ∈ c.2, n < 10 ^ 45) : (cdD c).showable = true := by
  have a := showAll_nats h
  have b := showAll_nats (ls := [c.1]) fun n hn => by rw [List.mem_singleton.mp hn]; exact h0
  simp only [List.map_cons, List.map_nil, PyData.showableAll, Bool.and_true] at b
  simp only [cdD, PyData.showable, PyData.showableAll, a, Bool.and_true]
  simpa only [PyData.showable] using b
theorem wt_cd {c : Cd} (h0 : c.1 < 10 ^ 45) (h : ∀ n ∈ c.2, n < 10 ^ 45) (h12 : c.2.length ≤ 12) : wt (cdD c) ≤ 1000 := by
  have a := wts_nats h
  have b := wt_nat h0
  have e : wt (cdD c) = 3 + (wt (dN c.1) + 2 + (3 + wts (c.2.map dN) + 2 + 0)) := rfl
  omega
theorem depth_cd (c : Cd) : (cdD c).depth ≤ 64 := by
  simp only [cdD, PyData.depth, PyData.depthAll, depthAll_ints]
  decide
/-- what the repr of a coder asks, and tells -/
theorem rep_cd {K : PySem.W.Frag} {H : Hp} {Q : VK} {v : V} {c : Cd} (cat : Cat H v c) (ok : CdOk c) (h : ∀ n ∈ c.2, n < 10 ^ 45) (q : Q (.str (cdD c).shown) H) : rRep K [v] H Q := by
  have h0 : c.1 < 10 ^ 45 := Nat.lt_trans ok.1 (Nat.lt_of_le_of_lt ok.2 (by decide +kernel))
  refine ⟨v, cdD c, rfl, Th.dq _ cat.th, (fun kvs z => nomatch z), show_cd h0 h, depth_cd c, ?_, q⟩
  have a := shown_wt (cdD c)
  have b := wt_cd h0 h ok.2
  rw [sizeLine_eq]
  omega
end Lk
end
section
set_option maxRecDepth 100000
set_option maxHeartbeats 2000000
/-! == of coders. -/
namespace Lk
open PySem PySem.Spec PyProof.Rows L2
theorem eqvAll_ints : ∀ l m : List Nat, PyData.eqvAll (l.map dN) (m.map dN) = decide (l = m) := by
  intro l
  induction l with
  | nil => intro m; cases m <;> simp [PyData.eqvAll]
  | cons a l ih =>
    intro m
    cases m with
    | nil => simp [PyData.eqvAll]
    | cons b m =>
      simp only [List.map_cons, PyData.eqvAll, PyData.eqv, ih]
      by_cases e : a = b
      · subst e
        simp
      · have e2 : ¬ ((a : Int) = (b : Int)) := by omega
        simp [e, e2]
theorem eqv_cd (c d : Cd) : PyData.eqv (cdD c) (cdD d) = decide (c = d) := by
  obtain ⟨a, l⟩ := c
  obtain ⟨b, m⟩ := d
  simp only [cdD, PyData.eqv, PyData.eqvAll, eqvAll_ints]
  by_cases e : a = b
  · subst e
    by_cases e2 : l = m
    · subst e2
      simp
    · simp [e2]
  · have e3 : ¬ ((a : Int) = (b : Int)) := by omega
    simp [e, e3]
theorem lay_cd (c : Cd) : (cdD c).canLay0 = true := by
  simp [cdD, PyData.canLay0, PyData.canLayAll0, layAll_ints]
theorem shaped_cd (c : Cd) : SeqAt.shaped (cdD c) = true := by
  unfold SeqAt.shaped
  rw [Bool.and_eq_true]
  refine ⟨lay_cd c, decide_eq_true ?_⟩
  simp only [cdD, PyData.depth, PyData.depthAll, depthAll_ints]
  decide
end Lk
end
section
set_option maxRecDepth 100000
set_option maxHeartbeats 2000000
/-! Tuples of places as texts, held against one another. -/
namespace Lk
open PySem PySem.Spec PyProof.Rows L2
theorem free_hw {c : Cd} (h : COk c) : Free c ↔ ∀ i, i < c.2.length → hw c c.2.length i = c.1 :=
  ⟨fun f i hi => (hw_home h hi (by omega)).mpr (f i hi), fun f i hi => (hw_home h hi (by omega)).mp (f i hi)⟩
def tD (t : List Nat) : PyData := .tuple (t.map dN)
theorem th_tD {H : Hp} {p : Addr} {t : List Nat} (e : H p = some (.tup (t.map vN))) : Th H (.ref p) (tD t) := .tup e (ints_nat t)
theorem lay_tD (t : List Nat) : (tD t).canLay0 = true := by
  simp [tD, PyData.canLay0, layAll_ints]
theorem shaped_tD (t : List Nat) : SeqAt.shaped (tD t) = true := by
  unfold SeqAt.shaped
  rw [Bool.and_eq_true]
  refine ⟨lay_tD t, decide_eq_true ?_⟩
  simp only [tD, PyData.depth, depthAll_ints]
  decide
theorem eqv_tD (t u : List Nat) : PyData.eqv (tD t) (tD u) = decide (t = u) := by
  simp only [tD, PyData.eqv, eqvAll_ints]
theorem rep_tD {K : PySem.W.Frag} {H : Hp} {Q : VK} {p : Addr} {t : List Nat} (e : H p = some (.tup (t.map vN))) (h12 : t.length ≤ 12) (h : ∀ n ∈ t, n < 10 ^ 45) (q : Q (.str (tD t).shown) H) : rRep K [.ref p] H Q := by
  refine ⟨.ref p, tD t, rfl, Th.dq _ (th_tD e), (fun kvs z => nomatch z), ?_, ?_, ?_, q⟩
  · simp only [tD, PyData.showable, showAll_nats h]
  · simp only [tD, PyData.depth, depthAll_ints]
    decide
  · have a := shown_wt (tD t)
    have b := wts_nats h
    have c : wt (tD t) = 3 + wts (t.map dN) := rfl
    rw [sizeLine_eq]
    omega
theorem tree_three : TreeOf (0, [0, 0, 0]) [0, 1] := by
  have ok : ∀ n, COk (it n (0, [0, 0, 0])) := fun n => it_ok n (show (0 : Nat) < 3 by decide)
  refine ⟨2, 5, ⟨(free_hw (ok 2)).mpr (by decide), fun m hm => ?_⟩, ⟨by decide, fun k hk => ?_⟩, by decide⟩
  · match m, hm with
    | 0, _ => exact fun f => absurd ((free_hw (ok 0)).mp f) (by decide)
    | 1, _ => exact fun f => absurd ((free_hw (ok 1)).mp f) (by decide)
  · revert k
    decide
end Lk
end
section
set_option maxRecDepth 100000
set_option maxHeartbeats 2000000
/-! Rows of goals as coders; trees. -/
namespace Lk
open PySem PySem.Spec PyProof.Rows L2
/-- a coder at place 0 whose last goings are these -/
def cdOf (g : List Nat) : Cd := (0, (List.range g.length).map fun i => (g.getD i 0 + (g.length - i)) % g.length)
theorem cdOf_len (g : List Nat) : (cdOf g).2.length = g.length := by
  show ((List.range g.length).map _).length = _
  rw [List.length_map, List.length_range]
theorem cdOf_ok {g : List Nat} (h : 0 < g.length) : COk (cdOf g) := by
  show 0 < (cdOf g).2.length
  rw [cdOf_len]
  exact h
theorem cdOf_lenAt {g : List Nat} {i : Nat} (h : i < g.length) : len (cdOf g) i = (g.getD i 0 + (g.length - i)) % g.length := by
  show ((List.range g.length).map _).getD i 0 = _
  rw [List.getD_eq_getElem?_getD, List.getElem?_map, List.getElem?_range h]
  rfl
theorem cdOf_go {g : List Nat} (hg : ∀ x ∈ g, x < g.length) {i : Nat} (h : i < g.length) : go (cdOf g) i = g.getD i 0 := by
  have e : g.getD i 0 < g.length := hg _ (by
    rw [List.getD_eq_getElem?_getD, List.getElem?_eq_getElem h]
    exact List.getElem_mem h)
  show (i + len (cdOf g) i) % (cdOf g).2.length = _
  rw [cdOf_len, cdOf_lenAt h, Nat.add_mod_mod, show i + (g.getD i 0 + (g.length - i)) = g.getD i 0 + g.length by omega, Nat.add_mod_right, Nat.mod_eq_of_lt e]
theorem cdOf_gos {g : List Nat} (hg : ∀ x ∈ g, x < g.length) : gos (cdOf g) = g := by
  refine List.ext_getElem? fun i => ?_
  by_cases h : i < g.length
  · rw [gos_at (by rw [cdOf_len]; exact h), cdOf_go hg h, List.getD_eq_getElem?_getD, List.getElem?_eq_getElem h]
    rfl
  · rw [List.getElem?_eq_none (by rw [gos_len, cdOf_len]; omega), List.getElem?_eq_none (by omega)]
theorem gon_home {c : Cd} (h0 : c.1 = 0) (hg : go c 0 = 0) : ∀ k, gon c k 0 = 0
  | 0 => rfl
  | k + 1 => by rw [gon_succ, gon_home h0 hg k, hg]
/-- all come first who have come behind so many turns -/
theorem come_all {c : Cd} (h : COk c) (h0 : c.1 = 0) (hg : go c 0 = 0) : (∀ i, i < c.2.length → gon c c.2.length i = 0) ↔ Free c := by
  refine ⟨fun f i hi => ⟨c.2.length, (f i hi).trans h0.symm⟩, fun f i hi => ?_⟩
  obtain ⟨j, hj, e⟩ := rch_near h hi (f i hi)
  rw [show c.2.length = j + (c.2.length - j) by omega, gon_add, e, h0]
  exact gon_home h0 hg _
/-- what is a tree of p places -/
def IsTr (p : Nat) (d : PyData) : Prop := ∃ t : List Nat, d = tD t ∧ t.length + 1 = p ∧ (∀ x ∈ t, x < p) ∧ Free (cdOf (0 :: t))
theorem tD_inj {t u : List Nat} (e : tD t = tD u) : t = u := by
  have z : t.map dN = u.map dN := PyData.tuple.inj e
  have inj : ∀ a b : Nat, dN a = dN b → a = b := fun a b e => by injection e with e; omega
  exact List.map_inj_right (fun a b e => inj a b e) |>.mp z
def spCome : Sp := fun vs H Q _ => ∃ a t, vs = [.ref a] ∧ H a = some (.tup (t.map vN)) ∧ t.length ≤ 11 ∧ (∀ x ∈ t, x < t.length + 1) ∧ ∀ b H', (b = true ↔ Free (cdOf (0 :: t))) → Same H H' → Q (.bl b) H'
def spIsTree (C : Addr) : Sp := fun vs H Q E => ∃ u v e d, vs = [u, v] ∧ Th H u e ∧ Th H v d ∧ (inR e 1 12 = false → ∀ H', Same H H' → E (.ref C) none H') ∧
  (∀ p : Nat, e = .int (p : Int) → 1 ≤ p → p ≤ 12 → ∀ b H', (b = true ↔ IsTr p d) → Same H H' → Q (.bl b) H')
def spDue : Sp := fun vs H Q _ => ∃ (p : Nat) (v : V) (d : PyData), vs = [.int (p : Int), v] ∧ Th H v d ∧ 1 ≤ p ∧ p ≤ 12 ∧ ∀ b H', (b = true ↔ IsTr p d) → Same H H' → Q (.bl b) H'
theorem all_take {bs : List Bool} {n : Nat} (h : n = bs.length) : bs.take n = bs := by rw [h, List.take_length]
end Lk
end
section
set_option maxRecDepth 100000
set_option maxHeartbeats 2000000
/-! Drawn trees; heaps but for one object. -/
namespace Lk
open PySem PySem.Spec PyProof.Rows L2
/-- a list's method within a comprehension -/
theorem pe_bmK {X : Cx} {K : PySem.W.Frag} {o e : Expr} {es : List Expr} {to : TE} {t : TA} {name : Str} {apos cpos : Pos} {T id : String} {r : V → List V → Hp → VK → Prop} (hK : X.K = K) (pa : PlainAttrs T) (slot : Slot T name id) (hty : typeOf (.builtin id) = pure (.type "method_descriptor")) (hm : MtR X id r) (ho : PE X o to) (ha : PA X (e :: es) t)
    (hbase : attributeBase o name X.env (eval o X.env) = eval o X.env := by rfl)
    (hfew : ((backTo cpos (starEach (e :: es) X.env)).all (fun x => !x.1) && (backToKw cpos (keywordEach [] X.env)).all (fun x => x.1.isSome)
      && decide ((e :: es).length + ([] : List Keyword).length + (if ([] : List Keyword).isEmpty then 0 else 1) < 30)) = true := by rfl)
    (hline : (apos.endLine == cpos.line) = true := by rfl) (hs : starEach (e :: es) X.env = (false, eval e X.env) :: starEach es X.env := by rfl) (hplain : (backTo cpos (starEach es X.env)).any (·.1) = false := by rfl) :
    PE X (.Call (.Attribute o name apos) (e :: es) [] cpos) (tBM K T r to t) := by
  subst hK
  exact pe_bm pa slot hty hm ho ha hbase hfew hline hs hplain
theorem flat_rep (x : Nat) : ∀ n : Nat, (List.replicate n [V.int (x : Int)]).flatten = (List.replicate n x).map vN
  | 0 => rfl
  | n + 1 => by
    rw [List.replicate_succ, List.replicate_succ, List.flatten_cons, flat_rep x n]
    rfl
theorem ixN_at {n j : Nat} (hj : j < n) : ixN n (j : Int) = some j := by
  unfold ixN
  rw [if_pos (by omega), if_pos (by omega)]
  simp
theorem seq_at {n : Nat} {i : Int} (h0 : 0 ≤ i) (h1 : i < n) : seqIndex? i n = some i.toNat := by
  have z := ixN_seq (n := n) (i := i) (j := i.toNat) (by
    have e : i = ((i.toNat : Nat) : Int) := by omega
    rw [e]
    exact ixN_at (by omega))
  exact z.1
def spDTree : Sp := fun vs H Q _ => ∃ (a : Addr) (p : Nat) (n : Int), vs = [.ref a, .int (p : Int)] ∧ Urn H a n ∧ n ≤ 99000 ∧ 1 ≤ p ∧ p ≤ 12 ∧
  ∀ (t : List Nat) (pt : Addr) H', t.length + 1 = p → (∀ x ∈ t, x < p) → Urn H' a (n + 30) → SameBut a H H' → H pt = none → H' pt = some (.tup (t.map vN)) → Q (.ref pt) H'
/-- the heap without one object -/
def rm (a : Addr) (H : Hp) : Hp := fun b => if b = a then none else H b
theorem rm_ne {a b : Addr} {H : Hp} (h : b ≠ a) : rm a H b = H b := if_neg h
theorem rm_same {a : Addr} {H : Hp} : Same (rm a H) H := fun b o e => by
  by_cases h : b = a
  · rw [h] at e
    unfold rm at e
    rw [if_pos rfl] at e
    cases e
  · rw [← rm_ne (H := H) h]
    exact e
theorem rm_but {a : Addr} {H H2 : Hp} (s : SameBut a H H2) : Same (rm a H) (rm a H2) := fun b o e => by
  by_cases h : b = a
  · rw [h] at e
    unfold rm at e
    rw [if_pos rfl] at e
    cases e
  · rw [rm_ne h] at e ⊢
    exact s b o h e
theorem eraseIdx_map {l : List Nat} (k : Nat) : (l.map vN).eraseIdx k = (l.eraseIdx k).map vN := by
  induction l generalizing k with
  | nil => rfl
  | cons x l ih =>
    cases k with
    | zero => rfl
    | succ k =>
      show vN x :: (l.map vN).eraseIdx k = vN x :: (l.eraseIdx k).map vN
      rw [ih]
end Lk
end
section
set_option maxRecDepth 100000
set_option maxHeartbeats 2000000
/-! Things that are shown; things that hang not on the urn. -/
namespace Lk
open PySem PySem.Spec PyProof.Rows L2
def Good (d : PyData) : Prop := d.showable = true ∧ d.depth ≤ 8 ∧ wt d ≤ 2000
theorem th_tup {H : Hp} {a p : Addr} {n : Int} {xs : List V} {ds : List PyData} (u : Urn H a n) (e : H p = some (.tup xs)) (m : ThAll (rm a H) xs ds) : Th (rm a H) (.ref p) (.tuple ds) := by
  refine .tup ?_ m
  rw [rm_ne (fun z => ?_)]
  · exact e
  · obtain ⟨_, _, _, e2, _⟩ := u
    rw [z, e2] at e
    cases e
theorem th_lst {H : Hp} {a p : Addr} {xs : List V} {ds : List PyData} (ne : p ≠ a) (e : H p = some (.lst xs)) (m : ThAll (rm a H) xs ds) : Th (rm a H) (.ref p) (.list ds) := .lst (by rw [rm_ne ne]; exact e) m
theorem th_dct {H : Hp} {a p : Addr} (ne : p ≠ a) (e : H p = some (.dK [])) : Th (rm a H) (.ref p) (.dict []) := .dct (by rw [rm_ne ne]; exact e)
theorem Th.up {H H2 : Hp} {a : Addr} {v : V} {d : PyData} (h : Th (rm a H) v d) (s : SameBut a H H2) : Th (rm a H2) v d := Th.same (rm_but s) d h
theorem ThAll.up {H H2 : Hp} {a : Addr} {vs : List V} {ds : List PyData} (h : ThAll (rm a H) vs ds) (s : SameBut a H H2) : ThAll (rm a H2) vs ds := ThAll.same (rm_but s) ds h
theorem wt_small {n : Nat} (h : n < 10 ^ 45) : wt (dN n) ≤ 46 := wt_nat h
theorem dep_ints : ∀ l : List Nat, PyData.depthAll (l.map dN) = 0 := depthAll_ints
theorem good_tup {t : List Nat} (h : ∀ x ∈ t, x < 10 ^ 45) (l : t.length ≤ 30) : Good (.tuple (t.map dN)) := by
  refine ⟨?_, ?_, ?_⟩
  · simp only [PyData.showable, showAll_nats h]
  · simp only [PyData.depth, depthAll_ints]
    decide
  · have b := wts_nats h
    show 3 + wts (t.map dN) ≤ 2000
    omega
theorem good_lst {t : List Nat} (h : ∀ x ∈ t, x < 10 ^ 45) (l : t.length ≤ 30) : Good (.list (t.map dN)) := by
  refine ⟨?_, ?_, ?_⟩
  · simp only [PyData.showable, showAll_nats h]
  · simp only [PyData.depth, depthAll_ints]
    decide
  · have b := wts_nats h
    show 2 + wts (t.map dN) ≤ 2000
    omega
def GoodS (d : PyData) : Prop := d.showable = true ∧ d.depth ≤ 6 ∧ wt d ≤ 200
theorem GoodS.good {d : PyData} (h : GoodS d) : Good d := ⟨h.1, by have := h.2.1; omega, by have := h.2.2; omega⟩
theorem showAll_app : ∀ {ds es : List PyData}, PyData.showableAll ds = true → PyData.showableAll es = true → PyData.showableAll (ds ++ es) = true
  | [], _, _, h => h
  | d :: ds, es, h1, h2 => by
    simp only [PyData.showableAll, Bool.and_eq_true] at h1
    simp only [List.cons_append, PyData.showableAll, Bool.and_eq_true]
    exact ⟨h1.1, showAll_app h1.2 h2⟩
theorem depAll_le {B : Nat} : ∀ {ds : List PyData}, (∀ d ∈ ds, d.depth ≤ B) → PyData.depthAll ds ≤ B
  | [], _ => by simp [PyData.depthAll]
  | d :: ds, h => by
    have a := h d List.mem_cons_self
    have b := depAll_le (ds := ds) fun x hx => h x (List.mem_cons_of_mem _ hx)
    simp only [PyData.depthAll]
    omega
theorem showAll_of : ∀ {ds : List PyData}, (∀ d ∈ ds, d.showable = true) → PyData.showableAll ds = true
  | [], _ => by simp [PyData.showableAll]
  | d :: ds, h => by
    simp only [PyData.showableAll, Bool.and_eq_true]
    exact ⟨h d List.mem_cons_self, showAll_of fun x hx => h x (List.mem_cons_of_mem _ hx)⟩
theorem goodS_int {i : Int} (h : i.natAbs < 10 ^ 45) : GoodS (.int i) := by
  refine ⟨?_, by simp [PyData.depth], ?_⟩
  · have z := showAll_nats (ls := [i.natAbs]) (by intro n hn; rw [List.mem_singleton.mp hn]; exact h)
    simp only [List.map_cons, PyData.showableAll, PyData.showable, Bool.and_eq_true] at z ⊢
    simpa using z.1
  · have := wt_int h
    omega
/-- a tuple of a few small things -/
theorem good_some {ds : List PyData} (h : ∀ d ∈ ds, GoodS d ∧ wt d ≤ 60) (l : ds.length ≤ 30) : Good (.tuple ds) := by
  refine ⟨?_, ?_, ?_⟩
  · simp only [PyData.showable]
    exact showAll_of fun d hd => (h d hd).1.1
  · have z := depAll_le (B := 6) fun d hd => (h d hd).1.2.1
    simp only [PyData.depth]
    omega
  · have z := wts_le (B := 60) (ds := ds) fun d hd => (h d hd).2
    have z2 : ds.length * 62 ≤ 30 * 62 := Nat.mul_le_mul_right _ l
    show 3 + wts ds ≤ 2000
    omega
/-- what the repr of a list of such things asks -/
theorem rep_good {K : PySem.W.Frag} {H : Hp} {Q : VK} {p : Addr} {xs : List V} {ds : List PyData} (e : H p = some (.lst xs)) (m : ThAll H xs ds) (g : ∀ d ∈ ds, Good d) (l : ds.length ≤ 100) (q : Q (.str (PyData.list ds).shown) H) : rRep K [.ref p] H Q := by
  refine ⟨.ref p, .list ds, rfl, Th.dq _ (.lst e m), (fun kvs z => nomatch z), ?_, ?_, ?_, q⟩
  · simp only [PyData.showable]
    exact showAll_of fun d hd => (g d hd).1
  · have z := depAll_le (B := 8) fun d hd => (g d hd).2.1
    simp only [PyData.depth]
    omega
  · have a := shown_wt (.list ds)
    have z := wts_le (B := 2000) (ds := ds) fun d hd => (g d hd).2.2
    have z2 : ds.length * 2002 ≤ 100 * 2002 := Nat.mul_le_mul_right _ l
    have c : wt (.list ds) = 2 + wts ds := rfl
    rw [sizeLine_eq]
    omega
theorem rm_mono {a : Addr} {H H2 : Hp} (s : Same H H2) : Same (rm a H) (rm a H2) := rm_but fun b o _ e => s b o e
theorem rm_new {S : Addr} {H H2 : Hp} (h : H S = none) (s : Same H H2) : Same H (rm S H2) := fun b o e => by
  rw [rm_ne (ne_of_none e h)]
  exact s b o e
theorem rm_none {a S : Addr} {H : Hp} (h : H S = none) : rm a H S = none := by
  unfold rm
  split
  · rfl
  · exact h
theorem rm_upd {S : Addr} {H : Hp} {o : HO} : Same (rm S H) (rm S (upd H S o)) := rm_but sameBut_upd
theorem rm_upd2 {a S : Addr} {H : Hp} {o : HO} : Same (rm S (rm a H)) (rm S (rm a (upd H S o))) := fun b x e => by
  by_cases h : b = S
  · rw [h] at e
    unfold rm at e
    rw [if_pos rfl] at e
    cases e
  · rw [rm_ne h] at e ⊢
    by_cases h2 : b = a
    · rw [h2] at e
      unfold rm at e
      rw [if_pos rfl] at e
      cases e
    · rw [rm_ne h2] at e ⊢
      rw [upd_ne h]
      exact e
theorem th2_tup {H : Hp} {a S p : Addr} {n : Int} {xs ws : List V} {ds : List PyData} (u : Urn H a n) (eS : H S = some (.lst ws)) (e : H p = some (.tup xs)) (m : ThAll (rm S (rm a H)) xs ds) : Th (rm S (rm a H)) (.ref p) (.tuple ds) := by
  refine .tup ?_ m
  rw [rm_ne (fun z => ?_), rm_ne (fun z => ?_)]
  · exact e
  · obtain ⟨_, _, _, e2, _⟩ := u
    rw [z, e2] at e
    cases e
  · rw [z, eS] at e
    cases e
theorem th2_lst {H : Hp} {a S p : Addr} {xs : List V} {ds : List PyData} (n1 : p ≠ a) (n2 : p ≠ S) (e : H p = some (.lst xs)) (m : ThAll (rm S (rm a H)) xs ds) : Th (rm S (rm a H)) (.ref p) (.list ds) := .lst (by rw [rm_ne n2, rm_ne n1]; exact e) m
theorem th2_dct {H : Hp} {a S p : Addr} (n1 : p ≠ a) (n2 : p ≠ S) (e : H p = some (.dK [])) : Th (rm S (rm a H)) (.ref p) (.dict []) := .dct (by rw [rm_ne n2, rm_ne n1]; exact e)
theorem flat_any (x : V) : ∀ n : Nat, (List.replicate n [x]).flatten = List.replicate n x
  | 0 => rfl
  | n + 1 => by
    rw [List.replicate_succ, List.replicate_succ, List.flatten_cons, flat_any x n]
    rfl
theorem thAll_rep {H : Hp} {v : V} {d : PyData} (h : Th H v d) : ∀ n : Nat, ThAll H (List.replicate n v) (List.replicate n d)
  | 0 => .nil
  | n + 1 => .cons h (thAll_rep h n)
theorem good_rep {d : PyData} (g : GoodS d) (w : wt d ≤ 60) {n : Nat} (h : n ≤ 30) : Good (.tuple (List.replicate n d)) :=
  good_some (fun x hx => by rw [List.eq_of_mem_replicate hx]; exact ⟨g, w⟩) (by rw [List.length_replicate]; exact h)
def spThings : Sp := fun vs H Q _ => ∃ (a : Addr) (p : Nat) (n : Int), vs = [.ref a, .int (p : Int)] ∧ Urn H a n ∧ n ≤ 98000 ∧ 1 ≤ p ∧ p ≤ 12 ∧
  ∀ D H' ws ds, H' D = some (.lst ws) → ThAll (rm a H') ws ds → (∀ d ∈ ds, Good d) → ds.length ≤ 40 → Urn H' a (n + 130) → SameBut a H H' → Q (.ref D) H'
end Lk
end
section
set_option maxRecDepth 100000
set_option maxHeartbeats 2000000
/-! enumerate(t, start=k) of a tuple. -/
namespace Lk
open PySem PySem.Spec PyProof.Rows L2
theorem callWithT_kw {M : Model} {A : Around} {E : Value → Shared → Prop} {s : Shared} {env : Env} {pos : Pos} {T : String} {e : Expr} {rest : List Expr} {kws : List Keyword} {Q : Value → Shared → Prop}
    (h : wpAny M A (spliced (backTo pos (starEach (e :: rest) env))) (fun vs s₁ => wpAny M A (evalAll ((backToKw pos (keywordEach kws env)).map (·.2)))
      (fun kvs s₂ => wpAny M A (call (.type T) vs (((backToKw pos (keywordEach kws env)).filterMap (·.1)).zip kvs)) Q E s₂) E s₁) E s)
    (he : backTo pos (starEach (e :: rest) env) = (false, eval e env) :: backTo pos (starEach rest env))
    (hplain : (backTo pos (starEach (e :: rest) env)).any (·.1) = false)
    (hall : (backToKw pos (keywordEach kws env)).all (·.1.isSome) = true)
    (hkw : (backToKw pos (keywordEach kws env)).any (·.1.isNone) = false) :
    wpAny M A (callWith pos (.type T) [] (backTo pos (starEach (e :: rest) env)) (backToKw pos (keywordEach kws env))) Q E s := by
  unfold callWith
  refine wpAny_bind (wpAny_holding (wpAny_mono (?_ : wpAny M A (evalArgs (.type T) true (backTo pos (starEach (e :: rest) env)) (backToKw pos (keywordEach kws env))) (fun a s₁ => wpAny M A (call (.type T) ([] ++ a.pos) a.kw) Q E s₁) E s) (fun a s₁ h₁ => wpAny_bind (wpAny_standAt ?_)) fun _ _ x => x))
  · rw [he] at h ⊢
    exact evalArgs_kwB hall h
  · simp only [hplain, hkw, Bool.or_false]
    refine wpAny_bind (wpAny_pure ?_)
    exact wpAny_bind (wpAny_mono h₁ (fun r s₂ hr => wpAny_bind (wpAny_holding (wpAny_point (wpAny_pure hr)))) fun _ _ x => x)
def iEnumS (K : PySem.W.Frag) (ta tk : TA) : TI := fun σ H R => ta σ H fun vs H1 => tk σ H1 fun zs H2 => ∃ (a : Addr) (xs : List V) (c : Int), vs = [.ref a] ∧ zs = [.int c] ∧ 0 ≤ c ∧ c < 1000 ∧ SqT K H2 a xs ∧ R (IteT K a c) H2
theorem pi_enumS {X : Cx} {e e2 : Expr} {ta tk : TA} {p pos tpos kpos : Pos} {elts : List Expr} {kk : Nat} (hg : Gl X "enumerate") (hm : X.mg "enumerate" = none) (ha : PA X [e] ta) (hk : PK X [⟨some "start", e2, kpos⟩] tk)
    (he : backTo pos (starEach [e] X.env) = (false, eval e X.env) :: backTo pos (starEach [] X.env) := by rfl) (hpl : (backTo pos (starEach [e] X.env)).any (·.1) = false := by rfl)
    (hall : (backToKw pos (keywordEach [⟨some "start", e2, kpos⟩] X.env)).all (·.1.isSome) = true := by rfl) (hnone : (backToKw pos (keywordEach [⟨some "start", e2, kpos⟩] X.env)).any (·.1.isNone) = false := by rfl)
    (hks : (backToKw pos (keywordEach [⟨some "start", e2, kpos⟩] X.env)).filterMap (·.1) = [Str.ofString "start"] := by rfl) :
    PI X (.Tuple elts kk tpos) (.Call (.Name "enumerate" p) [e] [⟨some "start", e2, kpos⟩] pos) (iEnumS X.K ta tk) := by
  refine ⟨fun pins s σ H R I h => wpAny_Call_Name_kw (ld_blt I hg hm boot_enumerate ?_)⟩
  refine callWithT_kw (thn (ha.run pos pins s σ H _ I h) fun us s1 ⟨vs, H1, I1, r1, q1⟩ => thn (hk.run pos pins s1 σ H1 _ I1 q1) fun ws s2 ⟨zs, H2, I2, r2, q2⟩ => ?_) he hpl hall hnone
  rw [hks]
  obtain ⟨a, xs, c, ex, ez, c0, c1, hq, q⟩ := q2
  subst ex ez
  cases r1 with
  | cons r rr =>
    cases rr
    cases r
    cases r2 with
    | cons r2 rr2 =>
      cases rr2
      obtain ⟨tt, rfl⟩ := r2
      obtain ⟨its, rv, tp, hz⟩ := I2.tuple hq
      refine enum_begins_start (begins_tuple a its.toArray) tp (by omega) (by omega) fun h2 he hit hsz hk2 => wpAny_pyIter_enum he ?_
      have I3 : Inv X pins σ H2 { s2 with heap := h2 } := I2.kept (t' := s2.toks) hk2
      refine ⟨s2.heap.objs.size + 1, [s2.heap.objs.size + 1, s2.heap.objs.size], _, _, H2, rfl, I3, turn_enumT a (s2.heap.objs.size + 1) s2.heap.objs.size, ⟨⟨.none, ?_⟩, ⟨_, hit, rfl, rfl⟩, Nat.succ_ne_self _⟩, fun b hb => ?_, q⟩
      · rw [show c + ((0 : Nat) : Int) = c by omega]
        exact he
      · have hle : s2.heap.objs.size ≤ b := by
          rcases List.mem_cons.mp hb with z | z
          · rw [z]; exact Nat.le_add_right _ _
          · rw [List.mem_singleton.mp z]; exact Nat.le_refl _
        exact I2.fpOk hle (I2.hok.fresh hle)
end Lk
end
section
set_option maxRecDepth 100000
set_option maxHeartbeats 2000000
/-! The coder of a tree. -/
namespace Lk
open PySem PySem.Spec PyProof.Rows L2
def lensOf (t : List Nat) : List Nat := (List.range t.length).map fun i => (t.getD i 0 + (t.length + 1 - (i + 1))) % (t.length + 1)
theorem lensOf_len (t : List Nat) : (lensOf t).length = t.length := by
  unfold lensOf
  rw [List.length_map, List.length_range]
theorem lensOf_at {t : List Nat} {i : Nat} (h : i < t.length) : (lensOf t)[i]? = some ((t.getD i 0 + (t.length + 1 - (i + 1))) % (t.length + 1)) := by
  unfold lensOf
  rw [List.getElem?_map, List.getElem?_range h]
  rfl
theorem cdOf_cons (t : List Nat) : cdOf (0 :: t) = (0, 0 :: lensOf t) := by
  show (0, (List.range (t.length + 1)).map _) = _
  rw [List.range_succ_eq_map, List.map_cons, List.map_map]
  refine Prod.ext rfl ?_
  show ((0 :: t).getD 0 0 + ((0 :: t).length - 0)) % (0 :: t).length :: _ = 0 :: lensOf t
  rw [List.length_cons]
  have e : ((0 :: t).getD 0 0 + (t.length + 1 - 0)) % (t.length + 1) = 0 := by
    show (0 + (t.length + 1)) % (t.length + 1) = 0
    rw [Nat.zero_add, Nat.mod_self]
  rw [e]
  refine congrArg (List.cons 0) ?_
  unfold lensOf
  refine List.map_congr_left fun i _ => ?_
  rfl
/-- a row of goals that is a tree -/
def TOk (p : Nat) (t : List Nat) : Prop := t.length + 1 = p ∧ (∀ x ∈ t, x < p) ∧ Free (cdOf (0 :: t))
theorem TOk.isTr {p : Nat} {t : List Nat} (h : TOk p t) : IsTr p (tD t) := ⟨t, rfl, h.1, h.2.1, h.2.2⟩
theorem TOk.cons {p : Nat} {t : List Nat} (h : TOk p t) : ∀ x ∈ 0 :: t, x < (0 :: t).length := fun x hx => by
  rw [List.length_cons, h.1]
  rcases List.mem_cons.mp hx with e | m
  · have := h.1
    omega
  · exact h.2.1 x m
theorem cdOf_home (t : List Nat) : Home0 (cdOf (0 :: t)) := by
  refine ⟨rfl, ?_⟩
  rw [cdOf_cons]
  show 0 % _ = 0
  exact Nat.zero_mod _
theorem tree_cdOf {p : Nat} {t : List Nat} (h : TOk p t) : TreeOf (cdOf (0 :: t)) t := by
  refine ⟨0, 0, ⟨h.2.2, fun m hm => absurd hm (Nat.not_lt_zero _)⟩, ⟨cdOf_home t, fun k hk => absurd hk (Nat.not_lt_zero _)⟩, ?_⟩
  show t = (gos (cdOf (0 :: t))).drop 1
  rw [cdOf_gos h.cons]
  rfl
theorem cdOf_cdOk {p : Nat} {t : List Nat} (h : TOk p t) (p12 : p ≤ 12) : CdOk (cdOf (0 :: t)) := ⟨cdOf_ok (Nat.succ_pos _), by rw [cdOf_len, List.length_cons, h.1]; exact p12⟩
theorem gon_same {d : Cd} (h : COk d) : ∀ (k i : Nat), i < d.2.length → gon (cdOf (gos d)) k i = gon d k i
  | 0, _, _ => rfl
  | k + 1, i, hi => by
    have hg : ∀ x ∈ gos d, x < (gos d).length := fun x hx => by
      rw [gos_len]
      unfold gos at hx
      obtain ⟨j, _, rfl⟩ := List.mem_map.mp hx
      exact go_lt h j
    have e : go (cdOf (gos d)) i = go d i := by
      rw [cdOf_go hg (by rw [gos_len]; exact hi), List.getD_eq_getElem?_getD, gos_at hi]
      rfl
    show gon (cdOf (gos d)) k (go (cdOf (gos d)) i) = gon d k (go d i)
    rw [e]
    exact gon_same h k _ (go_lt h i)
/-- the tree of a coder is one -/
theorem treeOf_ok {c : Cd} (h : COk c) {t : List Nat} (a : TreeOf c t) : TOk c.2.length t := by
  have hp : 0 < c.2.length := Nat.lt_of_le_of_lt (Nat.zero_le _) h
  have l := treeOf_len a
  refine ⟨by omega, treeOf_lt h a, ?_⟩
  obtain ⟨n, j, a1, a2, rfl⟩ := a
  rw [it_add]
  have okd : COk (it j (it n c)) := it_ok j (it_ok n h)
  have frd : Free (it j (it n c)) := free_it j (it_ok n h) a1.1
  have h0 := a2.1
  generalize hd : it j (it n c) = d at *
  have dl : d.2.length = c.2.length := by rw [← hd, it_len, it_len]
  have e0 : go d 0 = 0 := by
    show (0 + len d 0) % d.2.length = 0
    rw [Nat.zero_add]
    exact h0.2
  have eg : 0 :: (gos d).drop 1 = gos d := by
    cases hg : gos d with
    | nil =>
      have z := gos_len d
      rw [hg] at z
      have z2 : 0 = d.2.length := z
      omega
    | cons x l =>
      have z := gos_at (c := d) (i := 0) (by omega)
      rw [hg, e0] at z
      have z2 : x = 0 := Option.some.inj z
      rw [z2]
      rfl
  rw [eg]
  intro i hi
  rw [cdOf_len, gos_len] at hi
  obtain ⟨k, hk⟩ := frd i hi
  refine ⟨k, ?_⟩
  rw [gon_same okd k i hi, hk]
  exact h0.1
def spCoderOf : Sp := fun vs H Q _ => ∃ (p : Nat) (a : Addr) (t : List Nat), vs = [.int (p : Int), .ref a] ∧ H a = some (.tup (t.map vN)) ∧ TOk p t ∧ p ≤ 12 ∧ ∀ v H', Same H H' → Cat H' v (cdOf (0 :: t)) → Q v H'
theorem ist_of {C1 : Addr} {Q : VK} {E : XK} {H : Hp} {v : V} {d : PyData} {p : Nat} (p1 : 1 ≤ p) (p12 : p ≤ 12) (h : Th H v d) (k : ∀ b H', (b = true ↔ IsTr p d) → Same H H' → Q (.bl b) H') : spIsTree C1 [.int (p : Int), v] H Q E := by
  refine ⟨_, v, .int (p : Int), d, rfl, .int _, h, fun z => ?_, fun p' e _ _ b H' hb s => ?_⟩
  · exfalso
    have y : (decide ((1 : Int) ≤ (p : Int)) && decide ((p : Int) ≤ 12)) = false := z
    rw [decide_eq_true (by omega), decide_eq_true (by omega)] at y
    cases y
  · have e2 : p' = p := by
      injection e with e
      omega
    subst e2
    exact k b H' hb s
def spLeast : Sp := fun vs H Q _ => ∃ (i g p : Nat), vs = [.int (i : Int), .int (g : Int), .int (p : Int)] ∧ i ≤ p ∧ g < p ∧ p ≤ 12 ∧ ∀ H', Same H H' → Q (.int (((g + (p - i)) % p : Nat) : Int)) H'
end Lk
end
section
set_option maxRecDepth 100000
set_option maxHeartbeats 2000000
/-! A drawn tree is one. -/
namespace Lk
open PySem PySem.Spec PyProof.Rows L2
theorem all_in {p : Nat} {os : List Nat} (nd : os.Nodup) (l : os.length + 1 = p) (b : ∀ x ∈ os, 1 ≤ x ∧ x < p) {i : Nat} (h1 : 1 ≤ i) (h2 : i < p) : i ∈ os := by
  refine Classical.byContradiction fun no => ?_
  have nd2 : (0 :: i :: os).Nodup := by
    refine List.nodup_cons.mpr ⟨fun m => ?_, List.nodup_cons.mpr ⟨no, nd⟩⟩
    rcases List.mem_cons.mp m with e | m
    · omega
    · have := b 0 m
      omega
  have z := nodup_below (p := p) nd2 fun x hx => by
    rcases List.mem_cons.mp hx with e | m
    · omega
    · rcases List.mem_cons.mp m with e | m
      · omega
      · exact (b x m).2
  simp only [List.length_cons] at z
  omega
theorem getD_mem {l : List Nat} {i : Nat} (h : i < l.length) : l.getD i 0 ∈ l := by
  rw [List.getD_eq_getElem?_getD, List.getElem?_eq_getElem h]
  exact List.getElem_mem h
theorem drawn_free {p : Nat} {os gs : List Nat} (nd : os.Nodup) (l : os.length + 1 = p) (b : ∀ x ∈ os, 1 ≤ x ∧ x < p) (gl : gs.length = p) (gb : ∀ x ∈ gs, x < p)
    (H : ∀ j, j < os.length → ∃ v, v ≤ j ∧ gs.getD (os.getD j 0) 0 = (0 :: os).getD v 0) : TOk p (gs.drop 1) := by
  have l1 : (gs.drop 1).length + 1 = p := by rw [List.length_drop]; omega
  have b1 : ∀ x ∈ gs.drop 1, x < p := fun x hx => gb x (List.mem_of_mem_drop hx)
  refine ⟨l1, b1, ?_⟩
  have hg : ∀ x ∈ 0 :: gs.drop 1, x < (0 :: gs.drop 1).length := fun x hx => by
    rw [List.length_cons, l1]
    rcases List.mem_cons.mp hx with e | m
    · omega
    · exact b1 x m
  have goat : ∀ i, 1 ≤ i → i < p → go (cdOf (0 :: gs.drop 1)) i = gs.getD i 0 := fun i h1 h2 => by
    rw [cdOf_go hg (by rw [List.length_cons, l1]; exact h2)]
    obtain ⟨k, rfl⟩ : ∃ k, i = k + 1 := ⟨i - 1, by omega⟩
    rw [List.getD_cons_succ, List.getD_eq_getElem?_getD, List.getElem?_drop, Nat.add_comm 1 k, ← List.getD_eq_getElem?_getD]
  have r0 : Rch (cdOf (0 :: gs.drop 1)) 0 := ⟨0, rfl⟩
  have up : ∀ i, Rch (cdOf (0 :: gs.drop 1)) (go (cdOf (0 :: gs.drop 1)) i) → Rch (cdOf (0 :: gs.drop 1)) i := fun i ⟨m, e⟩ => ⟨m + 1, e⟩
  have key : ∀ n j, j < n → j < os.length → Rch (cdOf (0 :: gs.drop 1)) (os.getD j 0) := by
    intro n
    induction n with
    | zero => exact fun j h => absurd h (Nat.not_lt_zero _)
    | succ n ih =>
      intro j hj hjl
      have hb := b _ (getD_mem hjl)
      refine up _ ?_
      rw [goat _ hb.1 hb.2]
      obtain ⟨v, hv, e⟩ := H j hjl
      rw [e]
      cases v with
      | zero => exact r0
      | succ v =>
        rw [List.getD_cons_succ]
        exact ih v (by omega) (by omega)
  intro i hi
  rw [cdOf_len, List.length_cons, l1] at hi
  by_cases h0 : i = 0
  · rw [h0]
    exact r0
  · obtain ⟨j, hj, e⟩ := List.mem_iff_getElem.mp (all_in nd l b (by omega) hi)
    have z := key (j + 1) j (by omega) hj
    rw [List.getD_eq_getElem?_getD, List.getElem?_eq_getElem hj] at z
    rw [← e]
    exact z
def spDTree2 : Sp := fun vs H Q _ => ∃ (a : Addr) (p : Nat) (n : Int), vs = [.ref a, .int (p : Int)] ∧ Urn H a n ∧ n ≤ 99000 ∧ 1 ≤ p ∧ p ≤ 12 ∧
  ∀ (t : List Nat) (pt : Addr) H', TOk p t → Urn H' a (n + 30) → SameBut a H H' → H' pt = some (.tup (t.map vN)) → Q (.ref pt) H'
theorem erase_perm : ∀ (l : List Nat) (k : Nat) (h : k < l.length), (l[k] :: l.eraseIdx k).Perm l
  | [], _, h => absurd h (Nat.not_lt_zero _)
  | x :: l, 0, _ => List.Perm.refl _
  | x :: l, k + 1, h => by
    have hk : k < l.length := by simpa using h
    show (l[k] :: x :: l.eraseIdx k).Perm (x :: l)
    exact (List.Perm.swap x (l[k]) (l.eraseIdx k)).trans ((erase_perm l k hk).cons x)
theorem nodup_move {ls os : List Nat} {k : Nat} (h : k < ls.length) (nd : (ls ++ os).Nodup) : (ls.eraseIdx k ++ (os ++ [ls[k]])).Nodup := by
  have p1 : (ls.eraseIdx k ++ (os ++ [ls[k]])).Perm (ls ++ os) := by
    have a : (ls[k] :: ls.eraseIdx k).Perm ls := erase_perm ls k h
    have b : (ls.eraseIdx k ++ (os ++ [ls[k]])).Perm (ls[k] :: (ls.eraseIdx k ++ os)) := by
      rw [← List.append_assoc]
      exact List.perm_append_comm (l₂ := [ls[k]])
    exact b.trans (a.append_right os)
  exact p1.nodup_iff.mpr nd
end Lk
end
section
set_option maxRecDepth 100000
set_option maxHeartbeats 2000000
/-! max of a tuple of ints. -/
namespace Lk
open PySem PySem.Spec PyProof.Rows L2
section
variable {prog : Program} {w : World} {A : Around} {E : Value → Shared → Prop} {s : Shared} {l : Addr}
theorem max_tupRaw {its : List Value} {ns : List Int} {Q : Value → Shared → Prop} (hh : A.handled = none) (hl : s.heap.IsTuple l its.toArray) (hi : IntsAre its ns) (hne : 0 < ns.length)
    (h : ∀ h' tk M t', (∀ b o, s.heap.get? b = some o → h'.get? b = some o) → M ∈ ns → (∀ a, a ∈ ns → a ≤ M) → Q (.int M t') { s with heap := h', toks := tk }) : wpAny (model prog w) A (call (.builtin "max") [.ref l]) Q E s := by
  obtain ⟨xs, e⟩ := hi.allInts.items
  have hn : numsOf (intItems xs).toList = ns := by rw [← e]; exact hi.numsOf
  rw [nums_intItems] at hn
  subst hn
  rw [e] at hl
  have hsz : 0 < xs.size := by simpa using hne
  have fin : ∀ v h' tk, (intItems xs)[argBest (fun i j => decide (numAt xs i > numAt xs j)) (xs.size - 1)]? = some v → (∀ b o, s.heap.get? b = some o → h'.get? b = some o) → Q v { s with heap := h', toks := tk } := fun v h' tk hv hk => by
    obtain ⟨t, rfl⟩ := intItems_at hv
    obtain ⟨h1, h2⟩ := argBest_gt (numAt xs) (xs.size - 1)
    refine h h' tk _ t hk ?_ fun a ha => ?_
    · rw [numAt_eq]; exact PySem.getD_mem (by rw [List.length_map, Array.length_toList]; omega)
    · obtain ⟨j, hj, rfl⟩ := mem_getD ha
      rw [List.length_map, Array.length_toList] at hj
      rw [← numAt_eq]; exact h2 j (by omega)
  have hll : l < s.heap.objs.size := by obtain ⟨o, ho, _⟩ := id hl; exact Heap.lt_size ho
  have hne2 : l ≠ s.heap.objs.size := Nat.ne_of_lt hll
  refine PySem.call_max_walk (wpAny_pyIter_tuple hl ?_)
  refine ⟨s.heap.objs.size, _, _, _, _, _, _, rfl, Walks.tuple (A := A.in1) hh _ l hne2 (intItems xs), ⟨?_, ?_⟩, fun b hb => ?_, by simpa [intItems] using hsz, CmpOf.ints_gt (numAt xs) (fun _ _ => intItems_at), fun v h' tk hP hk => ?_⟩
  · exact ⟨_, Heap.get?_push_size _ rfl, rfl, rfl⟩
  · exact hl.at fun o e => Heap.get?_push_of_some _ e
  · rw [Heap.size_push]
    rcases List.mem_cons.mp hb with z | z
    · rw [z]; exact Nat.lt_succ_self _
    · rw [List.mem_singleton.mp z]; exact Nat.lt_succ_of_lt hll
  · refine fin v h' tk (by simpa [intItems] using hP) fun b o e => hk b o (fun hb => ?_) (Heap.get?_push_of_some _ e)
    have z := Heap.lt_size e
    rw [List.mem_singleton.mp hb] at z
    exact Nat.lt_irrefl _ z
end
def rMaxT (K : PySem.W.Frag) : List V → Hp → VK → Prop := fun vs H Q => ∃ (a : Addr) (ns : List Int), vs = [V.ref a] ∧ SqT K H a (ns.map V.int) ∧ 0 < ns.length ∧ ∀ m, m ∈ ns → (∀ y, y ∈ ns → y ≤ m) → Q (.int m) H
theorem cr_maxT {X : Cx} (hc : X.calm = true) : CallR X (.builtin "max") (rMaxT X.K) := by
  intro pins s σ H vs us Q I r h
  obtain ⟨a, ns, rfl, hs, hne, q⟩ := h
  obtain ⟨its, rv, hl, _⟩ := I.tuple hs
  rw [Vals.ref1 r]
  exact max_tupRaw (I.ok.hd hc) hl rv.ints hne fun h' tk m t' hk h1 h2 => ⟨.int _, H, I.kept hk, ⟨_, rfl⟩, q m h1 h2⟩
end Lk
end
section
set_option maxRecDepth 100000
set_option maxHeartbeats 2000000
/-! Far words. -/
namespace Lk
open PySem PySem.Spec PyProof.Rows L2
theorem count_of1 {e : PyData} {m : Nat} (h : inR e 1 m = true) : ∃ n : Nat, e = .int n ∧ 1 ≤ n ∧ n ≤ m := by
  cases e with
  | int i =>
    have z : (decide ((1 : Int) ≤ i) && decide (i ≤ (m : Int))) = true := h
    rw [Bool.and_eq_true, decide_eq_true_eq, decide_eq_true_eq] at z
    exact ⟨i.toNat, by rw [Int.toNat_of_nonneg (by omega)], by omega, by omega⟩
  | _ => cases h
/-- NoCoder, NoCount of a number below 1 or beyond m; else told -/
def spOf1 (C1 C2 : Addr) (m : Nat) (told : Cd → Nat → VK → Hp → Prop) : Sp := fun vs H Q E => ∃ v u d e, vs = [v, u] ∧ Th H v d ∧ Th H u e ∧ (isCd d = false → ∀ H', Same H H' → E (.ref C1) none H') ∧
  (isCd d = true → inR e 1 m = false → ∀ H', Same H H' → E (.ref C2) none H') ∧ (∀ c (n : Nat), d = cdD c → CdOk c → e = .int n → 1 ≤ n → n ≤ m → told c n Q H)
def toldWd (c : Cd) (n : Nat) (Q : VK) (H : Hp) : Prop := ∀ q H', Same H H' → H' q = some (.tup [.int ((wd (it (n - 1) c)).1 : Int), .int ((wd (it (n - 1) c)).2 : Int)]) → Q (.ref q) H'
theorem of1_of {C1 C2 : Addr} {m : Nat} {told : Cd → Nat → VK → Hp → Prop} {Q : VK} {E : XK} {H : Hp} {v : V} {c : Cd} {n : Nat} (cat : Cat H v c) (ok : CdOk c) (h1 : 1 ≤ n) (hn : n ≤ m) (k : told c n Q H) : spOf1 C1 C2 m told [v, .int (n : Int)] H Q E := by
  refine ⟨v, .int (n : Int), cdD c, .int (n : Int), rfl, cat.th, .int _, fun z => ?_, fun _ z => ?_, fun c2 n2 ec _ en _ _ => ?_⟩
  · rw [isCd_cdD ok] at z
    cases z
  · exfalso
    have y : (decide ((1 : Int) ≤ (n : Int)) && decide ((n : Int) ≤ (m : Int))) = false := z
    rw [decide_eq_true (by omega), decide_eq_true (by omega)] at y
    cases y
  · have e := cdD_inj ec
    have e2 : n2 = n := by injection en with en; omega
    subst e e2
    exact k
theorem ofB_of {C1 C2 : Addr} {m : Nat} {told : Cd → Nat → VK → Hp → Prop} {Q : VK} {E : XK} {H : Hp} {v : V} {c : Cd} {n : Nat} (cat : Cat H v c) (ok : CdOk c) (hn : n ≤ m) (k : told c n Q H) : spOf C1 C2 m told [v, .int (n : Int)] H Q E := by
  refine ⟨v, .int (n : Int), cdD c, .int (n : Int), rfl, cat.th, .int _, fun z => ?_, fun _ z => ?_, fun c2 n2 ec _ en _ => ?_⟩
  · rw [isCd_cdD ok] at z
    cases z
  · exfalso
    have y : (decide ((0 : Int) ≤ (n : Int)) && decide ((n : Int) ≤ (m : Int))) = false := z
    rw [decide_eq_true (by omega), decide_eq_true (by omega)] at y
    cases y
  · have e := cdD_inj ec
    have e2 : n2 = n := by injection en with en; omega
    subst e e2
    exact k
/-- the greatest of the lengths -/
def IsMax (l : List Nat) (m : Nat) : Prop := m ∈ l ∧ ∀ x ∈ l, x ≤ m
theorem isMax_one {l : List Nat} {m n : Nat} (a : IsMax l m) (b : IsMax l n) : m = n := Nat.le_antisymm (b.2 _ a.1) (a.2 _ b.1)
def toldMax (c : Cd) (n : Nat) (Q : VK) (H : Hp) : Prop := ∀ (m : Nat) H', IsMax (it n c).2 m → Same H H' → Q (.int (m : Int)) H'
theorem ints_vN (l : List Nat) : l.map vN = (l.map fun n => ((n : Nat) : Int)).map V.int := by rw [List.map_map]; rfl
theorem isMax_of {l : List Nat} {m : Int} (h1 : m ∈ l.map fun n => ((n : Nat) : Int)) (h2 : ∀ y ∈ l.map (fun n => ((n : Nat) : Int)), y ≤ m) : ∃ n : Nat, m = (n : Int) ∧ IsMax l n := by
  obtain ⟨n, hn, rfl⟩ := List.mem_map.mp h1
  refine ⟨n, rfl, hn, fun x hx => ?_⟩
  have z := h2 (x : Int) (List.mem_map.mpr ⟨x, hx, rfl⟩)
  omega
/-- the law's pot -/
def spPot (K : PySem.W.Frag) : Sp := fun vs H Q _ => ∃ (S : Addr) (ns : List Int) (k : Nat), vs = [.ref S, .int (k : Int)] ∧ SqL K H S (ns.map V.int) ∧ k ≤ 63 ∧ ns.length ≤ 63 ∧ ∀ p H', H p = none → Same H H' → Urn H' p 0 → Q (.ref p) H'
def spFCoder : Sp := fun vs H Q _ => ∃ (a : Addr) (n : Int), vs = [.ref a] ∧ Urn H a n ∧ n ≤ 90000 ∧
  ∀ v c H', CdOk c → (∀ x ∈ c.2, x ≤ 10 ^ 30) → Urn H' a (n + 60) → SameBut a H H' → Cat H' v c → Q v H'
def spNumber : Sp := fun vs H Q _ => ∃ (a : Addr) (n : Int), vs = [.ref a] ∧ Urn H a n ∧ n ≤ 90000 ∧
  ∀ p H' m1 m2 m3 m4, H p = none → (∀ m ∈ [m1, m2, m3, m4], 1 ≤ m ∧ m ≤ 10 ^ 18 - 20) → Urn H' a (n + 3) → SameBut a H H' → H' p = some (.lst (([m1, m2, m3, m4] : List Nat).map vN)) → Q (.ref p) H'
end Lk
end
section
set_option maxRecDepth 100000
set_option maxHeartbeats 2000000
namespace Lk
open PySem PySem.Spec PyProof.Rows L2
def optN : Option Nat → V
  | some k => .int (k : Int)
  | none => .non
/-- the number that a text writes -/
def spReadN : Sp := fun vs H Q _ => ∃ (w : List Nat), vs = [.str (SX.S w)] ∧ w.length ≤ 100000 ∧ ∀ H', Same H H' → Q (optN (readN w)) H'
abbrev nRN : List Str := ["text", "sign"]
section
variable {P : Program} {w : World} {K : PySem.W.Frag} {mg : Str → Option Value} {base : Heap}
theorem sc_readN : FnScope nRN ["text"] (defScope s_read_number) := ⟨rfl, rfl, rfl, by decide +kernel, rfl, by decide +kernel, by decide +kernel⟩
theorem ok_readN {f : Addr} {fd : FuncData} {tk : Tok} (F : Fun K "read_number" "read_number" s_read_number f fd) (mp : mg "MOST_FIGURES" = some (.int 40 tk)) (ml : mg "len" = none) (ma : mg "all" = none) (mi : mg "int" = none) : FnOk P w K mg base CX0 1 f fd ["text"] spReadN := by
  refine F.ok sc_readN (fun vs H Q E h => ?_) (fun cdv A outer s H vs Q E hr h => ?_)
  · obtain ⟨w, rfl, _⟩ := h
    rfl
  · obtain ⟨w, rfl, wl, q⟩ := h
    have nd := sc_readN.nd
    refine ⟨_, (pss_cons (by exact (ps_if (PW.pt (pw_or (pt_not (pt_chain op_le op_le pe_int (pe_callB call_len_str (by rfl) ml PySem.boot_len (pa_cons (pv 0) pa_nil)) (pe_glob (v := .int 40) rfl mp ⟨_, rfl⟩))) (pw_or1 (pt_not (pt_val (pe_callB (cr_all rfl) (by rfl) ma (by decide +kernel) (pa_cons (pe_lc (own := [("sign", 1)]) (g := (gName 1)) (tt := tYes) rfl nd (pi_str (pv 0)) (blkOk_by (N := nRN) (sc := defScope s_read_number) (by decide +kernel)) (fun _ _ _ _ _ => (pg_name (i := 1) nd rfl (Or.inl rfl))) (fun _ _ _ _ _ => pts_nil) (fun _ _ _ _ _ => (pe_chain op_le_str op_le_str pe_str (pv 1) pe_str))) pa_nil))))))) (pss_one (by exact (ps_ret pe_non))) pss_nil))
      (pss_cons (by exact (ps_if (PW.pt (pw_and (pt_cmpR op_eq (pe_item_str (pv 0) pe_int (fun _ _ => rfl)) pe_str (nomark _)) (pw_and1 (pt_cmpR op_ne (pv 0) pe_str (nomark _))))) (pss_one (by exact (ps_ret pe_non))) pss_nil))
      (pss_one (by exact (ps_ret (pe_callTy call_int_str (by rfl) mi (by decide +kernel) (pa_cons (pv 0) pa_nil))))))), ?_⟩
    have none_of : readN w = none → Q .non H := fun e => by
      have z := q H (Same.refl H)
      rw [e] at z
      exact z
    have sz : (SX.S w).length ≤ sizeLine := by rw [SX.S_len]; exact Nat.le_trans wl (by decide)
    refine ⟨_, rfl, SX.S w, rfl, sz, ?_⟩
    rw [SX.S_len]
    refine ⟨_, _, rfl, rfl, _, rfl, ?_⟩
    by_cases c1 : 1 ≤ w.length
    · rw [if_pos (decide_eq_true (show (1 : Int) ≤ (w.length : Int) by omega))]
      refine ⟨_, _, rfl, rfl, _, rfl, ?_⟩
      by_cases c2 : w.length ≤ 40
      · dsimp only
        rw [decide_eq_true (show (w.length : Int) ≤ 40 by omega)]
        refine iteF ⟨_, rfl, _, rfl, fun D nD => ?_⟩
        refine lc_it walk_str (fun i H3 => Same H H3 ∧ H3 D = some (.lst (((w.take i).map isDig).map V.bl))) ⟨same_new nD, upd_same⟩ (fun _ _ _ _ => True.intro) ?_ ?_
        · rintro i x H3 H4 hi ⟨s3, e3⟩ ⟨rfl, c, hc, rfl⟩
          have hc' : w[i]? = some c := by
            rw [← hc]
            show w[i]? = (w.toArray)[i]?
            rw [List.getElem?_toArray]
          refine ⟨rfl, _, rfl, _, _, rfl, rfl, _, rfl, ?_⟩
          rw [dig_ge]
          have step : ∀ b : Bool, b = isDig c → ∃ acc, H4 D = some (HO.lst acc) ∧ acc.length < sizeLine ∧ Same H (upd H4 D (HO.lst (acc ++ [V.bl b]))) ∧ upd H4 D (HO.lst (acc ++ [V.bl b])) D = some (HO.lst (((w.take (i + 1)).map isDig).map V.bl)) := by
            intro b e
            refine ⟨_, e3, ?_, same_push s3 nD, ?_⟩
            · rw [List.length_map, List.length_map, List.length_take]
              exact Nat.lt_of_le_of_lt (show min i w.length ≤ 40 by omega) (by decide)
            · rw [upd_same, List.take_add_one, hc', List.map_append, List.map_append, e]
              rfl
          refine ite2 (fun g => ?_) (fun g => ?_)
          · refine ⟨_, _, rfl, rfl, step _ ?_⟩
            have z := dig_le c
            unfold isDig
            rw [g, Bool.true_and]
            exact z
          · refine step false ?_
            unfold isDig
            rw [Bool.eq_false_iff.mpr g, Bool.false_and]
        · rintro H3 ⟨s3, e3⟩
          have el : w.take ((SX.S w).cps.size) = w := List.take_of_length_le (by show w.length ≤ (w.toArray).size; rw [List.size_toArray]; exact Nat.le_refl _)
          rw [el] at e3
          refine ⟨D, _, rfl, SqL.of e3, ?_⟩
          have e : (w.map isDig).all id = w.all isDig := by
            rw [List.all_map]
            rfl
          rw [e]
          by_cases c3 : w.all isDig = true
          · rw [c3]
            refine ⟨_, rfl, iteF ?_⟩
            obtain ⟨c0, hc0⟩ : ∃ c0, w[0]? = some c0 := ⟨_, List.getElem?_eq_getElem (by omega)⟩
            have hd : w.head? = some c0 := by rw [List.head?_eq_getElem?]; exact hc0
            refine ⟨_, rfl, _, 0, c0, rfl, rfl, by decide, by decide, by rw [SX.S_len]; omega, ?_, rfl, _, rfl, ?_⟩
            · show (w.toArray)[0]? = some c0
              rw [List.getElem?_toArray]
              exact hc0
            have e48 : Str.ofString "0" = SX.S [48] := by decide +kernel
            have big : (SX.S w).length ≤ 640 := by rw [SX.S_len]; omega
            have fin : ∀ {H' : Hp}, Same H H' → ¬ (w.head? = some 48 ∧ w ≠ [48]) → intText? (SX.S w) = some ((NumText.digitsVal w : Nat) : Int) ∧ Q (.int ((NumText.digitsVal w : Nat) : Int)) H' := fun s' h4 => by
              have z := intText_digits (x := SX.S w) (all_dig c3) (by intro y; have y' : w = [] := y; rw [y'] at c1; exact absurd c1 (by decide)) (by rw [SX.S_len]; omega)
              refine ⟨z, ?_⟩
              have y := q _ s'
              rw [readN_good c1 c2 c3 h4] at y
              exact y
            by_cases c4 : c0 = 48
            · subst c4
              dsimp only
              rw [decide_eq_true (by rw [e48])]
              refine iteT ⟨_, rfl, rfl, _, rfl, ?_⟩
              by_cases c5 : w = [48]
              · rw [decide_eq_true (by rw [e48, c5])]
                refine iteF ?_
                obtain ⟨z1, z2⟩ := fin s3 (fun z => z.2 c5)
                exact ⟨_, rfl, SX.S w, _, rfl, z1, big, z2⟩
              · rw [decide_eq_false (by rw [e48]; exact fun z => c5 (SX.S_inj (V.str.inj z)))]
                refine iteT ?_
                have y := q _ s3
                rw [readN_zero hd c5] at y
                exact y
            · dsimp only
              rw [decide_eq_false (by rw [e48]; exact fun z => c4 (by have y := SX.S_inj (V.str.inj z); injection y))]
              refine iteF (iteF ?_)
              obtain ⟨z1, z2⟩ := fin s3 (fun z => c4 (Option.some.inj (hd.symm.trans z.1)))
              exact ⟨_, rfl, SX.S w, _, rfl, z1, big, z2⟩
          · rw [Bool.eq_false_iff.mpr c3]
            refine ⟨_, rfl, iteT ?_⟩
            have y := q _ s3
            rw [readN_bad (fun z => c3 z.2.2)] at y
            exact y
      · dsimp only
        rw [decide_eq_false (show ¬ ((w.length : Int) ≤ 40) by omega)]
        exact iteT (iteT (none_of (readN_bad fun z => c2 z.2.1)))
    · rw [if_neg (fun z => c1 (by have y := of_decide_eq_true z; omega))]
      refine ⟨_, rfl, ?_⟩
      exact iteT (iteT (none_of (readN_bad fun z => c1 z.1)))
end
end Lk
end
section
set_option maxRecDepth 100000
set_option maxHeartbeats 2000000
/-! A def called in an except suite on the error that is handled: isinstance of it, a list made over a range there. -/
namespace Lk
open PySem PySem.Spec PyProof.Rows L2 L2H HotX
section
variable {X : Cx} {pins : List (Addr × Obj)} {σ : L2.St} {H : Hp} {s : Shared}
/-- isinstance(e, c), e a pinned error -/
def rIsP (K : PySem.W.Frag) (p : Addr × Obj) : List V → Hp → VK → Prop := fun xs H Q => ∃ (D : Addr) (c : V) (u : Value) (b : Bool), xs = [.ref p.1, c] ∧ ExcC K D ∧ Zc (.ref D) none p.2 ∧ (∃ vs, p.2.data = .fields vs) ∧ ClsV c u ∧ PySem.W.kitOne K (.ref D) u = some b ∧ Q (.bl b) H
theorem call_isP {p : Addr × Obj} (hp : p ∈ X.pn) : CallR X (.builtin "isinstance") (rIsP X.K p) := by
  intro pins s σ H xs us Q I r h
  obtain ⟨D, c, u, b, rfl, C, hz, ⟨vs, hv⟩, k, e, q⟩ := h
  obtain ⟨u1, u2, rfl, r1, r2⟩ := vals2 r
  have e2 := k.eq r2
  subst e2
  cases (show u1 = Value.ref p.1 from r1)
  have hget := (I.pin p (List.mem_append_left _ hp)).1
  have J : PySem.W.InstAt s.heap p.1 p.2 D none := by
    obtain ⟨a, oc, od, oda, osl⟩ := p
    obtain ⟨h1, h2⟩ := hz
    dsimp only at h1 h2 hv hget
    subst h1 h2 hv
    exact ⟨hget, rfl, rfl, trivial⟩
  exact PySem.W.kia_one (PySem.W.handS_kitx_exc C.hg C.hk C.hs C.hd C.ha C.hn C.ht C.hm) I.kIn J e (fun z => nomatch z) fun tk => ⟨.bl b, H, I.tok tk, rfl, q⟩
end
/-! ### such a def -/
structure FnE (P : Program) (w : World) (K : PySem.W.Frag) (mg : Str → Option Value) (base : Heap) (k : Nat) (f : Addr) (fd : FuncData) (x : Str) (D : Addr) (told : VK → Hp → Prop) : Prop where
  run : ∀ (A : Around) (outer : List Env) (s : Shared) (H : Hp) (args : Args) (Q : VK) (p : Addr × Obj), RoomH k A → Hot1 A p → Zc (.ref D) none p.2 → PinOk outer H s p → Env0 P w K mg base A outer s H → BindsTo s fd args ([x].zip [.ref p.1]) → told Q H →
    codeAny (model P w) A (.call (.ref f) args) (CR C8.CX0 outer P w H s Q C8.E0) s
section
variable {P : Program} {w : World} {K : PySem.W.Frag} {mg : Str → Option Value} {base : Heap}
theorem fnE_of {x n qual : Str} {st : Stmt} {f D : Addr} {fd : FuncData} {N : List Str} {k : Nat} {told : VK → Hp → Prop} (F : Fun K n qual st f fd) (S : FnScope N [x] (defScope st))
    (body : ∀ (cdv : Value) (A : Around) (outer : List Env) (s : Shared) (H : Hp) (Q : VK) (p : Addr × Obj), Hot1 A p → Zc (.ref D) none p.2 → RoomH k (A.deeper (envOfC qual (defScope st) s.heap.objs.size f cdv)) → told Q H →
      ∃ t, PSs (cxH C8.CX0 P w K mg base N qual (defScope st) f cdv A outer s H C8.E0 p) (defBody st) t ∧ t { nx := fun _ H2 => Q .non H2, rt := Q } (L2.start N [.ref p.1]) H) : FnE P w K mg base (k + 1) f fd x D told := by
  obtain ⟨oc, od, kV, doc, pm, an, cdv, ct, osl, rfl, lk, code⟩ := F.ex
  refine ⟨fun A outer s H args Q p hr hot hz pin e0 hb ht => ?_⟩
  have inK : K.In s.heap := e0.mod.kin.keeps fun b o q => (e0.bs b o q).1
  have free : s.heap.NoLimit := e0.mod.nolimit.keeps fun b o q => (e0.bs b o q).1
  refine codeAny_call_function hr.depth (inK _ _ lk) rfl S.co S.gen rfl (PySem.W.codeRec_of inK code) (hb _ _ _ _ (wpAny_newFunctionEnv_cells S.kind (fun ⟨n, v⟩ hy => ?_) fun env he s1 x1 => ?_))
  · exact (S.par n (List.of_mem_zip hy).1).imp id fun q => ⟨q, PySem.W.cellsFrom_some _ _ _ (.inl q)⟩
  · subst he
    obtain ⟨t, hs, q⟩ := body cdv A outer s H Q p hot hz (hr.deeper _) ht
    have I0 : Inv (cxH C8.CX0 P w K mg base N qual (defScope st) f cdv A outer s H C8.E0 p) [] (L2.start N [.ref p.1]) H s1 := inv_startH (us := [.ref p.1]) S pin e0 rfl (.cons rfl .nil) x1
    refine ⟨free.keeps x1.toInCall.keep, codeAny_func (wpAny_mono (hs.run [] s1 _ H _ I0 q) (fun fl s2 z => ?_) fun _ _ z => z)⟩
    match fl, z with
    | .ret u, ⟨v, _, H2, J, rv, q2⟩ => exact ⟨v, H2, J.os, J.bare, J.base, J.hok, rv, q2⟩
    | .next, ⟨_, H2, J, q2⟩ => exact ⟨V.non, H2, J.os, J.bare, J.base, J.hok, (rfl : RelV .non Value.none), q2⟩
    | .brk, ⟨_, _, _, no⟩ => exact no.elim
    | .cont, ⟨_, _, _, no⟩ => exact no.elim
end
section
variable {X : Cx} {k i : Nat} {f D : Addr} {fd : FuncData} {x y n : Str} {told : VK → Hp → Prop} {p q pos : Pos} {pe : Addr × Obj}
/-- x(e) in the suite, e the error -/
theorem pe_callE (F : FnE X.prog X.w X.K X.mg X.base k f fd y D told) (hr : RoomH k X.A) (hot : Hot1 X.A pe) (hp : pe ∈ X.pn) (hz : Zc (.ref D) none pe.2) (hg : Gl X x) (hm : X.mg x = some (.ref f)) (hk : PySem.W.keepIn X.K (.ref f) = true) (hb : Binds X.K fd [y] [])
    (hN : X.N[i]? = some n) (hv : Vis X.env.scope n) (hdb : (x == ("__debug__" : Str)) = false := by decide) (hd2 : (n == ("__debug__" : Str)) = false := by decide) (hcd : (n == ("__classdict__" : Str)) = false := by decide)
    (he : starEach [Expr.Name n q] X.env = (false, eval (.Name n q) X.env) :: starEach [] X.env := by rfl) (hpl : (backTo pos (starEach [] X.env)).any (·.1) = false := by rfl) :
    PE X (.Call (.Name x p) [.Name n q] [] pos) (fun σ H Q => σ[i]? = some (some (.ref pe.1)) ∧ told Q H) := by
  refine ⟨fun pins s σ H Q I ⟨hs, ht⟩ => ?_⟩
  refine wpAny_Call_Name_kw (ld_glob I hg hm ?_ hdb)
  have ha : PA X [Expr.Name n q] (tCons (tVar i) tNil) := pa_cons (pe_var hN hv hd2 hcd) pa_nil
  refine PySem.W.callWith_K (h₀ := X.base) I.ok.mod.kin hk (thn (ha.run pos pins s σ H (fun vs H1 => vs = [.ref pe.1] ∧ H1 = H) I ⟨_, hs, rfl, rfl⟩) fun us s1 ⟨vs, H1, I1, r, ev, eH⟩ => ⟨I1.kIn, ?_⟩) he hpl
  subst ev eH
  obtain ⟨u, rfl, ru⟩ := vals1 r
  cases (show u = Value.ref pe.1 from ru)
  have b := hb s1 [.ref pe.1] I1.kIn rfl
  rw [List.append_nil] at b
  have P1 := I1.pin pe (List.mem_append_left _ hp)
  have pin : PinOk X.stack H1 s1 pe := ⟨P1.1, P1.2.1, fun hm => (List.mem_cons.mp (I1.stkSub pe.1 hm)).elim P1.2.2.1 P1.2.2.2.1, P1.2.2.2.2⟩
  refine wpAny_call (codeAny_mono (F.run X.A X.stack s1 H1 _ Q pe hr hot hz pin I1.env0 b ht) fun r2 s2 z => ?_)
  match r2, z with
  | .ok (.ret u), z => exact I1.after z
  | .ok .next, z => exact z.elim
  | .ok .brk, z => exact z.elim
  | .ok .cont, z => exact z.elim
  | .error _, z => exact z.elim
end
end Lk
end
section
set_option maxRecDepth 100000
set_option maxHeartbeats 2000000
/-! [elt for target in iter if ..] while an error is handled. -/
namespace Lk
open PySem PySem.Spec PyProof.Rows L2 L2H HotX
section
variable {X : Cx}
/-- a block's context that bears the pinned thing p -/
abbrev blkP (X : Cx) (s : Shared) (H : Hp) (scope : Scope) (ce : Env) (fp : List Addr) (p : Addr × Obj) : Cx := { X.blk s H scope ce fp with pn := [p] }
structure PinB (X : Cx) (H0 : Hp) (h0 : Heap) (fp : List Addr) (ce : Env) (p : Addr × Obj) : Prop where
  get : h0.get? p.1 = some p.2
  none : H0 p.1 = none
  nfs : p.1 ∉ frs X.stack
  nfp : p.1 ∉ fp
  nl : p.1 ≠ ce.locals
  nc : ∀ v, p.2.data ≠ .cell v
theorem to_pin {s0 s : Shared} {H0 H : Hp} {scope : Scope} {ce : Env} {fp : List Addr} {p : Addr × Obj} {pins : List (Addr × Obj)} {σ : L2.St} (b : PinB X H0 s0.heap fp ce p) (I : Inv (X.blk s0 H0 scope ce fp) pins σ H s) : Inv (blkP X s0 H0 scope ce fp p) pins σ H s :=
  ⟨⟨I.ok.1, I.ok.2, I.ok.3, I.ok.4, I.ok.5, I.ok.6, I.ok.7, I.ok.8, I.ok.9, I.ok.10, I.ok.11, I.ok.12, I.ok.13, I.ok.14, I.ok.15, I.ok.16, I.ok.17, I.ok.18⟩, I.os, I.bare, I.base, I.loc, I.cell, I.free, I.freeC, fun q hq => by
    rcases List.mem_append.mp hq with h | h
    · rw [List.mem_singleton.mp h]
      exact ⟨I.base.keep p.1 p.2 b.get b.none b.nfs b.nfp, I.base.free p.1 p.2 b.get b.none b.nfp, b.nl, b.nfs, b.nc⟩
    · exact I.pin q (List.mem_append_right _ h), I.hok, I.len⟩
theorem from_pin {s0 s : Shared} {H0 H : Hp} {scope : Scope} {ce : Env} {fp : List Addr} {p : Addr × Obj} {pins : List (Addr × Obj)} {σ : L2.St} (I : Inv (blkP X s0 H0 scope ce fp p) pins σ H s) : Inv (X.blk s0 H0 scope ce fp) pins σ H s :=
  ⟨⟨I.ok.1, I.ok.2, I.ok.3, I.ok.4, I.ok.5, I.ok.6, I.ok.7, I.ok.8, I.ok.9, I.ok.10, I.ok.11, I.ok.12, I.ok.13, I.ok.14, I.ok.15, I.ok.16, I.ok.17, I.ok.18⟩, I.os, I.bare, I.base, I.loc, I.cell, I.free, I.freeC, fun q hq => I.pin q (List.mem_append_right _ hq), I.hok, I.len⟩
/-- over a range, the list as a value -/
theorem pe_lcH {elt tg iter : Expr} {ifs : List Expr} {scope : Scope} {own : List (Str × Nat)} {pos : Pos} {wi : TI} {g : TG} {tt : TT} {te : TE} {p : Addr × Obj} (hot : Hot1 X.A p) (hp : p ∈ X.pn) (nd : X.N.Nodup) (src : PIH X tg iter wi) (blk : BlkOk X.N X.env.scope scope own)
    (pg : ∀ (s : Shared) (H : Hp) (C : Addr) (cl : List (Str × Addr)) (fp : List Addr), PG (X.blk s H scope (compEnvC scope cl C X.env) fp) tg g)
    (pt : ∀ (s : Shared) (H : Hp) (C : Addr) (cl : List (Str × Addr)) (fp : List Addr), PTs (X.blk s H scope (compEnvC scope cl C X.env) fp) ifs tt)
    (pe : ∀ (s : Shared) (H : Hp) (C : Addr) (cl : List (Str × Addr)) (fp : List Addr), PE (X.blk s H scope (compEnvC scope cl C X.env) fp) elt te) (plain : ∀ x, foldedSetIterable iter X.env x = pure x := by intro _; rfl) :
    PE X (.ListComp elt [⟨tg, iter, ifs, 0⟩] scope pos) (tLc wi g tt te (own.map (·.2))) := by
  refine ⟨fun pins s σ H Q I wish => ?_⟩
  rw [eval_ListComp]
  have seen : ∀ y ∈ scope.names, y.2 = .free → ∃ c, X.env.cells.lookup y.1 = some c := fun y hy e => (blk.free y hy e).elim (fun z => I.ok.has _ (.inl z)) fun z => I.ok.has _ (.inr z)
  refine wpAny_comprehension_free (use := none) rfl plain (closure_ok seen) blk.kind (fun y hy e => by rw [blk.uniq y hy, e]) (thn (src.run pins s σ H _ I wish) fun v1 s1 z1 => thn z1 fun v2 s2 z2 => ?_)
  obtain ⟨it, fp, tn, J, H2, rfl, I2, T, at0, off, more⟩ := z2
  refine wpAny_newObj_type (newEnv_comp ?_) (by show 0 ≤ sizeLine; decide)
  obtain ⟨D, eD⟩ : ∃ D, s2.heap.objs.size = D := ⟨_, rfl⟩
  have freshD : H2 D = none := I2.hok.fresh (Nat.le_of_eq eD)
  obtain ⟨W, ⟨m0, w0⟩, turn⟩ := more D freshD
  obtain ⟨s3, e3⟩ : ∃ s3 : Shared, ({ s2 with heap := s2.heap.push { cls := .type "list", data := .seq ([] : List Value).toArray } } : Shared) = s3 := ⟨_, rfl⟩
  have h3 : s3.heap = s2.heap.push { cls := .type "list", data := .seq ([] : List Value).toArray } := by rw [← e3]
  have up3 : ∀ b o, s2.heap.get? b = some o → s3.heap.get? b = some o := fun b o e => by rw [h3]; exact Heap.get?_push_of_some _ e
  have I3 : Inv X pins σ (upd H2 D (.lst [])) s3 := by
    have z := I2.laid (a := D) (o := .lst []) (h' := s3.heap) (t' := s2.toks) up3 (Nat.le_of_eq eD) ⟨Nat.zero_le _, [], 0, .nil, by rw [h3, ← eD]; exact Heap.get?_push_size _ rfl⟩
    rw [← e3] at z ⊢
    exact z
  have small : ∀ b ∈ fp, b < s2.heap.objs.size := fun b hb => by
    obtain ⟨o, e, _⟩ := T.obj _ _ at0 b hb
    exact Heap.lt_size e
  have off3 : ∀ b ∈ fp, FpOk X pins (upd H2 D (.lst [])) b ∧ b < s3.heap.objs.size := fun b hb => by
    have lt := small b hb
    refine ⟨⟨?_, (off b hb).2⟩, ?_⟩
    · rw [upd_ne (by rw [← eD]; exact Nat.ne_of_lt lt)]
      exact (off b hb).1
    · rw [h3, Heap.size_push]
      exact Nat.lt_succ_of_lt lt
  have I4 := block_start I3 blk nd off3
  have g4 := pg s3 (upd H2 D (.lst [])) s3.heap.objs.size (cellsFrom (s3.heap.objs.size + 1) scope.names (cloFrom X.env.cells scope.names [])) fp
  have t4 := pt s3 (upd H2 D (.lst [])) s3.heap.objs.size (cellsFrom (s3.heap.objs.size + 1) scope.names (cloFrom X.env.cells scope.names [])) fp
  have e4 := pe s3 (upd H2 D (.lst [])) s3.heap.objs.size (cellsFrom (s3.heap.objs.size + 1) scope.names (cloFrom X.env.cells scope.names [])) fp
  rw [e3]
  show codeAny _ _ (.compStart (.ListComp elt [⟨tg, iter, ifs, 0⟩] scope pos) 0 (.ref it) (.ref s2.heap.objs.size) (compEnvC scope (cellsFrom (s3.heap.objs.size + 1) scope.names (cloFrom X.env.cells scope.names [])) s3.heap.objs.size X.env)) (compPost (model X.prog X.w) X.A X.xe none (EP X pins σ Q) (.ref s2.heap.objs.size) s3.heap.objs.size) { s3 with heap := pushCells (s3.heap.push { cls := .type "dict", data := .dict #[] }) scope.names }
  rw [eD]
  have noW : ∀ b ∈ fp, (upd H2 D (.lst [])) b = none := fun b hb => (off3 b hb).1.1
  have pinB : PinB X (upd H2 D (.lst [])) s3.heap fp (compEnvC scope (cellsFrom (s3.heap.objs.size + 1) scope.names (cloFrom X.env.cells scope.names [])) s3.heap.objs.size X.env) p := by
    have q := I3.pin p (List.mem_append_left _ hp)
    exact ⟨q.1, q.2.1, fun hm => (List.mem_cons.mp (I3.stkSub p.1 hm)).elim q.2.2.1 q.2.2.2.1, fun hm => (off3 p.1 hm).1.2.2.2.2.2 p (List.mem_append_left _ hp) rfl, Nat.ne_of_lt (Heap.lt_size q.1), q.2.2.2.2⟩
  obtain ⟨ce, ece⟩ : ∃ ce, compEnvC scope (cellsFrom (s3.heap.objs.size + 1) scope.names (cloFrom X.env.cells scope.names [])) s3.heap.objs.size X.env = ce := ⟨_, rfl⟩
  have cL : ce.locals = s3.heap.objs.size := by rw [← ece]; rfl
  rw [ece] at I4 g4 t4 e4 pinB ⊢
  generalize upd H2 D (.lst []) = HA at I3 I4 g4 t4 e4 w0 noW off3 pinB
  obtain ⟨s4, e5⟩ : ∃ s4 : Shared, ({ s3 with heap := pushCells (s3.heap.push { cls := .type "dict", data := .dict #[] }) scope.names } : Shared) = s4 := ⟨_, rfl⟩
  rw [e5] at I4 ⊢
  have at4 : tn 0 s4.heap := T.keep _ _ _ at0 fun b _ o e => by rw [← e5]; exact pushCells_keeps _ _ _ _ (Heap.get?_push_of_some _ (up3 b o e))
  have hotB : ∀ {s' : Shared} {H' : Hp} {ps : List (Addr × Obj)} {τ : L2.St}, Inv (blkP X s3 HA scope ce fp p) ps τ H' s' → HotC (blkP X s3 HA scope ce fp p) := fun _ => ⟨p, hot, List.mem_singleton.mpr rfl⟩
  have offB : ∀ {τ : L2.St} {H' : Hp} {s' : Shared}, Inv (blkP X s3 HA scope ce fp p) [] τ H' s' → (∀ b ∈ fp, H' b = none) → ∀ b ∈ fp, FpOk (blkP X s3 HA scope ce fp p) [] H' b := fun {τ H' s'} J' hn b hb =>
    ⟨hn b hb, (J'.ok.exf b hb).1, J'.ok.exfs b hb, .inl hb, fun x c e => (J'.ok.exf b hb).2 x c e, fun q hq z => pinB.nfp (by
      have hq2 : q ∈ [p] := by simpa using hq
      rw [List.mem_singleton.mp hq2] at z
      rw [z]
      exact hb)⟩
  have loop : codeAny (model X.prog X.w) X.A (.compLoop (.ListComp elt [⟨tg, iter, ifs, 0⟩] scope pos) 0 (.ref it) (.ref D) ce) (compPost (model X.prog X.w) X.A X.xe none (EP X pins σ Q) (.ref D) s3.heap.objs.size) s4 := by
    refine compLoop_any (fun n s' => ∃ i H', Inv (X.blk s3 HA scope ce fp) [] (wipe σ (own.map (·.2))) H' s' ∧ tn i s'.heap ∧ (∀ b ∈ fp, H' b = none) ∧ W i n H') ?_ m0 ⟨0, HA, I4, at4, noW, w0⟩
    rintro n s5 ⟨i, H5, I5, at5, no5, w5⟩
    have I5p := to_pin pinB I5
    rcases turn i n H5 w5 with ⟨stop, done⟩ | ⟨go, Nx, fall, step⟩
    · refine thnF (T.done (blkP X s3 HA scope ce fp p) rfl rfl rfl (hotB I5p) i [] s5 _ H5 (fun _ _ => False) I5p (offB I5p no5) at5 stop) fun r s6 ⟨hr, I6p⟩ => ?_
      subst hr
      have I6 := from_pin I6p
      have I7 : Inv X pins σ H5 s6 := I3.call' (ch := fp) I6.os I6.base I6.hok I6.bare fun b hb => by
        have q := (off3 b hb).1
        exact ⟨q.2.2.2.1, q.2.1, q.2.2.2.2.1, q.2.2.2.2.2⟩
      have nC : H5 s3.heap.objs.size = none := by
        have z : H5 ce.locals = none := I6.free
        rw [← cL]
        exact z
      obtain ⟨m, hn, _⟩ := I6.loc
      have hn2 : s6.heap.Ns s3.heap.objs.size m := by
        have z : s6.heap.Ns ce.locals m := hn
        rw [← cL]
        exact z
      obtain ⟨f0, f1, f2, f3, f4, f5⟩ := I3.fpOk (H' := H5) (b := s3.heap.objs.size) (Nat.le_refl _) nC
      exact ⟨m, hn2, fun h9 sb => ⟨.ref D, H5, I7.turned (t' := s6.toks) (fun b o hb e => (sb.2 b hb).trans e) f0 f1 f3 f4 f5, rfl, done⟩⟩
    · refine thnF (T.item (blkP X s3 HA scope ce fp p) rfl rfl rfl (hotB I5p) i [] s5 _ H5 (fun _ _ => False) I5p (offB I5p no5) at5 go) fun r s6 ⟨u, hr, z6⟩ => ?_
      subst hr
      refine thnF z6 fun _ s7 ⟨x, H7, I7p, r7, y7, at7, no7⟩ => ?_
      have I7 := from_pin I7p
      have offA : ∀ b ∈ fp, FpOk (X.blk s3 HA scope ce fp) [] H7 b := fun b hb => ⟨no7 b hb, (I7.ok.exf b hb).1, I7.ok.exfs b hb, .inl hb, fun x c e => (I7.ok.exf b hb).2 x c e, fun q hq => absurd (show q ∈ ([] : List (Addr × Obj)) ++ [] from hq) (by simp)⟩
      have I7q := I7.pinned offA (T.obj _ _ at7)
      refine thnF (g4.run _ s7 _ H7 x u _ I7q r7 (step x H7 y7)) fun _ s8 ⟨τ, H8, I8, same8, q8⟩ => ?_
      refine thnF (t4.run _ s8 τ H8 _ I8 q8) fun yes s9 ⟨H9, I9, q9⟩ => ?_
      have next : ∀ {s' : Shared} {H' : Hp}, Inv (X.blk s3 HA scope ce fp) ([] ++ pinsAt fp s7.heap) τ H' s' → Nx H' → ∃ m, m < n ∧ ∃ i H', Inv (X.blk s3 HA scope ce fp) [] (wipe σ (own.map (·.2))) H' s' ∧ tn i s'.heap ∧ (∀ b ∈ fp, H' b = none) ∧ W i m H' := fun {s' H'} J' nx => by
        obtain ⟨m2, lt, w2⟩ := fall H' nx
        have keep7 : ∀ b ∈ fp, ∀ o, s7.heap.get? b = some o → s'.heap.get? b = some o ∧ H' b = none := fun b hb o e => by
          have z := J'.pin (b, o) (List.mem_append_right _ (List.mem_append_right _ (mem_pinsAt hb e)))
          exact ⟨z.1, z.2.1⟩
        refine ⟨m2, lt, i + 1, H', (J'.unpinned (pins := [])).weak (by rw [← same8, wipe_length]) (fun j v e => ?_), T.keep _ _ _ at7 fun b hb o e => (keep7 b hb o e).1, fun b hb => ?_, w2⟩
        · rw [← same8] at e
          exact (wipe_some e).1
        · obtain ⟨o, e, _⟩ := T.obj _ _ at7 b hb
          exact (keep7 b hb o e).2
      cases yes with
      | false => exact next I9 q9
      | true => exact thnF (e4.run _ s9 τ H9 _ I9 q9) fun z s10 ⟨yv, H10, I10, r10, acc, a1, a2, nx⟩ => app_ok (X := X.blk s3 HA scope ce fp) I10 a1 a2 r10 fun s11 I11 => next I11 nx
  exact codeAny_compStart_list loop (T.self X.A 0 _ _ _ at4 loop)
end
end Lk
end
section
set_option maxRecDepth 100000
set_option maxHeartbeats 2000000
/-! Defs that raise where nothing is handled, told with that; what calls them. -/
namespace Lk
open PySem PySem.Spec PyProof.Rows L2
section
variable {P : Program} {w : World} {K : PySem.W.Frag} {mg : Str → Option Value} {base : Heap}
theorem okN {x qual : Str} {st : Stmt} {f : Addr} {fd : FuncData} {N ps : List Str} {k : Nat} {sp : Sp} (F : Fun K x qual st f fd) (S : FnScope N ps (defScope st)) (len : ∀ vs H Q E, sp vs H Q E → vs.length = ps.length)
    (hbody : ∀ (cdv : Value) (A : Around) (outer : List Env) (s : Shared) (H : Hp) (vs : List V) (Q : VK) (E : XK), Room k (A.deeper (envOfC qual (defScope st) s.heap.objs.size f cdv)) → sp vs H Q E →
      ∃ t, PSs (cxOf (L2N.CX P w) P w K mg base N qual (defScope st) f cdv A outer s H E) (defBody st) t ∧ t { nx := fun _ H' => Q .non H', rt := Q } (L2.start N vs) H) : FnOk P w K mg base (L2N.CX P w) (k + 1) f fd ps sp := by
  obtain ⟨oc, od, kV, doc, pm, an, cdv, ct, osl, rfl, lk, hcd⟩ := F.ex
  exact fn_of lk hcd S len fun A outer s H vs Q E hr hsp => hbody cdv A outer s H vs Q E hr hsp
end
structure CalN (P : Program) (w : World) (K : PySem.W.Frag) (mg : Str → Option Value) (base : Heap) (k : Nat) (x : Str) (sp : Sp) : Prop where
  ex : ∃ (f : Addr) (fd : FuncData) (ps : List Str), FnOk P w K mg base (L2N.CX P w) k f fd ps sp ∧ mg x = some (.ref f) ∧ PySem.W.keepIn K (.ref f) = true ∧ Binds K fd ps []
section
variable {X : Cx} {k j : Nat} {x : Str} {sp : Sp} {p pos : Pos} {e : Expr} {es : List Expr} {t : TA} {W : WX}
theorem pe_cN (c : CalN X.prog X.w X.K X.mg X.base k x sp) (tk : L2N.Takes X W) (hr : Room j X.A) (hk : k ≤ j) (hg : Gl X x) (ha : PA X (e :: es) t)
    (hdb : (x == ("__debug__" : Str)) = false := by decide) (he : starEach (e :: es) X.env = (false, eval e X.env) :: starEach es X.env := by rfl) (hpl : (backTo pos (starEach es X.env)).any (·.1) = false := by rfl) :
    PE X (.Call (.Name x p) (e :: es) [] pos) (tCallS sp (WE W) t) := by
  obtain ⟨f, fd, ps, F, hm, kp, b⟩ := c.ex
  exact pe_callS F (hr.mono hk) hg hm kp b (fun σ => L2N.passAt tk σ) ha hdb he hpl
/-- .. where it raises nothing -/
theorem pe_cN0 (c : CalN X.prog X.w X.K X.mg X.base k x sp) (hr : Room j X.A) (hk : k ≤ j) (hg : Gl X x) (ha : PA X (e :: es) t)
    (hdb : (x == ("__debug__" : Str)) = false := by decide) (he : starEach (e :: es) X.env = (false, eval e X.env) :: starEach es X.env := by rfl) (hpl : (backTo pos (starEach es X.env)).any (·.1) = false := by rfl) :
    PE X (.Call (.Name x p) (e :: es) [] pos) (tCall sp [] E0 t) := by
  obtain ⟨f, fd, ps, F, hm, kp, b⟩ := c.ex
  exact pe_call F (hr.mono hk) hg hm kp b .nil (fun _ _ _ _ _ _ _ h => by obtain ⟨_, _, _, _, _, _, _, _, _, _, _, _, z⟩ := h; exact z.elim) ha hdb he hpl
/-- x(f"..") that is raised -/
theorem pmkN1 {C : Addr} {bm : List Value} {B n1 n2 : String} {a : Expr} {ta : TE} (F : ExcBaseFacts B n1 n2 bm) (q : PySem.W.excIn X.K C bm n1 = true) (g : X.mg x = some (.ref C)) (kC : PySem.W.keepIn X.K (.ref C) = true) (r : Raises X (.ref C)) (hg : Gl X x)
    (he : PE X a ta) (hs : starEach [a] X.env = (false, eval a X.env) :: starEach [] X.env := by rfl) (hdb : (x == ("__debug__" : Str)) = false := by decide) :
    L2N.PMk X (.Call (.Name x p) [a] [] pos) (fun σ H Q => ta σ H fun _ H1 => Q (.ref C) none H1) := by
  intro pins s σ H Q I h
  refine wpAny_Call_Name_kw (ld_glob I hg g ?_ hdb)
  refine PySem.W.callWith_K (h₀ := X.base) I.ok.mod.kin kC ?_ hs rfl
  rw [hs]
  show wpAny (model X.prog X.w) X.A (spliced ((false, eval a X.env) :: backTo pos (starEach [] X.env))) _ X.xe s
  refine Calls.spliced_cons (thn (he.run pins s σ H _ I h) fun u1 t1 ⟨w1, G1, J1, z1, y1⟩ => Calls.spliced_nil ⟨J1.kIn, ?_⟩)
  obtain ⟨bm', n', nm', qn', bs', hd', sn', sub', ab', col', dd', k0', k1', k2', k3', k5', mN', hC', hN', hni', T'⟩ := exc_obj J1.kIn q
  show wpAny (model X.prog X.w) X.A (call (.ref C) [u1]) _ X.xe t1
  refine wpAny_call_exc_subT F T' hC' hN' hni' (fun h' e hm => L2N.mk_of J1 hm r y1 (J1.hok.gone hm.new)) ?_
  show 1 ≤ sizeLine
  decide
end
end Lk
end
section
set_option maxRecDepth 100000
set_option maxHeartbeats 4000000
namespace Lk
open PySem PySem.Spec PyProof.Rows L2
def optD : Option Nat → PyData
  | some n => .int (n : Int)
  | none => .none
/-- what a text's words are, if they are a coder's in their form -/
def wordsD (ws : List (List Nat)) : Option PyData := if ws.length < 3 ∨ ws[0]? ≠ some [97, 116] ∨ ws[2]? ≠ some [107, 110, 111, 119, 115] then none else some (.tuple [optD (readN (ws.getD 1 [])), .tuple ((ws.drop 3).map fun w => optD (readN w))])
def readD : PyData → Option PyData
  | .str x => match wordsD (TL.spl [32] 0 [] x.cps.toList) with
    | some e => if isCd e = true then some e else none
    | none => none
  | _ => none
/-- the coder of which anything is the text, NoText where there is none -/
def spReadCX (CE : Addr) : Sp := fun vs H Q E => ∃ (v : V) (d : PyData), vs = [v] ∧ Th H v d ∧ (∀ x, d = .str x → x.length ≤ 100000) ∧ (readD d = none → ∀ H', Same H H' → E (.ref CE) none H') ∧ (∀ e, readD d = some e → ∀ v' H', Same H H' → Th H' v' e → Q v' H')
abbrev NnRX : List Str := ["text", "words", "coder", "word"]
theorem spl_lens : ∀ (a : List Nat) (k : Nat) (acc : List Nat), (TL.spl [32] k acc a).length ≤ a.length + 1 ∧ ∀ w ∈ TL.spl [32] k acc a, w.length ≤ acc.length + a.length
  | [], k, acc => by
    rw [TL.spl_nil]
    exact ⟨Nat.le_refl _, fun w hw => by rw [List.mem_singleton.mp hw]; exact Nat.le_add_right _ _⟩
  | c :: r, 0, acc => by
    by_cases h : TL.pre [32] (c :: r) = true
    · rw [TL.spl_hit h, show ([32] : List Nat).length - 1 = 0 from rfl]
      obtain ⟨h1, h2⟩ := spl_lens r 0 []
      refine ⟨by rw [List.length_cons, List.length_cons]; omega, fun w hw => ?_⟩
      rcases List.mem_cons.mp hw with rfl | hw
      · exact Nat.le_add_right _ _
      · have z := h2 w hw
        rw [List.length_cons]
        have e : ([] : List Nat).length = 0 := rfl
        omega
    · have e : TL.spl [32] 0 acc (c :: r) = TL.spl [32] 0 (acc ++ [c]) r := by
        show (if TL.pre [32] (c :: r) = true then _ else _) = _
        rw [if_neg h]
      rw [e]
      obtain ⟨h1, h2⟩ := spl_lens r 0 (acc ++ [c])
      refine ⟨by rw [List.length_cons]; omega, fun w hw => ?_⟩
      have z := h2 w hw
      rw [List.length_append] at z
      rw [List.length_cons]
      have e : ([c] : List Nat).length = 1 := rfl
      omega
  | c :: r, k + 1, acc => by
    have e : TL.spl [32] (k + 1) acc (c :: r) = TL.spl [32] k acc r := rfl
    rw [e]
    obtain ⟨h1, h2⟩ := spl_lens r k acc
    exact ⟨by rw [List.length_cons]; omega, fun w hw => by rw [List.length_cons]; have z := h2 w hw; omega⟩
section
variable {P : Program} {w : World} {K : PySem.W.Frag} {mg : Str → Option Value} {base : Heap}
theorem sc_readX : FnScope NnRX ["text"] (defScope s_read_coder) := ⟨rfl, rfl, rfl, by decide +kernel, rfl, by decide +kernel, by decide +kernel⟩
theorem th_opt {H : Hp} (o : Option Nat) : Th H (optN o) (optD o) := by
  cases o with
  | none => exact .non
  | some n => exact .int _
theorem ok_readX {f CE : Addr} {fd : FuncData} (F : Fun K "read_coder" "read_coder" s_read_coder f fd) (rn : C8.Cal P w K mg base 1 "read_number" spReadN []) (ic : C8.Cal P w K mg base 3 "is_coder" spIsCoder []) (W : ErrC K mg "NoText" CE) (mi : mg "isinstance" = none) (ms : mg "str" = none) (ml : mg "len" = none) (mt : mg "tuple" = none) : FnOk P w K mg base (L2N.CX P w) 4 f fd ["text"] (spReadCX CE) := by
  refine okN F sc_readX (fun vs H Q E h => ?_) (fun cdv A outer s H vs Q E hr h => ?_)
  · obtain ⟨v, d, rfl, _⟩ := h
    rfl
  · obtain ⟨v, d, rfl, hv, short, q0, q1⟩ := h
    have nd := sc_readX.nd
    refine ⟨_, (pss_cons (by exact (ps_if (pt_not (pt_val (pe_callB call_isi (by rfl) mi (by decide +kernel) (pa_cons (pv 0) (pa_cons (pe_bltn (v := .ty "str") (by rfl) ms (by decide +kernel) rfl) pa_nil))))) (pss_one (by exact (L2N.ps_raise rfl (L2N.takes_of rfl rfl rfl rfl) (pmkN1 PySem.F.excBase_ValueError W.x W.g W.k (raises_own W.b W.t) rfl pe_str)))) pss_nil))
      (pss_cons (by exact (ps_set (i := 1) nd rfl (Or.inl rfl) (pe_split (pv 0) pe_str)))
      (pss_cons (by exact (ps_if (PW.pt (pw_or (pt_cmpR op_lt (pe_callB call_len_seq (by rfl) ml PySem.boot_len (pa_cons (pv 1) pa_nil)) pe_int (nomark _)) (pw_or (pt_cmpR op_ne (pe_ix ix_list (pv 1) pe_int (fun _ _ => rfl)) pe_str (nomark _)) (pw_or1 (pt_cmpR op_ne (pe_ix ix_list (pv 1) pe_int (fun _ _ => rfl)) pe_str (nomark _)))))) (pss_one (by exact (L2N.ps_raise rfl (L2N.takes_of rfl rfl rfl rfl) (pmkN1 PySem.F.excBase_ValueError W.x W.g W.k (raises_own W.b W.t) rfl pe_str)))) pss_nil))
      (pss_cons (by exact (ps_set (i := 2) nd rfl (Or.inl rfl) (pe_tupS (pa_cons (C8.pe_c rn hr (by decide) rfl (pa_cons (pe_ix ix_list (pv 1) pe_int (fun _ _ => rfl)) pa_nil)) (pa_cons (pe_callTy call_tupS (by rfl) mt (by decide +kernel) (pa_cons (pe_lc (own := [("word", 3)]) (g := (gName 3)) (tt := tYes) rfl nd (pi_list (pe_slice sl_list (pv 1) (po_some pe_int) po_none)) (blkOk_by (N := NnRX) (sc := defScope s_read_coder) (by decide +kernel)) (fun _ _ _ _ _ => (pg_name (i := 3) nd rfl (Or.inl rfl))) (fun _ _ _ _ _ => pts_nil) (fun _ _ _ _ _ => (C8.pe_c rn hr (by decide) rfl (pa_cons (pv 3) pa_nil)))) pa_nil)) pa_nil)))))
      (pss_cons (by exact (ps_if (pt_not (pt_val (C8.pe_c ic hr (by decide) rfl (pa_cons (pv 2) pa_nil)))) (pss_one (by exact (L2N.ps_raise rfl (L2N.takes_of rfl rfl rfl rfl) (pmkN1 PySem.F.excBase_ValueError W.x W.g W.k (raises_own W.b W.t) rfl pe_str)))) pss_nil))
      (pss_one (by exact (ps_ret (pv 2))))))))), ?_⟩
    have bad : readD d = none → E (.ref CE) none H := fun e => q0 e H (Same.refl H)
    have ek : ∀ {d : PyData} {b : Bool}, (match d with | .str _ => true | _ => false) = b → PySem.W.kitOne K (.type (tyN d)) (.type "str") = some b := fun {d b} e => by
      rw [← e]
      exact kit_ty (by cases d <;> (simp only [tyN]; decide +kernel))
    refine ⟨_, rfl, v, .ty "str", _, _, _, rfl, .ty _, hv.ty, ek rfl, _, rfl, ?_⟩
    cases hv with
    | non => exact iteT (bad rfl)
    | bl b => exact iteT (bad rfl)
    | int i => exact iteT (bad rfl)
    | lst e m => exact iteT (bad rfl)
    | tup e m => exact iteT (bad rfl)
    | dct e => exact iteT (bad rfl)
    | str x =>
      refine iteF ?_
      have xl := short x rfl
      obtain ⟨l, el⟩ : ∃ l : List Nat, l = x.cps.toList := ⟨_, rfl⟩
      have ex : x = SX.S l := by rw [el]
      have ll : l.length ≤ 100000 := by rw [ex, SX.S_len] at xl; exact xl
      obtain ⟨ws, ews⟩ : ∃ ws, ws = TL.spl [32] 0 [] l := ⟨_, rfl⟩
      obtain ⟨wn, wl⟩ := spl_lens l 0 []
      rw [← ews] at wn wl
      have rd : readD (.str x) = match wordsD ws with | some e => if isCd e = true then some e else none | none => none := by
        rw [ews, el]
        rfl
      have hsp : Txt.split x (Str.ofString " ") = ws.map SX.S := by
        have e : Str.ofString " " = SX.S [32] := by decide +kernel
        rw [e, ex, SX.split_S (List.cons_ne_nil _ _) (by decide), ews]
      refine ⟨_, rfl, ⟨_, rfl⟩, x, Str.ofString " ", rfl, rfl, by decide +kernel, Nat.le_trans (show x.length + 2 ≤ 100002 by omega) (by decide), fun W nW => ?_⟩
      rw [hsp]
      obtain ⟨ys, eys⟩ : ∃ ys, ys = (ws.map SX.S).map V.str := ⟨_, rfl⟩
      rw [← eys]
      have yl : ys.length = ws.length := by rw [eys, List.length_map, List.length_map]
      have yat : ∀ {i : Nat} {w' : List Nat}, ws[i]? = some w' → ys[i]? = some (.str (SX.S w')) := fun {i w'} e => by
        rw [eys, List.getElem?_map, List.getElem?_map, e]
        rfl
      have sW := same_new (o := .lst ys) nW
      generalize hHW : upd H W (.lst ys) = HW at sW ⊢
      have eW : HW W = some (.lst ys) := by rw [← hHW]; exact upd_same
      have eat : Str.ofString "at" = SX.S [97, 116] := by decide +kernel
      have ekn : Str.ofString "knows" = SX.S [107, 110, 111, 119, 115] := by decide +kernel
      have badW : wordsD ws = none → E (.ref CE) none HW := fun e => q0 (by rw [rd, e]) HW sW
      refine ⟨_, rfl, W, ys, rfl, .inl (SqL.of eW), _, _, rfl, rfl, _, rfl, ?_⟩
      dsimp only
      rw [yl]
      by_cases c1 : ws.length < 3
      · rw [decide_eq_true (show (ws.length : Int) < 3 by omega)]
        exact iteT (iteT (badW (if_pos (.inl c1))))
      rw [decide_eq_false (show ¬ ((ws.length : Int) < 3) by omega)]
      obtain ⟨w0, hw0⟩ : ∃ w0, ws[0]? = some w0 := ⟨_, List.getElem?_eq_getElem (by omega)⟩
      obtain ⟨w1, hw1⟩ : ∃ w1, ws[1]? = some w1 := ⟨_, List.getElem?_eq_getElem (by omega)⟩
      obtain ⟨w2, hw2⟩ : ∃ w2, ws[2]? = some w2 := ⟨_, List.getElem?_eq_getElem (by omega)⟩
      refine iteF ⟨_, rfl, W, ys, ((0 : Nat) : Int), _, rfl, rfl, SqL.of eW, atI_nat (yat hw0), rfl, _, rfl, ?_⟩
      dsimp only
      by_cases c2 : w0 = [97, 116]
      · rw [decide_eq_true (by rw [eat, c2])]
        refine iteF ⟨_, rfl, W, ys, ((2 : Nat) : Int), _, rfl, rfl, SqL.of eW, atI_nat (yat hw2), rfl, _, rfl, ?_⟩
        dsimp only
        by_cases c3 : w2 = [107, 110, 111, 119, 115]
        · rw [decide_eq_true (by rw [ekn, c3])]
          refine iteF ?_
          have wd : wordsD ws = some (.tuple [optD (readN w1), .tuple ((ws.drop 3).map fun w => optD (readN w))]) := by
            unfold wordsD
            rw [if_neg (fun z => by
              rcases z with z | z | z
              · exact c1 z
              · exact z (by rw [hw0, c2])
              · exact z (by rw [hw2, c3])), List.getD_eq_getElem?_getD, hw1]
            rfl
          have b1 : w1.length ≤ 100000 := by
            have z := wl w1 (List.mem_of_getElem? hw1)
            have e0 : ([] : List Nat).length = 0 := rfl
            omega
          refine ⟨_, rfl, W, ys, ((1 : Nat) : Int), _, rfl, rfl, SqL.of eW, atI_nat (yat hw1), w1, rfl, b1, fun H3 s3 => ?_⟩
          have eW3 := s3 _ _ eW
          refine ⟨_, rfl, _, rfl, W, ys, rfl, SqL.of eW3, fun S3 nS => ?_⟩
          have ct : cutV ys (some (3 : Int)) Option.none = ys.drop 3 := cut_from (n := 3)
          have y3 : ys.drop 3 = (ws.drop 3).map fun w => V.str (SX.S w) := by
            rw [eys, List.map_map, ← List.map_drop]
            rfl
          rw [ct, y3]
          have sS := same_new (o := .lst ((ws.drop 3).map fun w => V.str (SX.S w))) nS
          generalize hHS : upd H3 S3 (.lst ((ws.drop 3).map fun w => V.str (SX.S w))) = HS at sS ⊢
          have eS : HS S3 = some (.lst ((ws.drop 3).map fun w => V.str (SX.S w))) := by rw [← hHS]; exact upd_same
          refine ⟨S3, rfl, ⟨_, SqL.of eS⟩, fun D nD => ?_⟩
          refine lc_list (xs := (ws.drop 3).map fun w => V.str (SX.S w)) (fun i H4 => Same HS H4 ∧ H4 D = some (.lst (((ws.drop 3).take i).map fun w => optN (readN w)))) ⟨same_new nD, upd_same⟩ (fun i H4 _ z => SqL.of (z.1 _ _ eS)) ?_ ?_
          · rintro i y H4 hx ⟨s4, e4⟩
            rw [List.getElem?_map] at hx
            obtain ⟨w', hw', rfl⟩ := Option.map_eq_some_iff.mp hx
            have il := (List.getElem?_eq_some_iff.mp hw').1
            rw [List.length_drop] at il
            have bw : w'.length ≤ 100000 := by
              have z := wl w' (List.mem_of_mem_drop (List.mem_of_getElem? hw'))
              have e0 : ([] : List Nat).length = 0 := rfl
              omega
            refine ⟨rfl, _, rfl, w', rfl, bw, fun H5 s5 => ⟨_, s5 _ _ e4, ?_, same_push (s4.trans s5) nD, ?_⟩⟩
            · rw [List.length_map, List.length_take, List.length_drop]
              exact Nat.lt_of_le_of_lt (show min i (ws.length - 3) ≤ 100001 by omega) (by decide)
            · rw [upd_same, List.take_add_one, hw', List.map_append]
              rfl
          · rintro H4 ⟨s4, e4⟩
            rw [List.length_map, List.take_length] at e4
            refine ⟨D, _, rfl, .inl ⟨e4, fun T H5 nT s5 eT => ⟨(by show 2 ≤ sizeLine; decide), fun U H6 nU s6 eU => ?_⟩⟩⟩
            have thl : ∀ l : List (List Nat), ThAll H6 (l.map fun w => optN (readN w)) (l.map fun w => optD (readN w)) := fun l => by
              induction l with
              | nil => exact .nil
              | cons b l ih => exact .cons (th_opt _) ih
            have thU : Th H6 (.ref U) (.tuple [optD (readN w1), .tuple ((ws.drop 3).map fun w => optD (readN w))]) := .tup eU (.cons (th_opt _) (.cons (.tup (s6 _ _ eT) (thl _)) .nil))
            have s06 : Same H H6 := sW.trans (s3.trans (sS.trans (s4.trans (s5.trans s6))))
            refine ⟨_, rfl, .ref U, _, rfl, thU, fun H7 s7 => ?_⟩
            refine ⟨_, rfl, ?_⟩
            cases c4 : isCd (.tuple [optD (readN w1), .tuple ((ws.drop 3).map fun w => optD (readN w))]) with
            | true =>
              refine iteF ⟨_, rfl, ?_⟩
              exact q1 _ (by rw [rd, wd]; show (if isCd _ = true then _ else _) = _; rw [c4, if_pos rfl]) _ H7 (s06.trans s7) (Th.same s7 _ thU)
            | false =>
              refine iteT ?_
              exact q0 (by rw [rd, wd]; show (if isCd _ = true then _ else _) = _; rw [c4]; rfl) H7 (s06.trans s7)
        · rw [decide_eq_false (by rw [ekn]; exact fun z => c3 (SX.S_inj (V.str.inj z)))]
          exact iteT (badW (if_pos (.inr (.inr (by rw [hw2]; exact fun z => c3 (Option.some.inj z))))))
      · rw [decide_eq_false (by rw [eat]; exact fun z => c2 (SX.S_inj (V.str.inj z)))]
        exact iteT (iteT (badW (if_pos (.inr (.inl (by rw [hw0]; exact fun z => c2 (Option.some.inj z)))))))
end
end Lk
end
section
set_option maxRecDepth 100000
set_option maxHeartbeats 2000000
namespace Lk
open PySem PySem.Spec PyProof.Rows L2
section
variable {P : Program} {w : World} {K : PySem.W.Frag} {mg : Str → Option Value} {base : Heap}
abbrev nPail : List Str := ["script", "k", "cell"]
theorem sc_pail : FnScope nPail ["script", "k"] (defScope s_law_pail) := ⟨rfl, rfl, rfl, by decide +kernel, rfl, by decide +kernel, by decide +kernel⟩
theorem ok_pail {f : Addr} {fd : FuncData} (F : Fun K "_law_pail" "_law_pail" s_law_pail f fd) (mmax : mg "max" = none) (ml : mg "len" = none) : FnOk P w K mg base CX0 1 f fd ["script", "k"] (spPot K) := by
  refine F.ok sc_pail (fun vs H Q E h => ?_) (fun cdv A outer s H vs Q E hr h => ?_)
  · obtain ⟨S, ns, k, rfl, _⟩ := h
    rfl
  · obtain ⟨S, ns, k, rfl, hS, hk, hl, q⟩ := h
    have nd := sc_pail.nd
    refine ⟨_, (pss_cons (by exact (ps_set (i := 2) nd rfl (Or.inl rfl) pe_int))
      (C8.pss_cut (by exact (ps_if (pt_cmpR op_lt (pv 1) (pe_callB call_len_seq (by rfl) ml PySem.boot_len (pa_cons (pv 0) pa_nil)) (nomark _)) (pss_one (by exact (ps_set (i := 2) nd rfl (Or.inl rfl) (pe_ix ix_list (pv 0) (pv 1) (fun _ _ => rfl))))) pss_nil))
      (pss_one (by exact (ps_ret (pe_lstS (pa_cons (pe_callB (call_max2 rfl) (by rfl) mmax (by decide +kernel) (pa_cons pe_int (pa_cons (pe_op op_sub (pv 2) (pe_op op_pow pe_int pe_int)) pa_nil))) (pa_cons (pe_op op_add (pe_op op_mul (pe_op op_mod (pv 2) pe_int) pe_int) (pv 1)) (pa_cons pe_int pa_nil))))))))), ?_⟩
    refine ⟨fun σ' H' => ∃ c : Int, σ' = [some (.ref S), some (.int (k : Int)), some (.int c)] ∧ H' = H, ?_, ?_⟩
    · refine ⟨_, rfl, _, rfl, S, _, rfl, .inl hS, _, _, rfl, rfl, _, rfl, ite2 (fun e => ?_) (fun e => ?_)⟩
      · have e2 := of_decide_eq_true e
        rw [List.length_map] at e2
        have hk2 : k < ns.length := by omega
        have at1 : (ns.map V.int)[k]? = some (V.int ns[k]) := by rw [List.getElem?_map, List.getElem?_eq_getElem hk2]; rfl
        exact ⟨_, rfl, _, rfl, S, _, (k : Int), _, rfl, rfl, hS, atI_nat at1, _, rfl, rfl⟩
      · exact ⟨0, rfl, rfl⟩
    · rintro σ0 H2 ⟨c, rfl, rfl⟩
      have e34 : (0 : Int) < 162259276829213363391578010288127 := by decide
      refine ⟨_, rfl, _, _, rfl, rfl, ⟨by decide, by decide, by decide⟩, _, _, rfl, rfl, _, _, rfl, _, rfl, _, _, rfl, rfl, e34, _, _, rfl, rfl, .inr ⟨by decide, by decide⟩, _, rfl, _, _, rfl, rfl, (by show 3 ≤ sizeLine; decide), fun p H1 n1 s1 e1 => q p H1 n1 s1 ⟨_, _, 0, e1, ?_, ?_, by decide, by decide⟩⟩
      · have z := Int.emod_nonneg c (show (162259276829213363391578010288127 : Int) ≠ 0 by decide)
        omega
      · have z := Int.emod_lt_of_pos c e34
        have z2 : (162259276829213363391578010288127 : Int) * 64 + 64 < 10 ^ 36 := by decide
        omega
abbrev nDip : List Str := ["pail", "many", "found", "mixed"]
theorem sc_dip : FnScope nDip ["pail", "many"] (defScope s_law_dip) := ⟨rfl, rfl, rfl, by decide +kernel, rfl, by decide +kernel, by decide +kernel⟩
theorem ok_dip {f : Addr} {fd : FuncData} (F : Fun K "_law_dip" "_law_dip" s_law_dip f fd) : FnOk P w K mg base CX0 1 f fd ["pail", "many"] spPull := by
  refine F.ok sc_dip (fun vs H Q E h => ?_) (fun cdv A outer s H vs Q E hr h => ?_)
  · obtain ⟨a, m, n, rfl, _⟩ := h
    rfl
  · obtain ⟨a, m, n, rfl, ⟨u0, u1, u2, hb, g1, l1, g2, l2⟩, hn, h0, h1, q⟩ := h
    have nd := sc_dip.nd
    refine ⟨_, (pss_cons (by exact (ps_if (pt_cmpR op_gt (pe_ix ix_list (pv 0) pe_int (fun _ _ => rfl)) pe_int (nomark _)) (pss_cons (by exact (ps_set (i := 2) nd rfl (Or.inl rfl) (pe_op op_mod (pe_ix ix_list (pv 0) pe_int (fun _ _ => rfl)) (pv 1))))
      (pss_cons (by exact (ps_asg (pe_op op_fdivW (pe_ix ix_list (pv 0) pe_int (fun _ _ => rfl)) (pv 1)) (pg_sub (pv 0) pe_int set_list)))
      (pss_one (by exact (ps_ret (pv 2)))))) pss_nil))
      (pss_cons (by exact (ps_asg (pe_op op_add (pe_ix ix_list (pv 0) pe_int (fun _ _ => rfl)) pe_int) (pg_sub (pv 0) pe_int set_list)))
      (pss_cons (by exact (ps_set (i := 3) nd rfl (Or.inl rfl) (pe_op op_mod (pe_op op_powW (pe_op op_add (pe_ix ix_list (pv 0) pe_int (fun _ _ => rfl)) (pe_op op_mul pe_int (pe_ix ix_list (pv 0) pe_int (fun _ _ => rfl)))) pe_int) pe_int)))
      (pss_cons (by exact (ps_set (i := 3) nd rfl (Or.inl rfl) (pe_op op_mod (pe_op op_powW (pe_op op_add (pv 3) (pe_op op_mul (pe_op op_mul pe_int (pe_ix ix_list (pv 0) pe_int (fun _ _ => rfl))) (pe_ix ix_list (pv 0) pe_int (fun _ _ => rfl)))) pe_int) pe_int)))
      (pss_one (by exact (ps_ret (pe_op op_mod (pe_op op_fdiv (pv 3) pe_int) (pv 1))))))))), ?_⟩
    refine ⟨_, rfl, a, _, 0, .int u0, rfl, rfl, SqL.of hb, rfl, _, _, rfl, rfl, _, rfl, ite2 (fun c => ?_) (fun c => ?_)⟩
    · refine ⟨_, rfl, a, _, 0, .int u0, rfl, rfl, SqL.of hb, rfl, _, rfl, _, _, rfl, rfl, h0, ?_⟩
      refine ⟨_, rfl, a, _, 0, .int u0, rfl, rfl, SqL.of hb, rfl, _, rfl, _, _, rfl, rfl, pick_div h0 h1, _, rfl, a, _, 0, 0, rfl, rfl, hb, rfl, ?_⟩
      refine ⟨_, rfl, ?_⟩
      refine q _ _ (Int.emod_nonneg _ (by omega)) (Int.emod_lt_of_pos _ h0) ⟨u0 / m, u1, u2, upd_same, g1, l1, g2, by omega⟩ fun p o n e => ?_
      rw [upd_ne n]
      exact e
    · refine ⟨_, rfl, a, _, 2, .int u2, rfl, rfl, SqL.of hb, rfl, _, _, rfl, rfl, _, rfl, a, _, 2, 2, rfl, rfl, hb, rfl, ?_⟩
      have e38 : (0 : Int) < 170141183460469231731687303715884105727 := by decide
      have e36 : (0 : Int) < 162259276829213363391578010288127 := by decide
      have b1 : (u1 + 2654435761 * (u2 + 1)).natAbs < 2 ^ 1000 := by
        have z : (2 : Nat) ^ 1000 > 10 ^ 40 := by decide +kernel
        omega
      refine ⟨_, rfl, a, _, 1, .int u1, rfl, rfl, SqL.of upd_same, rfl, _, rfl, a, _, 2, .int (u2 + 1), rfl, rfl, SqL.of upd_same, rfl, _, _, rfl, rfl, .inl ⟨by decide, by decide⟩, _, _, rfl, rfl, _, _, rfl, rfl, ⟨by decide, by decide, b1⟩, _, _, rfl, rfl, e38, ?_⟩
      dsimp only
      generalize hF : ((u1 + 2654435761 * (u2 + 1)) ^ (3 : Int).toNat % 170141183460469231731687303715884105727 : Int) = F1
      have hF0 : 0 ≤ F1 := by rw [← hF]; exact Int.emod_nonneg _ (by omega)
      have hF1 : F1 < 170141183460469231731687303715884105727 := by rw [← hF]; exact Int.emod_lt_of_pos _ e38
      have hF2 : F1 < 10 ^ 39 := Int.lt_trans hF1 (by decide)
      have b2 : (F1 + 40692 * (u2 + 1) * (u2 + 1)).natAbs < 2 ^ 1000 := by
        have z : (2 : Nat) ^ 1000 > 10 ^ 40 := by decide +kernel
        have y : 40692 * (u2 + 1) * (u2 + 1) ≤ 40692 * 100001 * 100001 := Int.mul_le_mul (by omega) (by omega) (by omega) (by omega)
        have y0 : 0 ≤ 40692 * (u2 + 1) * (u2 + 1) := Int.mul_nonneg (by omega) (by omega)
        omega
      refine ⟨_, rfl, _, rfl, a, _, 2, .int (u2 + 1), rfl, rfl, SqL.of upd_same, rfl, _, _, rfl, rfl, .inl ⟨by decide, by decide⟩, _, rfl, a, _, 2, .int (u2 + 1), rfl, rfl, SqL.of upd_same, rfl, _, _, rfl, rfl, .inr ⟨by omega, by omega⟩, _, _, rfl, rfl, _, _, rfl, rfl, ⟨by decide, by decide, b2⟩, _, _, rfl, rfl, e36, ?_⟩
      refine ⟨_, rfl, _, _, rfl, rfl, ⟨by decide, by decide⟩, _, rfl, _, _, rfl, rfl, h0, ?_⟩
      exact q _ _ (Int.emod_nonneg _ (by omega)) (Int.emod_lt_of_pos _ h0) ⟨u0, u1, u2 + 1, upd_same, g1, l1, by omega, by omega⟩ sameBut_upd
end
end Lk
end
section
set_option maxRecDepth 100000
set_option maxHeartbeats 2000000
/-! Alike through and through: data that are equal. -/
namespace Lk
open PySem PySem.Spec PyProof.Rows L2
def isSc : PyData → Bool
  | .none => true
  | .bool _ => true
  | .int _ => true
  | .str _ => true
  | _ => false
inductive Up (Pd : PyData → Prop) : PyData → Prop
  | sc (d : PyData) (h : isSc d = true) : Up Pd d
  | lst (ds : List PyData) (h : ∀ x ∈ ds, Pd x) (l : ds.length ≤ 100000) : Up Pd (.list ds)
  | tup (ds : List PyData) (h : ∀ x ∈ ds, Pd x) (l : ds.length ≤ 100000) : Up Pd (.tuple ds)
def Okd : Nat → PyData → Prop
  | 0 => fun _ => False
  | n + 1 => Up (Okd n)
def spSameP (Pd : PyData → Prop) : Sp := fun vs H Q _ => ∃ v u d, vs = [v, u] ∧ Th H v d ∧ Th H u d ∧ Pd d ∧ ∀ H', Same H H' → Q (.bl true) H'
theorem ix_eithK {X : Cx} {K : PySem.W.Frag} (h : X.K = K) : IxR X (fun x y H Q => rIxT K x y H Q ∨ rIxL K x y H Q) := by
  intro value slice pins s σ H x y v u Q I rx ry q e
  rcases q with q | q
  · exact ix_tupK h value slice pins s σ H x y v u Q I rx ry q e
  · exact ix_listK h value slice pins s σ H x y v u Q I rx ry q e
theorem kit_any {K : PySem.W.Frag} (d : PyData) : PySem.W.kitAny K (.type (tyN d)) [.type "list", .type "tuple"] = some (isL d || isT d) := by
  unfold PySem.W.kitAny
  rw [kit_list]
  cases isL d
  · unfold PySem.W.kitAny
    rw [kit_tuple]
    cases isT d <;> rfl
  · rfl
theorem ThAll.at {H : Hp} : ∀ {vs : List V} {ds : List PyData}, ThAll H vs ds → ∀ {i : Nat}, i < ds.length → ∃ v d, vs[i]? = some v ∧ ds[i]? = some d ∧ Th H v d
  | _, _, .nil, i, h => absurd h (Nat.not_lt_zero i)
  | _, _, .cons h m, 0, _ => ⟨_, _, rfl, rfl, h⟩
  | _, _, .cons h m, i + 1, hi => m.at (Nat.lt_of_succ_lt_succ hi)
end Lk
end
section
set_option maxRecDepth 100000
set_option maxHeartbeats 2000000
namespace Lk
open PySem PySem.Spec PyProof.Rows L2
/-- said n times -/
def rep (n : Nat) (l : List Nat) : List Nat := (List.replicate n l).flatten
theorem rep_len (n : Nat) (l : List Nat) : (rep n l).length = n * l.length := by
  induction n with
  | zero => simp [rep]
  | succ n ih =>
    unfold rep at ih ⊢
    rw [List.replicate_succ, List.flatten_cons, List.length_append, ih, Nat.succ_mul]
    omega
theorem fold_cat (c : Array Nat) : ∀ (n : Nat) (acc : Array Nat), ((List.replicate n c).foldl (· ++ ·) acc).toList = acc.toList ++ rep n c.toList
  | 0, acc => by simp [rep]
  | n + 1, acc => by
    rw [List.replicate_succ, List.foldl_cons, fold_cat c n (acc ++ c)]
    simp [rep, List.replicate_succ]
theorem mul_S (l : List Nat) (n : Nat) : Txt.mul (SX.S l) (n : Int) = SX.S (rep n l) := by
  unfold Txt.mul
  by_cases h0 : (n : Int) < 1
  · rw [if_pos h0]
    have e : n = 0 := by omega
    subst e
    rfl
  · rw [if_neg h0]
    by_cases h1 : ((n : Int) == 1 || (SX.S l).length == 0) = true
    · rw [if_pos h1]
      rw [Bool.or_eq_true, beq_iff_eq, beq_iff_eq, SX.S_len] at h1
      rcases h1 with h1 | h1
      · have e : n = 1 := by omega
        subst e
        simp [rep]
      · have e : l = [] := List.eq_nil_of_length_eq_zero h1
        subst e
        have z : rep n [] = [] := List.eq_nil_of_length_eq_zero (by rw [rep_len]; simp)
        rw [z]
    · rw [if_neg h1]
      have z := fold_cat l.toArray n #[]
      have e : ((List.replicate n l.toArray).foldl (· ++ ·) #[]) = (rep n l).toArray := by
        apply Array.toList_inj.mp
        rw [z]
        simp
      show Str.mk ((List.replicate n l.toArray).foldl (· ++ ·) #[]) = _
      rw [e]
theorem op_mulS {X : Cx} : OpR X (binaryOp .Mult) (fun x y H Q => ∃ (l : List Nat) (n : Nat), x = .str (SX.S l) ∧ y = .int n ∧ n ≤ 100000 ∧ n * l.length ≤ 1000000 ∧ Q (.str (SX.S (rep n l))) H) := by
  intro pins s σ H x y v u Q I rx ry h
  obtain ⟨l, n, rfl, rfl, hn, hl, q⟩ := h
  obtain ⟨t, rfl⟩ := rx
  obtain ⟨t', rfl⟩ := ry
  refine SB.mul ⟨?_, ?_, ?_⟩ fun t2 k => ⟨.str (SX.S (rep n l)), H, I.tok _, ⟨t2, by rw [mul_S]⟩, q⟩
  · rw [Bool.or_eq_false_iff, decide_eq_false_iff_not, decide_eq_false_iff_not]
    omega
  · intro h1 _ h2
    rw [SX.S_len] at h2
    have h3 : (0 : Int) < n := by omega
    have h4 : (2 ^ 63 - 1 : Int) / n < l.length := h2
    have h5 := (Int.ediv_lt_iff_lt_mul h3).mp h4
    have h6 : ((l.length : Int) * n) ≤ 1000000 := by
      have z : ((n * l.length : Nat) : Int) ≤ 1000000 := by omega
      rw [Int.natCast_mul] at z
      rw [Int.mul_comm]
      exact z
    omega
  · intro _ _
    rw [SX.S_len, Int.toNat_natCast, Nat.mul_comm]
    unfold Builtin.Str.tooLong
    rw [sizeLine_eq]
    simp
    omega
section
variable {P : Program} {w : World} {K : PySem.W.Frag} {mg : Str → Option Value} {base : Heap}
theorem az_rep {l : List Nat} (h : Az l) (n : Nat) : Az (rep n l) := by
  intro c hc
  unfold rep at hc
  obtain ⟨m, hm, hc⟩ := List.mem_flatten.mp hc
  rw [List.eq_of_mem_replicate hm] at hc
  exact h c hc
theorem isLoop_of {l : List Nat} (h : Az l) (h1 : 1 ≤ l.length) (h2 : l.length ≤ 12) : isLoop l = true := by
  unfold isLoop
  rw [isAz_iff.mpr h, decide_eq_true h1, decide_eq_true h2]
  rfl
end
theorem KnownV.words2 {H : Hp} {v : V} {b : Bool} (h : KnownV H v b) (hb : b = true) : ∃ a ws, v = .ref a ∧ H a = some (.tup (tx ws)) ∧ isKnown ws = true ∧ ws.length ≤ 100000 ∧ ∀ x ∈ ws, x.length ≤ 100000 := by
  cases h with
  | no h => cases hb
  | bad e hl h hw hb' => cases hb
  | tup e hl h => exact ⟨_, _, rfl, e, hb, hl, h⟩
theorem tx_str (ws : List (List Nat)) : tx ws = (ws.map SX.S).map V.str := by rw [List.map_map]; rfl
/-- sorted of a list of texts, as many as there are -/
def rSortSA (K : PySem.W.Frag) : List V → Hp → VK → Prop := fun vs H Q => ∃ (a : Addr) (xs : List Str), vs = [V.ref a] ∧ SqL K H a (xs.map V.str) ∧ xs.length ≤ 1000000 ∧
  ∀ ys p, ys.Perm xs → sortedS ys = true → H p = none → Q (.ref p) (upd H p (.lst (ys.map V.str)))
theorem cr_sortSA {X : Cx} : CallR X (.builtin "sorted") (rSortSA X.K) := by
  intro pins s σ H vs us Q I r h
  obtain ⟨a, xs, rfl, hs, hl0, q⟩ := h
  obtain ⟨its, rv, hl, _⟩ := I.list hs
  rw [Vals.ref1 r]
  have hlen0 := rv.length
  rw [List.length_map] at hlen0
  have big : xs.length ≤ sizeLine := Nat.le_trans hl0 (by decide)
  refine PyProof.Rows.sorted_strsAny hl.isList rv.strs (by rw [← hlen0]; exact big) fun out ys h1 h2 h3 => ?_
  obtain ⟨ep, he'⟩ := PyProof.Rows.sortedAll_at s.heap its out
  have hlen : (ys.map V.str).length ≤ sizeLine := by rw [List.length_map, h2.length_eq]; exact big
  exact ⟨.ref _, upd H (s.heap.objs.size + 1) (.lst (ys.map V.str)), I.laid (t' := s.toks) (fun _ _ => PyProof.Rows.sortedAll_old) (Nat.le_succ _) ⟨hlen, out.toList, ep, vals_of_strs h1, he'⟩, rfl, q ys _ h2 h3 (I.hok.fresh (Nat.le_succ _))⟩
theorem num_keys : ∀ (n : Nat) (ws : List (List Nat)), ((numFrom n ws).map fun kv => kV kv.1) = tx ws
  | _, [] => rfl
  | n, w :: r => by
    show V.str (SX.S w) :: _ = V.str (SX.S w) :: tx r
    rw [num_keys (n + 1) r]
/-- what stands of the new words -/
theorem Reads.facts {ws : List (List Nat)} {t : List Nat} {a r : Nat} {ns : List (List Nat)} (h : Reads ws t a ns r) (h0 : ([] : List Nat) ∈ ws) (nd : ws.Nodup) :
    (ws ++ ns).Nodup ∧ (∀ l ∈ ns, l ≠ [] ∧ l.length ≤ t.length ∧ l.take (l.length - 1) ∈ ws ++ ns ∧ ∀ c ∈ l, c ∈ t) ∧ r ≤ t.length ∧ a + ns.length ≤ t.length := by
  induction h with
  | done h =>
    have := h.ge
    refine ⟨by rw [List.append_nil]; exact nd, fun l hl => (by cases hl), this, this⟩
  | more h he hr ih =>
    rename_i ws t a e r ns
    have hae := h.ge
    have nin := h.no he
    have nd' : (ws ++ [sub t a (e + 1)]).Nodup := by
      rw [List.nodup_append]
      refine ⟨nd, List.nodup_cons.mpr ⟨by simp, List.nodup_nil⟩, fun x hx y hy z => ?_⟩
      rw [List.mem_singleton] at hy
      exact nin (by rw [← hy, ← z]; exact hx)
    obtain ⟨i1, i2, i3, i4⟩ := ih (List.mem_append_left _ h0) nd'
    rw [List.append_assoc] at i1 i2
    refine ⟨i1, fun l hl => ?_, i3, by rw [List.length_cons]; omega⟩
    rcases List.mem_cons.mp hl with e1 | e1
    · have hlen : (sub t a (e + 1)).length = e + 1 - a := sub_len (by omega) (by omega)
      subst e1
      refine ⟨fun z => by rw [z] at hlen; simp at hlen; omega, by omega, ?_, fun c hc => ?_⟩
      · have e2 : (sub t a (e + 1)).take ((sub t a (e + 1)).length - 1) = sub t a e := by
          rw [hlen]
          unfold sub
          rw [List.take_take, show min (e + 1 - a - 1) (e + 1 - a) = e - a by omega]
        rw [e2]
        by_cases hea : a = e
        · subst hea
          have e3 : sub t a a = [] := by unfold sub; rw [Nat.sub_self]; rfl
          rw [e3]
          exact List.mem_append_left _ h0
        · exact List.mem_append_left _ (h.all e (by omega) (Nat.le_refl _))
      · exact List.mem_of_mem_drop (List.mem_of_mem_take hc)
    · exact i2 l e1
theorem Reads.det {ws : List (List Nat)} {t : List Nat} {a r r' : Nat} {ns ns' : List (List Nat)} (h : Reads ws t a ns r) (h' : Reads ws t a ns' r') : ns = ns' ∧ r = r' := by
  induction h generalizing ns' r' with
  | done h =>
    cases h' with
    | done h' => exact ⟨rfl, rfl⟩
    | more h' he' hr' =>
      have := h.uniq h'
      omega
  | more h he hr ih =>
    cases h' with
    | done h' =>
      have := h'.uniq h
      omega
    | more h' he' hr' =>
      have e := h.uniq h'
      subst e
      obtain ⟨e1, e2⟩ := ih hr'
      exact ⟨by rw [e1], e2⟩
theorem Reads.get : ∀ (n : Nat) (ws : List (List Nat)) (t : List Nat) (a : Nat), a ≤ t.length → t.length - a ≤ n → ∃ ns r, Reads ws t a ns r
  | n, ws, t, a, h, hn => by
    obtain ⟨e, he⟩ := LE.ex ws t a h
    by_cases hlt : e < t.length
    · cases n with
      | zero => have := he.ge; omega
      | succ n =>
        have := he.ge
        obtain ⟨ns, r, hr⟩ := Reads.get n (ws ++ [sub t a (e + 1)]) t (e + 1) (by omega) (by omega)
        exact ⟨_, _, .more he hlt hr⟩
    · have e2 : e = t.length := by have := he.le; omega
      subst e2
      exact ⟨_, _, .done he⟩
theorem Reads.ex (ws : List (List Nat)) (t : List Nat) (a : Nat) (h : a ≤ t.length) : ∃ ns r, Reads ws t a ns r := Reads.get _ ws t a h (Nat.le_refl _)
section
variable {P : Program} {w : World} {K : PySem.W.Frag} {mg : Str → Option Value} {base : Heap}
def spNew : Sp := fun vs H Q _ => ∃ a d ws ns, vs = [.ref a, .ref d] ∧ H a = some (.tup (tx ws)) ∧ H d = some (.dK (numFrom 0 (([] :: ws) ++ ns))) ∧ ∀ p H', H p = none → H' p = some (.lst (tx ns)) → Same H H' → Q (.ref p) H'
end
def trueK (fs : List (List Nat)) : List (Key × V) := fs.map fun l => (Sum.inr (SX.S l), V.bl true)
theorem true_val : ∀ (fs : List (List Nat)) (l : List Nat), valV (trueK fs) (Sum.inr (SX.S l)) = if l ∈ fs then some (V.bl true) else none
  | [], l => by rw [if_neg (by simp)]; rfl
  | x :: r, l => by
    by_cases h : x = l
    · subst h
      rw [if_pos List.mem_cons_self]
      exact valV_pos rfl
    · have e : valV (trueK (x :: r)) (Sum.inr (SX.S l)) = valV (trueK r) (Sum.inr (SX.S l)) := valV_neg fun z => h (SX.S_inj (Sum.inr.inj z))
      rw [e, true_val r l]
      have hm : l ∈ x :: r ↔ l ∈ r := ⟨fun z => (List.mem_cons.mp z).resolve_left fun q => h q.symm, List.mem_cons_of_mem _⟩
      by_cases hr : l ∈ r
      · rw [if_pos hr, if_pos (hm.mpr hr)]
      · rw [if_neg hr, if_neg fun z => hr (hm.mp z)]
def addW (fs : List (List Nat)) (l : List Nat) : List (List Nat) := if l ∈ fs then fs else fs ++ [l]
theorem true_put (fs : List (List Nat)) (l : List Nat) : putK (trueK fs) (Sum.inr (SX.S l)) (.bl true) = trueK (addW fs l) := by
  unfold addW
  by_cases h : l ∈ fs
  · rw [if_pos h]
    have z : (trueK fs).any (fun kv => decide (kv.1 = Sum.inr (SX.S l))) = true := by
      rw [valV_any, true_val, if_pos h]
      rfl
    unfold putK
    rw [if_pos z]
    unfold trueK
    rw [List.map_map]
    refine List.map_congr_left fun x _ => ?_
    show (if (Sum.inr (SX.S x) : Key) = Sum.inr (SX.S l) then ((Sum.inr (SX.S x) : Key), V.bl true) else (Sum.inr (SX.S x), V.bl true)) = _
    split <;> rfl
  · rw [if_neg h]
    have z : valV (trueK fs) (Sum.inr (SX.S l)) = none := by rw [true_val, if_neg h]
    rw [putK_new _ z]
    unfold trueK
    rw [List.map_append]
    rfl
theorem addW_mem {fs : List (List Nat)} {l x : List Nat} : x ∈ addW fs l ↔ x ∈ fs ∨ x = l := by
  unfold addW
  by_cases h : l ∈ fs
  · rw [if_pos h]
    exact ⟨.inl, fun z => z.elim id fun e => e ▸ h⟩
  · rw [if_neg h, List.mem_append, List.mem_singleton]
theorem addW_nodup {fs : List (List Nat)} {l : List Nat} (h : fs.Nodup) : (addW fs l).Nodup := by
  unfold addW
  by_cases c : l ∈ fs
  · rw [if_pos c]; exact h
  · rw [if_neg c, List.nodup_append]
    refine ⟨h, List.nodup_cons.mpr ⟨by simp, List.nodup_nil⟩, fun x hx y hy z => ?_⟩
    rw [List.mem_singleton] at hy
    exact c (by rw [← hy, ← z]; exact hx)
theorem addW_len (fs : List (List Nat)) (l : List Nat) : (addW fs l).length ≤ fs.length + 1 := by
  unfold addW
  split
  · omega
  · rw [List.length_append]; simp
theorem true_len (fs : List (List Nat)) : (trueK fs).length = fs.length := List.length_map _
/-- what the found words are -/
structure Found (fs : List (List Nat)) (m : Nat) : Prop where
  nd : fs.Nodup
  len : fs.length ≤ m
  word : ∀ l ∈ fs, isWord l = true ∧ l.length ≤ 9
  clos : ∀ l ∈ fs, l.take (l.length - 1) ∈ ([] : List Nat) :: fs
theorem Found.add {fs : List (List Nat)} {m : Nat} (h : Found fs m) {l : List Nat} (hw : isWord l = true) (h9 : l.length ≤ 9) (hc : l.take (l.length - 1) ∈ ([] : List Nat) :: fs) : Found (addW fs l) (m + 1) where
  nd := addW_nodup h.nd
  len := Nat.le_trans (addW_len fs l) (Nat.succ_le_succ h.len)
  word := fun x hx => by
    rcases addW_mem.mp hx with z | z
    · exact h.word x z
    · rw [z]; exact ⟨hw, h9⟩
  clos := fun x hx => by
    have up : ∀ y, y ∈ ([] : List Nat) :: fs → y ∈ ([] : List Nat) :: addW fs l := fun y hy => by
      rcases List.mem_cons.mp hy with z | z
      · rw [z]; exact List.mem_cons_self
      · exact List.mem_cons_of_mem _ (addW_mem.mpr (.inl z))
    rcases addW_mem.mp hx with z | z
    · exact up _ (h.clos x z)
    · rw [z]; exact up _ hc
/-- sorted of unlike texts is rising -/
theorem rise_of_sorted : ∀ {us : List (List Nat)}, sortedS (us.map SX.S) = true → us.Nodup → Rise us = true
  | [], _, _ => rfl
  | [_], _, _ => rfl
  | a :: b :: r, h, nd => by
    have h' : (!ltCps (SX.S b).cps.toList (SX.S a).cps.toList && risingS (SX.S b) (r.map SX.S)) = true := h
    rw [Bool.and_eq_true] at h'
    have nd' := List.nodup_cons.mp nd
    have ih := rise_of_sorted (us := b :: r) h'.2 nd'.2
    show (decide (a < b) && Rise (b :: r)) = true
    rw [ih, Bool.and_true, decide_eq_true_eq]
    have h1 := h'.1
    rw [ltCps_eq, Bool.not_eq_true', decide_eq_false_iff_not] at h1
    have h2 : ¬ b < a := h1
    by_cases z : a < b
    · exact z
    · have e : a = b := List.le_antisymm (List.not_lt.mp h2) (List.not_lt.mp z)
      exact absurd (e ▸ List.mem_cons_self) nd'.1
theorem isKnown_of {us fs : List (List Nat)} (p : us.Perm fs) (hs : sortedS (us.map SX.S) = true) (nd : fs.Nodup) (hw : ∀ l ∈ fs, isWord l = true) (hc : ∀ l ∈ fs, l.take (l.length - 1) ∈ ([] : List Nat) :: fs) : isKnown us = true := by
  refine isKnown_iff.mpr ⟨List.all_eq_true.mpr fun l hl => hw l (p.mem_iff.mp hl), rise_of_sorted hs (p.symm.nodup nd), List.all_eq_true.mpr fun l hl => decide_eq_true ?_⟩
  rcases List.mem_cons.mp (hc l (p.mem_iff.mp hl)) with z | z
  · rw [z]; exact List.mem_cons_self
  · exact List.mem_cons_of_mem _ (p.mem_iff.mpr z)

end Lk
end
section
set_option maxRecDepth 100000
set_option maxHeartbeats 2000000
/-! repr of a tuple of texts. -/
namespace Lk
open PySem PySem.Spec PyProof.Rows L2
/-- texts as data -/
def sD (x : List Nat) : PyData := .str (SX.S x)
def xD (ws : List (List Nat)) : PyData := .tuple (ws.map sD)
theorem th_txs {H : Hp} : ∀ ws : List (List Nat), ThAll H (tx ws) (ws.map sD)
  | [] => .nil
  | w :: r => .cons (.str (SX.S w)) (th_txs r)
theorem th_xD {H : Hp} {p : Addr} {ws : List (List Nat)} (e : H p = some (.tup (tx ws))) : Th H (.ref p) (xD ws) := .tup e (th_txs ws)
theorem depth_sD : ∀ ws : List (List Nat), PyData.depthAll (ws.map sD) = 0
  | [] => by simp [PyData.depthAll]
  | w :: r => by simp [PyData.depthAll, PyData.depth, sD, depth_sD r]
theorem show_sD : ∀ ws : List (List Nat), PyData.showableAll (ws.map sD) = true
  | [] => by simp [PyData.showableAll]
  | w :: r => by simp [PyData.showableAll, PyData.showable, sD, show_sD r]
theorem wt_sD {x : List Nat} {n : Nat} (hz : Az x) (h : x.length ≤ n) : wt (sD x) ≤ 10 * n + 2 := by
  have z := PySem.StrLaws.reprText_len (SX.S x) (fun c hc => Nat.lt_of_le_of_lt (hz c hc).2 (by decide))
  rw [SX.S_len] at z
  exact Nat.le_trans z (Nat.add_le_add_right (Nat.mul_le_mul_left 10 h) 2)
theorem rep_xD {K : PySem.W.Frag} {H : Hp} {Q : VK} {p : Addr} {ws : List (List Nat)} (e : H p = some (.tup (tx ws))) (h : ws.length ≤ 1000) (hl : ∀ x ∈ ws, x.length ≤ 400) (hz : ∀ x ∈ ws, Az x) (q : Q (.str (xD ws).shown) H) : rRep K [.ref p] H Q := by
  refine ⟨.ref p, xD ws, rfl, Th.dq _ (th_xD e), (fun kvs z => nomatch z), ?_, ?_, ?_, q⟩
  · simp only [xD, PyData.showable, show_sD]
  · simp only [xD, PyData.depth, depth_sD]
    decide
  · have a := shown_wt (xD ws)
    have b := wts_le (B := 4002) (ds := ws.map sD) fun d hd => by
      obtain ⟨x, hx, rfl⟩ := List.mem_map.mp hd
      exact wt_sD (hz x hx) (hl x hx)
    rw [List.length_map] at b
    have c : wt (xD ws) = 3 + wts (ws.map sD) := rfl
    have d : ws.length * 4004 ≤ 1000 * 4004 := Nat.mul_le_mul_right _ h
    rw [sizeLine_eq]
    omega
theorem known_az {ws : List (List Nat)} (h : isKnown ws = true) : ∀ x ∈ ws, Az x := fun x hx => (isWord_iff.mp (List.all_eq_true.mp (isKnown_iff.mp h).1 x hx)).1
theorem sqLs {K : PySem.W.Frag} {H H2 : Hp} {a : Addr} {xs : List V} (s : Same H H2) (h : SqL K H a xs) : SqL K H2 a xs := by
  rcases h with (h | ⟨o, h⟩) | h
  · exact .inl (.inl (s _ _ h))
  · exact .inl (.inr ⟨o, s _ _ h⟩)
  · exact .inr h
/-- repr of a truth -/
theorem rep_bl {K : PySem.W.Frag} {H : Hp} {Q : VK} {b : Bool} (q : Q (.str (PyData.bool b).shown) H) : rRep K [.bl b] H Q := by
  refine ⟨.bl b, .bool b, rfl, .bl b, (fun kvs z => nomatch z), by simp [PyData.showable], by simp [PyData.depth], ?_, q⟩
  have a := shown_wt (.bool b)
  have c : wt (.bool b) = 5 := rfl
  rw [sizeLine_eq]
  omega
end Lk
end
section
set_option maxRecDepth 100000
set_option maxHeartbeats 4000000
namespace Lk
open PySem PySem.Spec PyProof.Rows L2
abbrev nSa : List Str := ["found", "due", "k"]
section
variable {P : Program} {w : World} {K : PySem.W.Frag} {mg : Str → Option Value} {base : Heap}
theorem sc_same : FnScope nSa ["found", "due"] (defScope s_law_same) := ⟨rfl, rfl, rfl, by decide +kernel, rfl, by decide +kernel, by decide +kernel⟩
theorem ok_same0 {f : Addr} {fd : FuncData} (F : Fun K "_law_same" "_law_same" s_law_same f fd) : FnOk P w K mg base CX0 1 f fd ["found", "due"] (spSameP (Okd 0)) := by
  refine F.ok sc_same (fun vs H Q E h => ?_) (fun cdv A outer s H vs Q E hr h => ?_)
  · obtain ⟨v, u, d, rfl, _⟩ := h
    rfl
  · obtain ⟨v, u, d, rfl, _, _, h, _⟩ := h
    exact h.elim
theorem ok_same {f : Addr} {fd : FuncData} {n : Nat} (F : Fun K "_law_same" "_law_same" s_law_same f fd) (sa : C8.Cal P w K mg base (n + 1) "_law_same" (spSameP (Okd n)) []) (mi : mg "isinstance" = none) (mls : mg "list" = none) (mt : mg "tuple" = none) (mb : mg "bool" = none) (ml : mg "len" = none) (mr : mg "range" = none) (ma : mg "all" = none) : FnOk P w K mg base CX0 (n + 2) f fd ["found", "due"] (spSameP (Okd (n + 1))) := by
  refine F.ok sc_same (fun vs H Q E h => ?_) (fun cdv A outer s H vs Q E hr h => ?_)
  · obtain ⟨v, u, d, rfl, _⟩ := h
    rfl
  · obtain ⟨v, u, d, rfl, hv, hu, hd, q⟩ := h
    have nd := sc_same.nd
    refine ⟨_, (pss_cons (by exact (ps_if (pt_val (pe_callB call_isiT (by rfl) mi (by decide +kernel) (pa_cons (pv 1) (pa_cons (pe_tupS (pa_cons (pe_bltn (v := .ty "list") (by rfl) mls (by decide +kernel) rfl) (pa_cons (pe_bltn (v := .ty "tuple") (by rfl) mt (by decide +kernel) rfl) pa_nil))) pa_nil)))) (pss_cons (by exact (ps_if (PW.pt (pw_or (pt_cmpR op_ne (pe_callB call_isi (by rfl) mi (by decide +kernel) (pa_cons (pv 0) (pa_cons (pe_bltn (v := .ty "list") (by rfl) mls (by decide +kernel) rfl) pa_nil))) (pe_callB call_isi (by rfl) mi (by decide +kernel) (pa_cons (pv 1) (pa_cons (pe_bltn (v := .ty "list") (by rfl) mls (by decide +kernel) rfl) pa_nil))) (nomark _)) (pw_or1 (pt_cmpR op_ne (pe_callB call_isi (by rfl) mi (by decide +kernel) (pa_cons (pv 0) (pa_cons (pe_bltn (v := .ty "tuple") (by rfl) mt (by decide +kernel) rfl) pa_nil))) (pe_callB call_isi (by rfl) mi (by decide +kernel) (pa_cons (pv 1) (pa_cons (pe_bltn (v := .ty "tuple") (by rfl) mt (by decide +kernel) rfl) pa_nil))) (nomark _))))) (pss_one (by exact (ps_ret pe_bl))) pss_nil))
      (pss_one (by exact (ps_ret (pe_and (pe_cmpR op_eq (pe_callB call_len_seq (by rfl) ml PySem.boot_len (pa_cons (pv 0) pa_nil)) (pe_callB call_len_seq (by rfl) ml PySem.boot_len (pa_cons (pv 1) pa_nil)) (nomark _)) (pe_one (pe_callB (cr_all rfl) (by rfl) ma (by decide +kernel) (pa_cons (pe_lc (own := [("k", 2)]) (g := (gName 2)) (tt := tYes) rfl nd (pi_range1 (by rfl) mr (pa_cons (pe_callB call_len_seq (by rfl) ml PySem.boot_len (pa_cons (pv 1) pa_nil)) pa_nil)) (blkOk_by (N := nSa) (sc := defScope s_law_same) (by decide +kernel)) (fun _ _ _ _ _ => (pg_name (i := 2) nd rfl (Or.inl rfl))) (fun _ _ _ _ _ => pts_nil) (fun _ _ _ _ _ => (C8.pe_c sa hr (Nat.le_refl _) rfl (pa_cons (pe_ix (ix_eithK (K := K) rfl) (pv 0) (pv 2) (fun _ _ => rfl)) (pa_cons (pe_ix (ix_eithK (K := K) rfl) (pv 1) (pv 2) (fun _ _ => rfl)) pa_nil))))) pa_nil)))))))) pss_nil))
      (pss_one (by exact (ps_ret (pe_and (pe_cmpR op_eq (pe_callB call_isi (by rfl) mi (by decide +kernel) (pa_cons (pv 0) (pa_cons (pe_bltn (v := .ty "bool") (by rfl) mb (by decide +kernel) rfl) pa_nil))) (pe_callB call_isi (by rfl) mi (by decide +kernel) (pa_cons (pv 1) (pa_cons (pe_bltn (v := .ty "bool") (by rfl) mb (by decide +kernel) rfl) pa_nil))) (nomark _)) (pe_one (pe_cmpR op_eq (pv 0) (pv 1) (nomark _)))))))), ?_⟩
    refine ⟨_, rfl, (by show 2 ≤ sizeLine; decide), fun T H1 nT s1 e1 => ?_⟩
    refine ⟨u, T, _, _, _, isL d || isT d, rfl, e1, .cons (.ty _) (.cons (.ty _) .nil), (hu.same s1).ty, kit_any d, _, rfl, ?_⟩
    have hv1 := hv.same s1
    have hu1 := hu.same s1
    cases hd with
    | sc _ h =>
      have hvu : v = u := by cases hv <;> cases hu <;> first | rfl | cases h
      subst hvu
      have hs : scal v v = true := by cases hv <;> first | rfl | cases h
      have e : (isL d || isT d) = false := by cases d <;> first | rfl | cases h
      dsimp only
      rw [e]
      refine iteF ?_
      refine ⟨_, rfl, v, .ty "bool", _, _, isB d, rfl, .ty _, hv1.ty, kit_bool d, _, rfl, v, .ty "bool", _, _, isB d, rfl, .ty _, hv1.ty, kit_bool d, rfl, _, rfl, ?_⟩
      rw [decide_eq_true rfl]
      refine iteT ⟨_, rfl, _, rfl, hs, ?_⟩
      rw [decide_eq_true rfl]
      exact q H1 s1
    | lst ds h l =>
      cases hv1 with
      | lst ea ma =>
      cases hu1 with
      | lst eb mb =>
      rename_i a xs b ys
      have hvL := (Th.lst ea ma).ty (K := K)
      have huL := (Th.lst eb mb).ty (K := K)
      refine iteT ?_
      refine ⟨_, rfl, .ref a, .ty "list", _, _, true, rfl, .ty _, hvL, kit_list _, _, rfl, .ref b, .ty "list", _, _, true, rfl, .ty _, huL, kit_list _, rfl, _, rfl, ?_⟩
      rw [decide_eq_true rfl]
      refine iteF ⟨_, rfl, .ref a, .ty "tuple", _, _, false, rfl, .ty _, hvL, kit_tuple _, _, rfl, .ref b, .ty "tuple", _, _, false, rfl, .ty _, huL, kit_tuple _, rfl, _, rfl, ?_⟩
      dsimp only
      rw [decide_eq_true rfl]
      refine iteF ?_
      have lx := ma.length
      have ly := mb.length
      refine ⟨_, rfl, a, xs, rfl, .inl (SqL.of ea), _, rfl, b, ys, rfl, .inl (SqL.of eb), rfl, _, rfl, ?_⟩
      rw [decide_eq_true (congrArg (fun z : Nat => V.int (z : Int)) (lx.trans ly.symm))]
      refine iteT ⟨_, rfl, b, ys, rfl, .inl (SqL.of eb), ((ys.length : Nat) : Int), rfl, by omega, by omega, fun D nD => ?_⟩
      rw [Int.toNat_natCast]
      refine lc_range (lo := 0) (n := ys.length) (fun i H3 => Same H1 H3 ∧ H3 D = some (.lst ((List.replicate i true).map V.bl))) ⟨same_new nD, upd_same⟩ ?_ ?_
      · rintro i H3 hi ⟨s3, e3⟩
        obtain ⟨x, dx, hx, hdx, tx⟩ := ma.at (i := i) (by omega)
        obtain ⟨y, dy, hy, hdy, ty⟩ := mb.at (i := i) (by omega)
        rw [hdx] at hdy
        cases hdy
        refine ⟨rfl, _, rfl, _, rfl, .inr ⟨a, xs, _, x, rfl, rfl, SqL.of (s3 _ _ ea), by rw [Int.zero_add]; exact atI_nat hx, _, rfl, _, rfl, .inr ⟨b, ys, _, y, rfl, rfl, SqL.of (s3 _ _ eb), by rw [Int.zero_add]; exact atI_nat hy, x, y, dx, rfl, tx.same s3, ty.same s3, h dx (List.mem_of_getElem? hdx), fun H4 s4 => ?_⟩⟩⟩
        have big : (100000 : Nat) < sizeLine := by decide
        refine ⟨_, s4 _ _ e3, by rw [List.length_map, List.length_replicate]; omega, same_push (s3.trans s4) nD, ?_⟩
        rw [upd_same, List.replicate_succ', List.map_append]
        rfl
      · rintro H3 ⟨s3, e3⟩
        refine ⟨D, List.replicate ys.length true, rfl, SqL.of e3, ?_⟩
        rw [show (List.replicate ys.length true).all id = true by simp]
        exact q H3 (s1.trans s3)
    | tup ds h l =>
      cases hv1 with
      | tup ea ma =>
      cases hu1 with
      | tup eb mb =>
      rename_i a xs b ys
      have hvL := (Th.tup ea ma).ty (K := K)
      have huL := (Th.tup eb mb).ty (K := K)
      refine iteT ?_
      refine ⟨_, rfl, .ref a, .ty "list", _, _, false, rfl, .ty _, hvL, kit_list _, _, rfl, .ref b, .ty "list", _, _, false, rfl, .ty _, huL, kit_list _, rfl, _, rfl, ?_⟩
      rw [decide_eq_true rfl]
      refine iteF ⟨_, rfl, .ref a, .ty "tuple", _, _, true, rfl, .ty _, hvL, kit_tuple _, _, rfl, .ref b, .ty "tuple", _, _, true, rfl, .ty _, huL, kit_tuple _, rfl, _, rfl, ?_⟩
      dsimp only
      rw [decide_eq_true rfl]
      refine iteF ?_
      have lx := ma.length
      have ly := mb.length
      refine ⟨_, rfl, a, xs, rfl, .inr (SqT.of ea), _, rfl, b, ys, rfl, .inr (SqT.of eb), rfl, _, rfl, ?_⟩
      rw [decide_eq_true (congrArg (fun z : Nat => V.int (z : Int)) (lx.trans ly.symm))]
      refine iteT ⟨_, rfl, b, ys, rfl, .inr (SqT.of eb), ((ys.length : Nat) : Int), rfl, by omega, by omega, fun D nD => ?_⟩
      rw [Int.toNat_natCast]
      refine lc_range (lo := 0) (n := ys.length) (fun i H3 => Same H1 H3 ∧ H3 D = some (.lst ((List.replicate i true).map V.bl))) ⟨same_new nD, upd_same⟩ ?_ ?_
      · rintro i H3 hi ⟨s3, e3⟩
        obtain ⟨x, dx, hx, hdx, tx⟩ := ma.at (i := i) (by omega)
        obtain ⟨y, dy, hy, hdy, ty⟩ := mb.at (i := i) (by omega)
        rw [hdx] at hdy
        cases hdy
        refine ⟨rfl, _, rfl, _, rfl, .inl ⟨a, xs, _, x, rfl, rfl, SqT.of (s3 _ _ ea), by rw [Int.zero_add]; exact atI_nat hx, _, rfl, _, rfl, .inl ⟨b, ys, _, y, rfl, rfl, SqT.of (s3 _ _ eb), by rw [Int.zero_add]; exact atI_nat hy, x, y, dx, rfl, tx.same s3, ty.same s3, h dx (List.mem_of_getElem? hdx), fun H4 s4 => ?_⟩⟩⟩
        have big : (100000 : Nat) < sizeLine := by decide
        refine ⟨_, s4 _ _ e3, by rw [List.length_map, List.length_replicate]; omega, same_push (s3.trans s4) nD, ?_⟩
        rw [upd_same, List.replicate_succ', List.map_append]
        rfl
      · rintro H3 ⟨s3, e3⟩
        refine ⟨D, List.replicate ys.length true, rfl, SqL.of e3, ?_⟩
        rw [show (List.replicate ys.length true).all id = true by simp]
        exact q H3 (s1.trans s3)
end
end Lk
end
section
set_option maxRecDepth 100000
set_option maxHeartbeats 2000000
/-! A def of the law's own, called in the suite on the error. -/
namespace Lk
open PySem PySem.Spec PyProof.Rows L2 L2H HotX
/-- x tells of an error of the class q.1 what told q.2 says -/
structure CalE (P : Program) (w : World) (K : PySem.W.Frag) (mg : Str → Option Value) (base : Heap) (k : Nat) (x y : Str) (told : Str → VK → Hp → Prop) (ws : List (Addr × Str)) : Prop where
  ex : ∃ (f : Addr) (fd : FuncData), (∀ q ∈ ws, FnE P w K mg base k f fd y q.1 (told q.2)) ∧ mg x = some (.ref f) ∧ PySem.W.keepIn K (.ref f) = true ∧ Binds K fd [y] []
section
variable {X : Cx} {k j i : Nat} {x y n : Str} {told : Str → VK → Hp → Prop} {ws : List (Addr × Str)} {p q pos : Pos} {a : Addr} {oe : Obj} {cls : Value} {d : Option Addr}
theorem pe_cE (c : CalE X.prog X.w X.K X.mg X.base k x y told ws) (hr : RoomH j X.A) (hk : k ≤ j) (hz : L2N.Zn cls d oe) (hf : ∃ vs, oe.data = .fields vs) (hh : X.A.handled = some (.ref a)) (hp : (a, oe) ∈ X.pn) (hg : Gl X x)
    (hN : X.N[i]? = some n) (hv : Vis X.env.scope n) (hdb : (x == ("__debug__" : Str)) = false := by decide) (hd2 : (n == ("__debug__" : Str)) = false := by decide) (hcd : (n == ("__classdict__" : Str)) = false := by decide)
    (he : starEach [Expr.Name n q] X.env = (false, eval (.Name n q) X.env) :: starEach [] X.env := by rfl) (hpl : (backTo pos (starEach [] X.env)).any (·.1) = false := by rfl) :
    PE X (.Call (.Name x p) [.Name n q] [] pos) (fun σ H Q => ∃ D nm, cls = .ref D ∧ d = none ∧ (D, nm) ∈ ws ∧ σ[i]? = some (some (.ref a)) ∧ told nm Q H) := by
  obtain ⟨f, fd, F, hm, hkp, hb⟩ := c.ex
  refine ⟨fun pins s σ H Q I ⟨D, nm, e1, e2, hmem, hs, ht⟩ => ?_⟩
  subst e1 e2
  obtain ⟨vs, ev⟩ := hf
  have hot : Hot1 X.A (a, oe) := ⟨hh, vs, ev, hz.2.2 vs ev⟩
  exact (pe_callE (F (D, nm) hmem) (hr.mono hk) hot hp hz.zc hg hm hkp hb hN hv hdb hd2 hcd he hpl).run pins s σ H Q I ⟨hs, ht⟩
end
/-- == and != of lists within a comprehension -/
theorem op_neDK {X : Cx} {K : PySem.W.Frag} (h : X.K = K) (hu : X.A.units + 64 < cLine) : OpR X (compareOp .NotEq) (rNeD K) := by
  subst h
  exact op_neD hu
theorem op_eqDK {X : Cx} {K : PySem.W.Frag} (h : X.K = K) (hu : X.A.units + 64 < cLine) : OpR X (compareOp .Eq) (rEqD K) := by
  subst h
  exact op_eqD hu
/-- nothing is let through -/
theorem takes_no {X : Cx} : L2N.Takes X fun _ _ _ _ => False := fun _ _ ⟨_, _, _, _, _, _, _, _, _, _, _, _, _, _, _, _, w⟩ => w.elim
end Lk
end
section
set_option maxRecDepth 100000
set_option maxHeartbeats 2000000
/-! Lists of one word: those of a list that are told otherwise; == of lists of such. -/
namespace Lk
open PySem PySem.Spec PyProof.Rows L2
/-- a list of the one word -/
def toldW (nm : Str) (Q : VK) (H : Hp) : Prop := ∀ p H', Same H H' → H' p = some (.lst [.str nm]) → Q (.ref p) H'
theorem shaped_w {w : Str} (hs : PyData.strOk w = true) : SeqAt.shaped (.list [.str w]) = true := by
  unfold SeqAt.shaped
  simp [PyData.canLay0, PyData.canLayAll0, PyData.depth, PyData.depthAll, hs]
theorem eqv_w (w : Str) : PyData.eqv (.list [.str w]) (.list [.str w]) = true := by simp [PyData.eqv, PyData.eqvAll]
theorem dp_w {K : PySem.W.Frag} {H : Hp} {p : Addr} {w : Str} (e : H p = some (.lst [.str w])) : Dp K H (.ref p) (.list [.str w]) := .lst (SqL.of e) (.cons (.str _) .nil)
/-- call != [w] -/
theorem ne_w {K : PySem.W.Frag} {σ : L2.St} {H : Hp} {w : Str} {call : TE} {Q : Bool → Hp → Prop} (hs : PyData.strOk w = true) (h : ∀ Q1, toldW w Q1 H → call σ H Q1) (q : ∀ H1, Same H H1 → Q false H1) :
    tTest (tOp (rNeD K) call (tLstS (tCons (tC (.str w)) tNil))) σ H Q := by
  refine h _ fun p H1 s1 e1 => ⟨(by show 1 ≤ sizeLine; decide), fun p2 H2 n2 s2 e2 => ⟨_, _, dp_w (s2 _ _ e1), dp_w e2, shaped_w hs, shaped_w hs, _, rfl, ?_⟩⟩
  rw [eqv_w]
  exact q H2 (Same.trans s1 s2)
/-- [x for x in l if call != [w]] != [] -/
theorem sift_none {K K1 : PySem.W.Frag} {σ : L2.St} {H : Hp} {Q : Bool → Hp → Prop} {S : Addr} {ws : List V} {i j : Nat} {call : TE} {w : Str} (e : σ[j]? = some (some (.ref S))) (eS : H S = some (.lst ws)) (hw : ∀ x, wipe ((wipe σ [i]).set i (some x)) [i] = wipe σ [i])
    (hs : PyData.strOk w = true) (h : ∀ (k : Nat) (x : V) (H1 : Hp) (Q1 : VK), ws[k]? = some x → Same H H1 → toldW w Q1 H1 → call ((wipe σ [i]).set i (some x)) H1 Q1) (q : ∀ H1, Same H H1 → Q false H1) :
    tTest (tOp (rNeD K1) (tLc (iList K1 (tVar j)) (gName i) (tTest (tOp (rNeD K) call (tLstS (tCons (tC (.str w)) tNil)))) (tVar i) [i]) (tLstS tNil)) σ H Q := by
  have ml0 : SeqAt.shaped (.list []) = true := shaped_ints []
  refine ⟨_, e, S, rfl, ⟨_, SqL.of eS⟩, fun D nD => ?_⟩
  refine lc_it (walk_list (xs := ws)) (fun i H' => Same H H' ∧ H' D = some (.lst [])) ⟨same_new nD, upd_same⟩ (fun _ _ _ r => SqL.of (r.1 _ _ eS)) ?_ ?_
  · rintro k x R1 R2 hk ⟨r1, r2⟩ ⟨rfl, hx⟩
    refine ⟨hw x, ne_w hs (fun Q1 t => h k x R2 Q1 hx r1 t) fun H1 s1 => ?_⟩
    exact ⟨Same.trans r1 s1, s1 _ _ r2⟩
  · rintro R1 ⟨r1, r2⟩
    refine ⟨(by show 0 ≤ sizeLine; exact Nat.zero_le _), fun Z R2 nZ rz eZ => ⟨.list [], .list [], .lst (SqL.of (rz _ _ r2)) .nil, .lst (SqL.of eZ) .nil, ml0, ml0, _, rfl, ?_⟩⟩
    rw [show (!PyData.eqv (.list []) (.list [])) = false from by simp [PyData.eqv, PyData.eqvAll]]
    exact q R2 (Same.trans r1 rz)
theorem dps_w {K : PySem.W.Frag} {H : Hp} {w : Str} : ∀ {rs : List Addr}, (∀ r ∈ rs, H r = some (.lst [.str w])) → DpAll K H (rs.map V.ref) (List.replicate rs.length (.list [.str w]))
  | [], _ => .nil
  | r :: rs, h => .cons (dp_w (h r List.mem_cons_self)) (dps_w fun x hx => h x (List.mem_cons_of_mem _ hx))
theorem eqv_self_w (w : Str) (n : Nat) : PyData.eqv (.list (List.replicate n (.list [.str w]))) (.list (List.replicate n (.list [.str w]))) = true := by
  simp only [PyData.eqv]
  induction n with
  | zero => simp [PyData.eqvAll]
  | succ n ih =>
    rw [List.replicate_succ]
    simp only [PyData.eqvAll, ih, Bool.and_true]
    exact eqv_w w
theorem lays_w {w : Str} (hs : PyData.strOk w = true) (n : Nat) : PyData.canLayAll0 (List.replicate n (.list [.str w])) = true ∧ PyData.depthAll (List.replicate n (.list [.str w])) ≤ 1 := by
  induction n with
  | zero => simp [PyData.canLayAll0, PyData.depthAll]
  | succ n ih =>
    rw [List.replicate_succ]
    simp [PyData.canLayAll0, PyData.depthAll, PyData.canLay0, PyData.depth, ih.1, ih.2, hs]
theorem shaped_wl {w : Str} (hs : PyData.strOk w = true) (n : Nat) : SeqAt.shaped (.list (List.replicate n (.list [.str w]))) = true := by
  have z := lays_w hs n
  unfold SeqAt.shaped
  rw [Bool.and_eq_true]
  refine ⟨by simp only [PyData.canLay0, z.1], decide_eq_true ?_⟩
  simp only [PyData.depth]
  have := z.2
  omega
/-- what the repr of a list of long lists asks -/
def GoodX (d : PyData) : Prop := d.showable = true ∧ d.depth ≤ 9 ∧ wt d ≤ 210000
theorem Good.x {d : PyData} (h : Good d) : GoodX d := ⟨h.1, by have := h.2.1; omega, by have := h.2.2; omega⟩
theorem goodX_list {ds : List PyData} (h : ∀ d ∈ ds, Good d) (l : ds.length ≤ 100) : GoodX (.list ds) := by
  have z := wts_le (B := 2000) (ds := ds) fun d hd => (h d hd).2.2
  have z2 : ds.length * 2002 ≤ 100 * 2002 := Nat.mul_le_mul_right _ l
  refine ⟨?_, ?_, ?_⟩
  · simp only [PyData.showable]
    exact showAll_of fun d hd => (h d hd).1
  · have z := depAll_le (B := 8) fun d hd => (h d hd).2.1
    simp only [PyData.depth]
    omega
  · show 2 + wts ds ≤ 210000
    omega
theorem rep_lists {K : PySem.W.Frag} {H : Hp} {Q : VK} {p : Addr} {xs : List V} {ds : List PyData} (e : H p = some (.lst xs)) (m : ThAll H xs ds) (g : ∀ d ∈ ds, GoodX d) (l : ds.length ≤ 10) (q : Q (.str (PyData.list ds).shown) H) : rRep K [.ref p] H Q := by
  refine ⟨.ref p, .list ds, rfl, Th.dq _ (.lst e m), (fun kvs z => nomatch z), ?_, ?_, ?_, q⟩
  · simp only [PyData.showable]
    exact showAll_of fun d hd => (g d hd).1
  · have z := depAll_le (B := 9) fun d hd => (g d hd).2.1
    simp only [PyData.depth]
    omega
  · have a := shown_wt (.list ds)
    have z := wts_le (B := 210000) (ds := ds) fun d hd => (g d hd).2.2
    have z2 : ds.length * 210002 ≤ 10 * 210002 := Nat.mul_le_mul_right _ l
    have c : wt (.list ds) = 2 + wts ds := rfl
    rw [sizeLine_eq]
    omega
end Lk
end
section
set_option maxRecDepth 100000
set_option maxHeartbeats 2000000
/-! All classes of errors, seen from one. -/
namespace Lk
open PySem PySem.Spec PyProof.Rows L2
def ernL : List Str := ["NoKnown", "NoText", "NoPairs", "NoLoop", "NoCoder", "NoCount", "NotRound", "NoTree", "NoSign", "NotLike", "NoPlace", "NoCounts", "NoWord", "Nothing", "NoLog", "NoRow"]
/-- all classes of errors, seen from the one at CL, whose name is nm -/
structure Errs16 (K : PySem.W.Frag) (mg : Str → Option Value) (CL : Addr) (nm : Str) : Prop where
  C : ExcC K CL
  ve : mg "ValueError" = none
  yes : PySem.W.kitOne K (.ref CL) (.type "ValueError") = some true
  iso : mg "isinstance" = none
  e : ∀ x ∈ ernL, IsB K mg CL x (decide (x = nm))
end Lk
end
section
set_option maxRecDepth 100000
set_option maxHeartbeats 2000000
/-! A list is walked while an error is handled. -/
namespace HotX
open PySem PySem.Spec PyProof.Rows
section
variable {prog : Program} {w : World} {A : Around} {E : Value → Shared → Prop} {s : Shared}
theorem pyNext_list_end_hot {it l x1 : Addr} {i : Nat} {items : Array Value} {Q : Option Value → Shared → Prop} (hot : HotAt A x1 s.heap)
    (hit : s.heap.IsListIter it l i) (hl : s.heap.IsList l items) (hx : items[i]? = none)
    (hQ : ∀ h', (∀ b o, b ≠ it → s.heap.get? b = some o → h'.get? b = some o) → Q none { s with heap := h' }) : wpAny (model prog w) A (pyNext (.ref it)) Q E s := by
  obtain ⟨o, ho, hc, hd⟩ := id hit
  obtain ⟨ol, hol, _, nl, hdl⟩ := hl
  obtain ⟨hh, o1, vs1, h1, d1, c1⟩ := hot
  have nx : x1 ≠ it := by
    intro e
    rw [e, ho] at h1
    cases h1
    rw [hd] at d1
    cases d1
    cases c1
  unfold pyNext
  refine wpAny_bind (wpAny_attempt (wpAny_callSpecial?_slot (name := Str.ofString "__next__") hit.typeIs slot_listiter_next
    (wpAny_call_entry slot_listiter_next hit.typeIs entry_listiter_next ?_ (args_listiter_next _))))
  show wpAny _ _ (field (.ref it) 0 >>= _) _ _ s
  refine wpAny_bind (wpAny_field ho hd (x := .ref l) rfl ?_)
  show wpAny _ _ (if (Value.ref l == Value.none) = true then _ else _) _ _ s
  rw [if_neg (show ¬ ((Value.ref l == Value.none) = true) from Bool.false_ne_true)]
  show wpAny _ _ (field (.ref it) 1 >>= _) _ _ s
  refine wpAny_bind (wpAny_field ho hd (x := .int i 0) rfl ?_)
  show wpAny _ _ (seqItems? (.ref l) >>= _) _ _ s
  refine wpAny_bind (wpAny_seqItems hol hdl ?_)
  simp only [Int.toNat_natCast, hx]
  refine wpAny_bind (wpAny_rule (wpAny_bind (wpAny_setField ho hd (by simp) ?_)))
  show wpAny _ _ (newExc (.type "StopIteration") [] >>= _) _ _ _
  refine wpAny_bind ?_
  simp only [newExc, newTuple]
  refine wpAny_bind (wpAny_newObj_type ?_ (by size_fits))
  refine wpAny_bind (m := firstArgMember _ _) (wpAny_of_eq (a := Value.none) (by first | rfl | (simp only [firstArgMember]; rfl)) ?_)
  refine wpAny_newObj_type ?_ (by size_fits)
  refine raiseNew_hot ⟨hh, o1, vs1, Heap.get?_push_of_some _ (Heap.get?_push_of_some _ ((Heap.get?_update_other _ _ nx.symm).trans h1)), d1, c1⟩ (Nat.ne_of_lt (Heap.lt_size (Heap.get?_push_of_some _ ((Heap.get?_update_other _ _ nx.symm).trans h1)))) (Heap.get?_push_size _ rfl) rfl (by first | (simp; done) | (simp; omega) | (simp only [Array.size_append]; simp; omega)) ?_
  refine wpAny_bind (wpAny_isInstance (T := "StopIteration") (b := true) ⟨_, Heap.get?_update_self _ (Heap.get?_push_size _ rfl) rfl, rfl⟩ isSubtype_stop ?_)
  refine wpAny_pure (hQ _ fun b u nb e => ?_)
  rw [Heap.get?_update_other _ _ (Nat.ne_of_gt (Heap.lt_size (Heap.get?_push_of_some _ ((Heap.get?_update_other _ _ (Ne.symm nb)).trans e))))]
  exact Heap.get?_push_of_some _ (Heap.get?_push_of_some _ ((Heap.get?_update_other _ _ (Ne.symm nb)).trans e))
end
end HotX
namespace Lk
open PySem PySem.Spec PyProof.Rows L2 L2H HotX
theorem turn_listH {P : Program} {w : World} {K : PySem.W.Frag} {tg : Expr} (a it : Addr) : TurnH P w K tg (Itl K a) [it] it (fun i h => h.IsListIter it a i) where
  mem := by simp
  obj := fun i h st b hb => by
    have e : b = it := by simpa using hb
    subst e
    obtain ⟨o, e, c, d⟩ := st
    exact ⟨o, e, fun v z => by rw [d] at z; cases z⟩
  keep := fun i h h' st k => st.at fun o e => k it (by simp) o e
  item := by
    intro X hP hw hK hc i pins s σ H E I hf st hg
    subst hP hw hK
    obtain ⟨xs, x, hq, hx⟩ := hg
    obtain ⟨its, rv, p, hz⟩ := I.list hq
    obtain ⟨u, hu, ru⟩ := rv.get hx
    obtain ⟨f0, f1, f2, f3, f4, f5⟩ := hf it (by simp)
    refine wpAny_pyNext_list_item st p.isList (x := u) (by simpa using hu) fun h' st' sb => ?_
    have I1 : Inv X pins σ H { s with heap := h' } := I.turned (t' := s.toks) (fun b o hb e => (sb.2 b hb).trans e) f0 f1 f3 f4 f5
    obtain ⟨o, e, c, d⟩ := id st'
    exact ⟨u, rfl, go_of (s := { s with heap := h' }) e c d (by decide) ⟨x, H, I1, ru, ⟨rfl, fun ys hy => by rw [I.list_inj hy hq]; exact hx⟩, st', fun b hb => (hf b hb).1⟩⟩
  done := by
    intro X hP hw hK hc i pins s σ H E I hf st hg
    subst hP hw hK
    obtain ⟨xs, hq, hx⟩ := hg
    obtain ⟨its, rv, p, hz⟩ := I.list hq
    obtain ⟨f0, f1, f2, f3, f4, f5⟩ := hf it (by simp)
    obtain ⟨x1, hot⟩ := hc.at I
    have hl := rv.length
    exact pyNext_list_end_hot hot st p.isList (by simp; omega) fun h' eb => ⟨rfl, I.turned (t' := s.toks) (fun b o hb e => eb b o hb e) f0 f1 f3 f4 f5⟩
  self := fun _ _ _ _ _ st h => wpAny_pyIter_listiter st h
theorem pi_listH {X : Cx} {tg l : Expr} {tl : TE} (hl : PE X l tl) : PIH X tg l (iList X.K tl) := by
  refine ⟨fun pins s σ H R I h => ?_⟩
  refine thn (hl.run pins s σ H _ I h) fun v s1 ⟨x, H1, I1, r1, q1⟩ => ?_
  obtain ⟨a, e, ⟨xs, hq⟩, q⟩ := q1
  subst e
  cases r1
  obtain ⟨its, rv, p, hz⟩ := I1.list hq
  refine wpAny_pyIter_list p.isList ?_
  refine ⟨s1.heap.objs.size, [s1.heap.objs.size], _, _, H1, rfl, I1.kept (t' := s1.toks) fun b o e => Heap.get?_push_of_some _ e, turn_listH a _, ⟨_, Heap.get?_push_size _ rfl, rfl, rfl⟩, fun b hb => ?_, q⟩
  have e : b = s1.heap.objs.size := by simpa using hb
  subst e
  exact I1.fpOk (Nat.le_refl _) (I1.hok.fresh (Nat.le_refl _))
end Lk
end
section
set_option maxRecDepth 100000
set_option maxHeartbeats 2000000
/-! A tuple is unpacked while an error is handled; a comprehension over a list of tuples there. -/
namespace HotX
open PySem PySem.Spec PyProof.Rows
section
variable {prog : Program} {w : World} {A : Around} {E : Value → Shared → Prop} {s : Shared}
theorem next_tuple_end_hot {it t x1 : Addr} {i : Nat} {items : Array Value} {Q : Option Value → Shared → Prop} (hot : HotAt A x1 s.heap)
    (hit : IsTupIter s.heap it t i) (hl : IsTup s.heap t items) (hx : items[i]? = none)
    (hQ : ∀ h', (∀ b o, b ≠ it → s.heap.get? b = some o → h'.get? b = some o) → Q none { s with heap := h' }) : wpAny (model prog w) A (pyNext (.ref it)) Q E s := by
  obtain ⟨o, ho, hc, hd⟩ := id hit
  obtain ⟨ol, hol, _, nl, hdl⟩ := hl
  obtain ⟨hh, o1, vs1, h1, d1, c1⟩ := hot
  have nx : x1 ≠ it := by
    intro e
    rw [e, ho] at h1
    cases h1
    rw [hd] at d1
    cases d1
    cases c1
  unfold pyNext
  refine wpAny_bind (wpAny_attempt (wpAny_callSpecial?_slot (name := Str.ofString "__next__") hit.typeIs slot_tupleiter_next
    (wpAny_call_entry slot_tupleiter_next hit.typeIs entry_tupleiter_next ?_ (args_tupleiter_next _))))
  show wpAny _ _ (field (.ref it) 0 >>= _) _ _ s
  refine wpAny_bind (wpAny_field ho hd (x := .ref t) rfl ?_)
  show wpAny _ _ (if (Value.ref t == Value.none) = true then _ else _) _ _ s
  rw [if_neg (show ¬ ((Value.ref t == Value.none) = true) from Bool.false_ne_true)]
  show wpAny _ _ (field (.ref it) 1 >>= _) _ _ s
  refine wpAny_bind (wpAny_field ho hd (x := .int i 0) rfl ?_)
  show wpAny _ _ (seqItems? (.ref t) >>= _) _ _ s
  refine wpAny_bind (wpAny_seqItems hol hdl ?_)
  simp only [Int.toNat_natCast, hx]
  refine wpAny_bind (wpAny_rule (wpAny_bind (wpAny_setField ho hd (by simp) ?_)))
  show wpAny _ _ (newExc (.type "StopIteration") [] >>= _) _ _ _
  refine wpAny_bind ?_
  simp only [newExc, newTuple]
  refine wpAny_bind (wpAny_newObj_type ?_ (by size_fits))
  refine wpAny_bind (m := firstArgMember _ _) (wpAny_of_eq (a := Value.none) (by first | rfl | (simp only [firstArgMember]; rfl)) ?_)
  refine wpAny_newObj_type ?_ (by size_fits)
  refine raiseNew_hot ⟨hh, o1, vs1, Heap.get?_push_of_some _ (Heap.get?_push_of_some _ ((Heap.get?_update_other _ _ nx.symm).trans h1)), d1, c1⟩ (Nat.ne_of_lt (Heap.lt_size (Heap.get?_push_of_some _ ((Heap.get?_update_other _ _ nx.symm).trans h1)))) (Heap.get?_push_size _ rfl) rfl (by first | (simp; done) | (simp; omega) | (simp only [Array.size_append]; simp; omega)) ?_
  refine wpAny_bind (wpAny_isInstance (T := "StopIteration") (b := true) ⟨_, Heap.get?_update_self _ (Heap.get?_push_size _ rfl) rfl, rfl⟩ isSubtype_stop ?_)
  refine wpAny_pure (hQ _ fun b u nb e => ?_)
  rw [Heap.get?_update_other _ _ (Nat.ne_of_gt (Heap.lt_size (Heap.get?_push_of_some _ ((Heap.get?_update_other _ _ (Ne.symm nb)).trans e))))]
  exact Heap.get?_push_of_some _ (Heap.get?_push_of_some _ ((Heap.get?_update_other _ _ (Ne.symm nb)).trans e))
theorem unpackItems_tuple_hot {t x1 : Addr} {items : Array Value} {Q : List Value → Shared → Prop} (hot : HotAt A x1 s.heap) (ht : IsTup s.heap t items)
    (hQ : ∀ h', Heap.ExtBut s.heap.objs.size s.heap h' → Q items.toList { s with heap := h' }) : wpAny (model prog w) A (unpackItems (.ref t) items.size none) Q E s := by
  have hlt : t ≠ s.heap.objs.size := by obtain ⟨o, ho, _⟩ := ht; exact Nat.ne_of_lt (Heap.lt_size ho)
  obtain ⟨hh, o1, vs1, h1, d1, c1⟩ := hot
  have hxl : x1 ≠ s.heap.objs.size := Nat.ne_of_lt (Heap.lt_size h1)
  unfold unpackItems
  refine wpAny_bind ?_
  unfold notIterableAtAll
  refine wpAny_bind (wpAny_specialOf ht.typeIs slot_tuple_iter.lookup ?_)
  refine wpAny_pure ?_
  simp only [Bool.false_eq_true, if_false]
  refine wpAny_bind (wpAny_holding (iter_tuple ht ?_))
  refine wpAny_bind (wpAny_holding (draw_tuple hlt items.size 0 _ _ ⟨_, Heap.get?_push_size _ rfl, rfl, rfl⟩ (ht.push _) (by omega) fun h₁ hit₁ hs₁ => ?_))
  have hall : List.take items.size (List.drop 0 items.toList) = items.toList := by
    rw [List.drop_zero]; exact List.take_of_length_le (by simp)
  rw [hall]
  rw [if_neg (by simp)]
  have ht₁ : IsTup h₁ t items := (ht.push _).extBut hs₁.extBut hlt
  refine wpAny_bind (wpAny_holding (next_tuple_end_hot (x1 := x1) ⟨hh, o1, vs1, hs₁.extBut x1 o1 hxl (Heap.get?_push_of_some _ h1), d1, c1⟩ hit₁ ht₁ (by simp) fun h₂ he₂ => ?_))
  simp only [Option.isSome_none, Bool.false_eq_true, if_false]
  refine wpAny_pure (hQ h₂ fun b o hb e => he₂ b o hb (hs₁.extBut b o hb (Heap.get?_push_of_some _ e)))
theorem assign_tuple_hot {env : Env} {elts : List Expr} {k} {pos : Pos} {t x1 : Addr} {items : Array Value} {Q : Unit → Shared → Prop} (hot : HotAt A x1 s.heap) (ht : IsTup s.heap t items)
    (hn : (assignEach elts env).length = items.size) (hstar : (assignEach elts env).findIdx? (·.1) = none)
    (h : ∀ h', Heap.ExtBut s.heap.objs.size s.heap h' → wpAny (model prog w) A (assignInOrder ((assignEach elts env).map (·.2)) items.toList) Q E { s with heap := h' }) :
    wpAny (model prog w) A (assign (.Tuple elts k pos) env (.ref t)) Q E s := by
  rw [assign_Tuple]
  refine wpAny_bind (wpAny_standAt ?_)
  unfold unpack
  rw [hn, hstar]
  exact wpAny_bind (wpAny_holding (unpackItems_tuple_hot hot ht h))
end
end HotX
namespace Lk
open PySem PySem.Spec PyProof.Rows L2 L2H HotX
section
variable {X : Cx} {pos : Pos}
theorem pg_tupH {es : List Expr} {k : Nat} {t : TGs} {n : Nat} {p : Addr × Obj} (hot : Hot1 X.A p) (hp : p ∈ X.pn) (h : PGs X es t)
    (hn : (assignEach es X.env).length = n := by rfl) (hst : (assignEach es X.env).findIdx? (·.1) = none := by rfl) : PG X (.Tuple es k pos) (gTup X.K n t) := by
  refine ⟨fun pins s σ H v u Q I r hw => ?_⟩
  obtain ⟨a, xs, e1, hq, hl, hw⟩ := hw
  subst e1
  cases r
  obtain ⟨its, rv, ht, hz⟩ := I.tuple hq
  obtain ⟨x1, hh⟩ := HotC.at ⟨p, hot, hp⟩ I
  refine assign_tuple_hot hh ht (by simp [hn, ← hl, rv.length]) hst fun h' hx => ?_
  have I1 : Inv X pins σ H { s with heap := h' } := I.kept (t' := s.toks) fun b o e => hx b o (Nat.ne_of_lt (Heap.lt_size e)) e
  exact h.run pins _ σ H xs _ Q I1 (by simpa using rv) hw
theorem lc_coreHP {pins : List (Addr × Obj)} {s : Shared} {σ : L2.St} {H : Hp} {Q : VK} {use : Option (Value → Sem Unit)} {Qf : Value → Shared → Prop} {pos2 : Pos} {elt tg iter : Expr} {ifs : List Expr} {scope : Scope} {own : List (Str × Nat)} {pos : Pos} {wi : TI} {g : TG} {tt : TT} {te : TE} {p : Addr × Obj} (hot : Hot1 X.A p) (hp : p ∈ X.pn) (nd : X.N.Nodup) (src : PIH X tg iter wi) (blk : BlkOk X.N X.env.scope scope own)
    (pg : ∀ (s : Shared) (H : Hp) (C : Addr) (cl : List (Str × Addr)) (fp : List Addr), PG (blkP X s H scope (compEnvC scope cl C X.env) fp p) tg g)
    (pt : ∀ (s : Shared) (H : Hp) (C : Addr) (cl : List (Str × Addr)) (fp : List Addr), PTs (X.blk s H scope (compEnvC scope cl C X.env) fp) ifs tt)
    (pe : ∀ (s : Shared) (H : Hp) (C : Addr) (cl : List (Str × Addr)) (fp : List Addr), PE (X.blk s H scope (compEnvC scope cl C X.env) fp) elt te) (plain : ∀ x, foldedSetIterable iter X.env x = pure x) (I : Inv X pins σ H s)
    (wish : tLc wi g tt te (own.map (·.2)) σ H Q)
    (hRR : ∀ D C s' m H', Inv X pins σ H' s' → Q (.ref D) H' → s'.heap.Ns C m → FpOk X pins H' C → compPost (model X.prog X.w) X.A X.xe use Qf (.ref D) C (.ok .next) s') :
    wpAny (model X.prog X.w) X.A (comprehension (.ListComp elt [⟨tg, iter, ifs, 0⟩] scope pos) scope X.env pos2 (newList []) false (eval iter X.env) use) Qf X.xe s := by
  have seen : ∀ y ∈ scope.names, y.2 = .free → ∃ c, X.env.cells.lookup y.1 = some c := fun y hy e => (blk.free y hy e).elim (fun z => I.ok.has _ (.inl z)) fun z => I.ok.has _ (.inr z)
  refine wpAny_comprehension_free (use := use) rfl plain (closure_ok seen) blk.kind (fun y hy e => by rw [blk.uniq y hy, e]) (thn (src.run pins s σ H _ I wish) fun v1 s1 z1 => thn z1 fun v2 s2 z2 => ?_)
  obtain ⟨it, fp, tn, J, H2, rfl, I2, T, at0, off, more⟩ := z2
  refine wpAny_newObj_type (newEnv_comp ?_) (by show 0 ≤ sizeLine; decide)
  obtain ⟨D, eD⟩ : ∃ D, s2.heap.objs.size = D := ⟨_, rfl⟩
  have freshD : H2 D = none := I2.hok.fresh (Nat.le_of_eq eD)
  obtain ⟨W, ⟨m0, w0⟩, turn⟩ := more D freshD
  obtain ⟨s3, e3⟩ : ∃ s3 : Shared, ({ s2 with heap := s2.heap.push { cls := .type "list", data := .seq ([] : List Value).toArray } } : Shared) = s3 := ⟨_, rfl⟩
  have h3 : s3.heap = s2.heap.push { cls := .type "list", data := .seq ([] : List Value).toArray } := by rw [← e3]
  have up3 : ∀ b o, s2.heap.get? b = some o → s3.heap.get? b = some o := fun b o e => by rw [h3]; exact Heap.get?_push_of_some _ e
  have I3 : Inv X pins σ (upd H2 D (.lst [])) s3 := by
    have z := I2.laid (a := D) (o := .lst []) (h' := s3.heap) (t' := s2.toks) up3 (Nat.le_of_eq eD) ⟨Nat.zero_le _, [], 0, .nil, by rw [h3, ← eD]; exact Heap.get?_push_size _ rfl⟩
    rw [← e3] at z ⊢
    exact z
  have small : ∀ b ∈ fp, b < s2.heap.objs.size := fun b hb => by
    obtain ⟨o, e, _⟩ := T.obj _ _ at0 b hb
    exact Heap.lt_size e
  have off3 : ∀ b ∈ fp, FpOk X pins (upd H2 D (.lst [])) b ∧ b < s3.heap.objs.size := fun b hb => by
    have lt := small b hb
    refine ⟨⟨?_, (off b hb).2⟩, ?_⟩
    · rw [upd_ne (by rw [← eD]; exact Nat.ne_of_lt lt)]
      exact (off b hb).1
    · rw [h3, Heap.size_push]
      exact Nat.lt_succ_of_lt lt
  have I4 := block_start I3 blk nd off3
  have g4 := pg s3 (upd H2 D (.lst [])) s3.heap.objs.size (cellsFrom (s3.heap.objs.size + 1) scope.names (cloFrom X.env.cells scope.names [])) fp
  have t4 := pt s3 (upd H2 D (.lst [])) s3.heap.objs.size (cellsFrom (s3.heap.objs.size + 1) scope.names (cloFrom X.env.cells scope.names [])) fp
  have e4 := pe s3 (upd H2 D (.lst [])) s3.heap.objs.size (cellsFrom (s3.heap.objs.size + 1) scope.names (cloFrom X.env.cells scope.names [])) fp
  rw [e3]
  show codeAny _ _ (.compStart (.ListComp elt [⟨tg, iter, ifs, 0⟩] scope pos) 0 (.ref it) (.ref s2.heap.objs.size) (compEnvC scope (cellsFrom (s3.heap.objs.size + 1) scope.names (cloFrom X.env.cells scope.names [])) s3.heap.objs.size X.env)) (compPost (model X.prog X.w) X.A X.xe use Qf (.ref s2.heap.objs.size) s3.heap.objs.size) { s3 with heap := pushCells (s3.heap.push { cls := .type "dict", data := .dict #[] }) scope.names }
  rw [eD]
  have noW : ∀ b ∈ fp, (upd H2 D (.lst [])) b = none := fun b hb => (off3 b hb).1.1
  have pinB : PinB X (upd H2 D (.lst [])) s3.heap fp (compEnvC scope (cellsFrom (s3.heap.objs.size + 1) scope.names (cloFrom X.env.cells scope.names [])) s3.heap.objs.size X.env) p := by
    have q := I3.pin p (List.mem_append_left _ hp)
    exact ⟨q.1, q.2.1, fun hm => (List.mem_cons.mp (I3.stkSub p.1 hm)).elim q.2.2.1 q.2.2.2.1, fun hm => (off3 p.1 hm).1.2.2.2.2.2 p (List.mem_append_left _ hp) rfl, Nat.ne_of_lt (Heap.lt_size q.1), q.2.2.2.2⟩
  obtain ⟨ce, ece⟩ : ∃ ce, compEnvC scope (cellsFrom (s3.heap.objs.size + 1) scope.names (cloFrom X.env.cells scope.names [])) s3.heap.objs.size X.env = ce := ⟨_, rfl⟩
  have cL : ce.locals = s3.heap.objs.size := by rw [← ece]; rfl
  rw [ece] at I4 g4 t4 e4 pinB ⊢
  generalize upd H2 D (.lst []) = HA at I3 I4 g4 t4 e4 w0 noW off3 pinB
  obtain ⟨s4, e5⟩ : ∃ s4 : Shared, ({ s3 with heap := pushCells (s3.heap.push { cls := .type "dict", data := .dict #[] }) scope.names } : Shared) = s4 := ⟨_, rfl⟩
  rw [e5] at I4 ⊢
  have at4 : tn 0 s4.heap := T.keep _ _ _ at0 fun b _ o e => by rw [← e5]; exact pushCells_keeps _ _ _ _ (Heap.get?_push_of_some _ (up3 b o e))
  have hotB : ∀ {s' : Shared} {H' : Hp} {ps : List (Addr × Obj)} {τ : L2.St}, Inv (blkP X s3 HA scope ce fp p) ps τ H' s' → HotC (blkP X s3 HA scope ce fp p) := fun _ => ⟨p, hot, List.mem_singleton.mpr rfl⟩
  have offB : ∀ {τ : L2.St} {H' : Hp} {s' : Shared}, Inv (blkP X s3 HA scope ce fp p) [] τ H' s' → (∀ b ∈ fp, H' b = none) → ∀ b ∈ fp, FpOk (blkP X s3 HA scope ce fp p) [] H' b := fun {τ H' s'} J' hn b hb =>
    ⟨hn b hb, (J'.ok.exf b hb).1, J'.ok.exfs b hb, .inl hb, fun x c e => (J'.ok.exf b hb).2 x c e, fun q hq z => pinB.nfp (by
      have hq2 : q ∈ [p] := by simpa using hq
      rw [List.mem_singleton.mp hq2] at z
      rw [z]
      exact hb)⟩
  have loop : codeAny (model X.prog X.w) X.A (.compLoop (.ListComp elt [⟨tg, iter, ifs, 0⟩] scope pos) 0 (.ref it) (.ref D) ce) (compPost (model X.prog X.w) X.A X.xe use Qf (.ref D) s3.heap.objs.size) s4 := by
    refine compLoop_any (fun n s' => ∃ i H', Inv (X.blk s3 HA scope ce fp) [] (wipe σ (own.map (·.2))) H' s' ∧ tn i s'.heap ∧ (∀ b ∈ fp, H' b = none) ∧ W i n H') ?_ m0 ⟨0, HA, I4, at4, noW, w0⟩
    rintro n s5 ⟨i, H5, I5, at5, no5, w5⟩
    have I5p := to_pin pinB I5
    rcases turn i n H5 w5 with ⟨stop, done⟩ | ⟨go, Nx, fall, step⟩
    · refine thnF (T.done (blkP X s3 HA scope ce fp p) rfl rfl rfl (hotB I5p) i [] s5 _ H5 (fun _ _ => False) I5p (offB I5p no5) at5 stop) fun r s6 ⟨hr, I6p⟩ => ?_
      subst hr
      have I6 := from_pin I6p
      have I7 : Inv X pins σ H5 s6 := I3.call' (ch := fp) I6.os I6.base I6.hok I6.bare fun b hb => by
        have q := (off3 b hb).1
        exact ⟨q.2.2.2.1, q.2.1, q.2.2.2.2.1, q.2.2.2.2.2⟩
      have nC : H5 s3.heap.objs.size = none := by
        have z : H5 ce.locals = none := I6.free
        rw [← cL]
        exact z
      obtain ⟨m, hn, _⟩ := I6.loc
      have hn2 : s6.heap.Ns s3.heap.objs.size m := by
        have z : s6.heap.Ns ce.locals m := hn
        rw [← cL]
        exact z
      exact hRR D s3.heap.objs.size s6 m H5 I7 done hn2 (I3.fpOk (Nat.le_refl _) nC)
    · refine thnF (T.item (blkP X s3 HA scope ce fp p) rfl rfl rfl (hotB I5p) i [] s5 _ H5 (fun _ _ => False) I5p (offB I5p no5) at5 go) fun r s6 ⟨u, hr, z6⟩ => ?_
      subst hr
      refine thnF z6 fun _ s7 ⟨x, H7, I7p, r7, y7, at7, no7⟩ => ?_
      have I7 := from_pin I7p
      have offA : ∀ b ∈ fp, FpOk (X.blk s3 HA scope ce fp) [] H7 b := fun b hb => ⟨no7 b hb, (I7.ok.exf b hb).1, I7.ok.exfs b hb, .inl hb, fun x c e => (I7.ok.exf b hb).2 x c e, fun q hq => absurd (show q ∈ ([] : List (Addr × Obj)) ++ [] from hq) (by simp)⟩
      have I7q := I7.pinned offA (T.obj _ _ at7)
      refine thnF (g4.run _ s7 _ H7 x u _ (to_pin pinB I7q) r7 (step x H7 y7)) fun _ s8 ⟨τ, H8, I8p, same8, q8⟩ => ?_
      have I8 := from_pin I8p
      refine thnF (t4.run _ s8 τ H8 _ I8 q8) fun yes s9 ⟨H9, I9, q9⟩ => ?_
      have next : ∀ {s' : Shared} {H' : Hp}, Inv (X.blk s3 HA scope ce fp) ([] ++ pinsAt fp s7.heap) τ H' s' → Nx H' → ∃ m, m < n ∧ ∃ i H', Inv (X.blk s3 HA scope ce fp) [] (wipe σ (own.map (·.2))) H' s' ∧ tn i s'.heap ∧ (∀ b ∈ fp, H' b = none) ∧ W i m H' := fun {s' H'} J' nx => by
        obtain ⟨m2, lt, w2⟩ := fall H' nx
        have keep7 : ∀ b ∈ fp, ∀ o, s7.heap.get? b = some o → s'.heap.get? b = some o ∧ H' b = none := fun b hb o e => by
          have z := J'.pin (b, o) (List.mem_append_right _ (List.mem_append_right _ (mem_pinsAt hb e)))
          exact ⟨z.1, z.2.1⟩
        refine ⟨m2, lt, i + 1, H', (J'.unpinned (pins := [])).weak (by rw [← same8, wipe_length]) (fun j v e => ?_), T.keep _ _ _ at7 fun b hb o e => (keep7 b hb o e).1, fun b hb => ?_, w2⟩
        · rw [← same8] at e
          exact (wipe_some e).1
        · obtain ⟨o, e, _⟩ := T.obj _ _ at7 b hb
          exact (keep7 b hb o e).2
      cases yes with
      | false => exact next I9 q9
      | true => exact thnF (e4.run _ s9 τ H9 _ I9 q9) fun z s10 ⟨yv, H10, I10, r10, acc, a1, a2, nx⟩ => app_ok (X := X.blk s3 HA scope ce fp) I10 a1 a2 r10 fun s11 I11 => next I11 nx
  exact codeAny_compStart_list loop (T.self X.A 0 _ _ _ at4 loop)
theorem pe_lcHP {elt tg iter : Expr} {ifs : List Expr} {scope : Scope} {own : List (Str × Nat)} {pos : Pos} {wi : TI} {g : TG} {tt : TT} {te : TE} {p : Addr × Obj} (hot : Hot1 X.A p) (hp : p ∈ X.pn) (nd : X.N.Nodup) (src : PIH X tg iter wi) (blk : BlkOk X.N X.env.scope scope own)
    (pg : ∀ (s : Shared) (H : Hp) (C : Addr) (cl : List (Str × Addr)) (fp : List Addr), PG (blkP X s H scope (compEnvC scope cl C X.env) fp p) tg g)
    (pt : ∀ (s : Shared) (H : Hp) (C : Addr) (cl : List (Str × Addr)) (fp : List Addr), PTs (X.blk s H scope (compEnvC scope cl C X.env) fp) ifs tt)
    (pe : ∀ (s : Shared) (H : Hp) (C : Addr) (cl : List (Str × Addr)) (fp : List Addr), PE (X.blk s H scope (compEnvC scope cl C X.env) fp) elt te) (plain : ∀ x, foldedSetIterable iter X.env x = pure x := by intro _; rfl) :
    PE X (.ListComp elt [⟨tg, iter, ifs, 0⟩] scope pos) (tLc wi g tt te (own.map (·.2))) := by
  refine ⟨fun pins s σ H Q I wish => ?_⟩
  rw [eval_ListComp]
  refine lc_coreHP hot hp nd src blk pg pt pe plain I wish fun D C s' m H' I' q hn f => ⟨m, hn, fun h'' sb => ?_⟩
  obtain ⟨f0, f1, f2, f3, f4, f5⟩ := f
  exact ⟨.ref D, H', I'.turned (t' := s'.toks) (fun b o hb e => (sb.2 b hb).trans e) f0 f1 f3 f4 f5, rfl, q⟩
/-- name = [..] on one line, the name a local -/
theorem ps_setLcHP {i : Nat} {y : Str} {py spos : Pos} {elt tg iter : Expr} {ifs : List Expr} {scope : Scope} {own : List (Str × Nat)} {pos : Pos} {wi : TI} {g : TG} {tt : TT} {te : TE} {p : Addr × Obj} (hot : Hot1 X.A p) (hp : p ∈ X.pn) (nd : X.N.Nodup) (hy : X.N[i]? = some y) (hyl : X.env.scope.names.lookup y = some .local)
    (hsw : swapsWith (.ListComp elt [⟨tg, iter, ifs, 0⟩] scope pos) (some (.Name y py)) spos.line X.env = pure true) (src : PIH X tg iter wi) (blk : BlkOk X.N X.env.scope scope own)
    (pg : ∀ (s : Shared) (H : Hp) (C : Addr) (cl : List (Str × Addr)) (fp : List Addr), PG (blkP X s H scope (compEnvC scope cl C X.env) fp p) tg g)
    (pt : ∀ (s : Shared) (H : Hp) (C : Addr) (cl : List (Str × Addr)) (fp : List Addr), PTs (X.blk s H scope (compEnvC scope cl C X.env) fp) ifs tt)
    (pe : ∀ (s : Shared) (H : Hp) (C : Addr) (cl : List (Str × Addr)) (fp : List Addr), PE (X.blk s H scope (compEnvC scope cl C X.env) fp) elt te) (plain : ∀ x, foldedSetIterable iter X.env x = pure x := by intro _; rfl) :
    PS X (.Assign [.Name y py] (.ListComp elt [⟨tg, iter, ifs, 0⟩] scope pos) spos) (tAsg (tLc wi g tt te (own.map (·.2))) (gName i)) := by
  refine ⟨fun pins s σ H D I h => ?_⟩
  rw [exec_Assign_Name_used _ _ _ _ hsw]
  refine wpAny_bind (wpAny_standAt (wpAny_bind ?_))
  show wpAny _ X.A (do let _ ← comprehension (.ListComp elt [⟨tg, iter, ifs, 0⟩] scope pos) scope X.env (firstIterPos [⟨tg, iter, ifs, 0⟩] pos) (newList []) false (eval iter X.env) (some (assign (.Name y py) X.env))) _ _ s
  have h : tLc wi g tt te (own.map (·.2)) σ H (fun x H1 => gName i x σ H1 D.nx) := h
  refine wpAny_bind (thn (lc_coreHP (Qf := fun _ s' => SP X pins D .next s') hot hp nd src blk pg pt pe plain I h fun L C s' m H' I' q hn f => ?_) fun _ s' hq => wpAny_pure (wpAny_pure hq))
  show wpAny _ _ (assign (.Name y py) X.env (.ref L)) _ _ _
  refine wpAny_assign_Name (store_ok2 (v := V.ref L) I' nd hy (.inl hyl) rfl (fun s2 I2 ⟨a, sb, ha⟩ => ?_) (.inr hyl))
  obtain ⟨f0, f1, f2, f3, f4, f5⟩ := f
  have haC : C ≠ a := by
    rcases ha with z | z
    · rw [z]; exact f1
    · exact fun e => f4 y a z e.symm
  refine ⟨m, hn.sameBut sb haC, fun h3 sb3 => ?_⟩
  exact ⟨_, H', I2.turned (t' := s2.toks) (fun b o hb e => (sb3.2 b hb).trans e) f0 f1 f3 f4 f5, q⟩
end
end Lk
end
section
set_option maxRecDepth 100000
set_option maxHeartbeats 4000000
/-! The law's _law_kind: what kind of error is handled, in a word. -/
namespace Lk
open PySem PySem.Spec PyProof.Rows L2 L2H HotX
theorem pe_isY {X : Cx} {x y : Str} {b : Bool} {D : Addr} {pe : Addr × Obj} {p p1 p2 pos : Pos} (hp : pe ∈ X.pn) (hz : Zc (.ref D) none pe.2) (hf : ∃ vs, pe.2.data = .fields vs) (C : ExcC X.K D) (B : IsB X.K X.mg D x b) (mi : X.mg "isinstance" = none) (hi : Gl X "isinstance") (hg : Gl X x)
    (hN : X.N[0]? = some y) (hv : Vis X.env.scope y) (hd : (x == ("__debug__" : Str)) = false := by decide) (hd1 : (y == ("__debug__" : Str)) = false := by decide) (hc1 : (y == ("__classdict__" : Str)) = false := by decide)
    (hs1 : starEach [Expr.Name y p1, Expr.Name x p2] X.env = (false, eval (.Name y p1) X.env) :: starEach [Expr.Name x p2] X.env := by rfl) (hs2 : starEach [Expr.Name x p2] X.env = (false, eval (.Name x p2) X.env) :: starEach [] X.env := by rfl) :
    PE X (.Call (.Name "isinstance" p) [.Name y p1, .Name x p2] [] pos) (fun σ H Q => σ[0]? = some (some (.ref pe.1)) ∧ Q (.bl b) H) := by
  obtain ⟨c, g, k⟩ := B
  have h : PE X (.Call (.Name "isinstance" p) [.Name y p1, .Name x p2] [] pos) _ := pe_callB (call_isP hp) hi mi (by decide +kernel) (pa_cons (pv 0 hN hv (hd := hd1) (hcd := hc1)) (pa_cons (pe_glob (v := .ref c) hg g rfl hd) pa_nil))
  exact ⟨fun pins s σ H Q I q => h.run pins s σ H Q I ⟨.ref pe.1, q.1, D, .ref c, _, b, rfl, C, hz, hf, .own c, k, q.2⟩⟩
def kws : List Str := ["known", "text", "pairs", "loop", "coder", "count", "round", "tree", "sign", "like", "place", "counts", "word", "nothing", "log", "row"]
def kindW (nm : Str) : Str := match (ernL.zip kws).lookup nm with
  | some x => x
  | none => "odd"
/-- .. that word is told -/
def toldK (nm : Str) (Q : VK) (H : Hp) : Prop := ∀ H', Same H H' → Q (.str (kindW nm)) H'
def kbit (nm : Str) (j : Nat) : Bool := match ernL[j]? with
  | some x => decide (x = nm)
  | none => false
def kwd (j : Nat) : Str := kws[j]?.getD "odd"
def kds (nm : Str) : List PyData := [.tuple [.str "known", .bool (decide (("NoKnown" : Str) = nm))], .tuple [.str "text", .bool (decide (("NoText" : Str) = nm))], .tuple [.str "pairs", .bool (decide (("NoPairs" : Str) = nm))], .tuple [.str "loop", .bool (decide (("NoLoop" : Str) = nm))], .tuple [.str "coder", .bool (decide (("NoCoder" : Str) = nm))], .tuple [.str "count", .bool (decide (("NoCount" : Str) = nm))], .tuple [.str "round", .bool (decide (("NotRound" : Str) = nm))], .tuple [.str "tree", .bool (decide (("NoTree" : Str) = nm))], .tuple [.str "sign", .bool (decide (("NoSign" : Str) = nm))], .tuple [.str "like", .bool (decide (("NotLike" : Str) = nm))], .tuple [.str "place", .bool (decide (("NoPlace" : Str) = nm))], .tuple [.str "counts", .bool (decide (("NoCounts" : Str) = nm))], .tuple [.str "word", .bool (decide (("NoWord" : Str) = nm))], .tuple [.str "nothing", .bool (decide (("Nothing" : Str) = nm))], .tuple [.str "log", .bool (decide (("NoLog" : Str) = nm))], .tuple [.str "row", .bool (decide (("NoRow" : Str) = nm))]]
def kgot (nm : Str) (i : Nat) : List V := ((List.range i).filter (kbit nm)).map fun j => V.str (kwd j)
theorem kgot_all {nm : Str} (h : nm ∈ ernL) : kgot nm 16 = [.str (kindW nm)] := by
  have z : ∀ x ∈ ernL, kgot x 16 = [.str (kindW x)] := by decide +kernel
  exact z nm h
theorem kgot_no {nm : Str} {j : Nat} (h : kbit nm j = false) : kgot nm (j + 1) = kgot nm j := by
  unfold kgot
  rw [List.range_succ, List.filter_append, List.filter_cons, h]
  simp
theorem kgot_yes {nm : Str} {j : Nat} (h : kbit nm j = true) : kgot nm (j + 1) = kgot nm j ++ [V.str (kwd j)] := by
  unfold kgot
  rw [List.range_succ, List.filter_append, List.filter_cons, h]
  simp
theorem kgot_len {nm : Str} {j : Nat} : (kgot nm j).length ≤ j := by
  unfold kgot
  rw [List.length_map]
  exact Nat.le_trans (List.length_filter_le _ _) (by rw [List.length_range]; exact Nat.le_refl _)
theorem kds_at {nm : Str} : ∀ {j : Nat}, j < 16 → (kds nm)[j]? = some (.tuple [.str (kwd j), .bool (kbit nm j)])
  | 0, _ => rfl
  | 1, _ => rfl
  | 2, _ => rfl
  | 3, _ => rfl
  | 4, _ => rfl
  | 5, _ => rfl
  | 6, _ => rfl
  | 7, _ => rfl
  | 8, _ => rfl
  | 9, _ => rfl
  | 10, _ => rfl
  | 11, _ => rfl
  | 12, _ => rfl
  | 13, _ => rfl
  | 14, _ => rfl
  | 15, _ => rfl
  | n + 16, h => absurd h (by omega)
theorem ktwo {H : Hp} {a b : Addr} {w v : Str} {p q : Bool} (e1 : H a = some (.tup [.str w, .bl p])) (e2 : H b = some (.tup [.str v, .bl q])) : ThAll H [.ref a, .ref b] [.tuple [.str w, .bool p], .tuple [.str v, .bool q]] :=
  .cons (.tup e1 (.cons (.str _) (.cons (.bl _) .nil))) (.cons (.tup e2 (.cons (.str _) (.cons (.bl _) .nil))) .nil)
theorem kstep {H H2 : Hp} {A1 A2 : Addr} {u v : List V} (a1 : H A1 = none) (a2 : upd H A1 (.tup u) A2 = none) (s2 : Same (upd (upd H A1 (.tup u)) A2 (.tup v)) H2) : Same H H2 ∧ H2 A1 = some (.tup u) ∧ H2 A2 = some (.tup v) :=
  ⟨Same.trans (same_new a1) (Same.trans (same_new a2) s2), s2 _ _ (same_new a2 _ _ upd_same), s2 _ _ upd_same⟩
theorem kpair {H : Hp} {v : V} {w : Str} {b : Bool} (h : Th H v (.tuple [.str w, .bool b])) : ∃ a, v = .ref a ∧ H a = some (.tup [.str w, .bl b]) := by
  cases h with
  | tup e m =>
    cases m with
    | cons h1 m1 =>
      cases h1
      cases m1 with
      | cons h2 m2 =>
        cases h2
        cases m2
        exact ⟨_, rfl, e⟩
section
variable {P : Program} {w : World} {K : PySem.W.Frag} {mg : Str → Option Value} {base : Heap}
abbrev nKd : List Str := ["caught", "some", "found", "word", "so"]
theorem sc_kindE : FnScope nKd ["caught"] (defScope s_law_kind) := ⟨rfl, rfl, rfl, by decide +kernel, rfl, by decide +kernel, by decide +kernel⟩
theorem ok_kindE {f D : Addr} {fd : FuncData} {nm : Str} (F : Fun K "_law_kind" "_law_kind" s_law_kind f fd) (hnm : nm ∈ ernL) (T : Errs16 K mg D nm) (ml : mg "len" = none) : FnE P w K mg base 1 f fd "caught" D (toldK nm) := by
  refine fnE_of F sc_kindE (fun cdv A outer s H Q p hot hz hr q => ?_)
  have nd := sc_kindE.nd
  have hp : p ∈ (cxH C8.CX0 P w K mg base nKd "_law_kind" (defScope s_law_kind) f cdv A outer s H C8.E0 p).pn := List.mem_singleton.mpr rfl
  have hf : ∃ vs, p.2.data = .fields vs := by
    obtain ⟨_, vs, e, _⟩ := hot
    exact ⟨vs, e⟩
  have hotX : Hot1 (cxH C8.CX0 P w K mg base nKd "_law_kind" (defScope s_law_kind) f cdv A outer s H C8.E0 p).A p := hot
  refine ⟨_, (pss_cons (by exact (ps_set (i := 1) nd rfl (Or.inl rfl) (pe_lstS (pa_cons (pe_tupS (pa_cons pe_str (pa_cons (pe_isY hp hz hf T.C (T.e "NoKnown" (by decide)) T.iso rfl rfl rfl (.inl rfl)) pa_nil))) (pa_cons (pe_tupS (pa_cons pe_str (pa_cons (pe_isY hp hz hf T.C (T.e "NoText" (by decide)) T.iso rfl rfl rfl (.inl rfl)) pa_nil))) pa_nil)))))
      (pss_cons (by exact (ps_set (i := 1) nd rfl (Or.inl rfl) (pe_op op_catS (pv 1) (pe_lstS (pa_cons (pe_tupS (pa_cons pe_str (pa_cons (pe_isY hp hz hf T.C (T.e "NoPairs" (by decide)) T.iso rfl rfl rfl (.inl rfl)) pa_nil))) (pa_cons (pe_tupS (pa_cons pe_str (pa_cons (pe_isY hp hz hf T.C (T.e "NoLoop" (by decide)) T.iso rfl rfl rfl (.inl rfl)) pa_nil))) pa_nil))))))
      (pss_cons (by exact (ps_set (i := 1) nd rfl (Or.inl rfl) (pe_op op_catS (pv 1) (pe_lstS (pa_cons (pe_tupS (pa_cons pe_str (pa_cons (pe_isY hp hz hf T.C (T.e "NoCoder" (by decide)) T.iso rfl rfl rfl (.inl rfl)) pa_nil))) (pa_cons (pe_tupS (pa_cons pe_str (pa_cons (pe_isY hp hz hf T.C (T.e "NoCount" (by decide)) T.iso rfl rfl rfl (.inl rfl)) pa_nil))) pa_nil))))))
      (pss_cons (by exact (ps_set (i := 1) nd rfl (Or.inl rfl) (pe_op op_catS (pv 1) (pe_lstS (pa_cons (pe_tupS (pa_cons pe_str (pa_cons (pe_isY hp hz hf T.C (T.e "NotRound" (by decide)) T.iso rfl rfl rfl (.inl rfl)) pa_nil))) (pa_cons (pe_tupS (pa_cons pe_str (pa_cons (pe_isY hp hz hf T.C (T.e "NoTree" (by decide)) T.iso rfl rfl rfl (.inl rfl)) pa_nil))) pa_nil))))))
      (pss_cons (by exact (ps_set (i := 1) nd rfl (Or.inl rfl) (pe_op op_catS (pv 1) (pe_lstS (pa_cons (pe_tupS (pa_cons pe_str (pa_cons (pe_isY hp hz hf T.C (T.e "NoSign" (by decide)) T.iso rfl rfl rfl (.inl rfl)) pa_nil))) (pa_cons (pe_tupS (pa_cons pe_str (pa_cons (pe_isY hp hz hf T.C (T.e "NotLike" (by decide)) T.iso rfl rfl rfl (.inl rfl)) pa_nil))) pa_nil))))))
      (pss_cons (by exact (ps_set (i := 1) nd rfl (Or.inl rfl) (pe_op op_catS (pv 1) (pe_lstS (pa_cons (pe_tupS (pa_cons pe_str (pa_cons (pe_isY hp hz hf T.C (T.e "NoPlace" (by decide)) T.iso rfl rfl rfl (.inl rfl)) pa_nil))) (pa_cons (pe_tupS (pa_cons pe_str (pa_cons (pe_isY hp hz hf T.C (T.e "NoCounts" (by decide)) T.iso rfl rfl rfl (.inl rfl)) pa_nil))) pa_nil))))))
      (pss_cons (by exact (ps_set (i := 1) nd rfl (Or.inl rfl) (pe_op op_catS (pv 1) (pe_lstS (pa_cons (pe_tupS (pa_cons pe_str (pa_cons (pe_isY hp hz hf T.C (T.e "NoWord" (by decide)) T.iso rfl rfl rfl (.inl rfl)) pa_nil))) (pa_cons (pe_tupS (pa_cons pe_str (pa_cons (pe_isY hp hz hf T.C (T.e "Nothing" (by decide)) T.iso rfl rfl rfl (.inl rfl)) pa_nil))) pa_nil))))))
      (pss_cons (by exact (ps_set (i := 1) nd rfl (Or.inl rfl) (pe_op op_catS (pv 1) (pe_lstS (pa_cons (pe_tupS (pa_cons pe_str (pa_cons (pe_isY hp hz hf T.C (T.e "NoLog" (by decide)) T.iso rfl rfl rfl (.inl rfl)) pa_nil))) (pa_cons (pe_tupS (pa_cons pe_str (pa_cons (pe_isY hp hz hf T.C (T.e "NoRow" (by decide)) T.iso rfl rfl rfl (.inl rfl)) pa_nil))) pa_nil))))))
      (pss_cons (by exact (ps_setLcHP (i := 2) (own := [("word", 3), ("so", 4)]) (g := (gTup K 2 (gCons (gName 3) (gCons (gName 4) gNil)))) hotX hp nd rfl rfl (sw_true rfl rfl rfl (by decide +kernel)) (pi_listH (pv 1)) (blkOk_by (N := nKd) (sc := defScope s_law_kind) (by decide +kernel)) (fun _ _ _ _ _ => (pg_tupH (hotX) (List.mem_singleton.mpr rfl) (pgs_cons (pg_name (i := 3) nd rfl (Or.inl rfl)) (pgs_cons (pg_name (i := 4) nd rfl (Or.inl rfl)) pgs_nil)))) (fun _ _ _ _ _ => pts_one (pt_val (pv 4))) (fun _ _ _ _ _ => (pv 3))))
      (pss_one (by exact (ps_ret (pe_ifExp (PW.pt (pw_and (pt_cmpR op_eq (pe_callB call_len_seq (by rfl) ml PySem.boot_len (pa_cons (pv 2) pa_nil)) pe_int (nomark _)) (pw_and1 (pt_val (pe_callB (call_isP hp) (by rfl) T.iso (by decide +kernel) (pa_cons (pv 0) (pa_cons (pe_bltn (v := .ty "ValueError") (by rfl) T.ve (by decide +kernel) rfl) pa_nil))))))) (pe_ix ix_list (pv 2) pe_int (fun _ _ => rfl)) pe_str))))))))))))), ?_⟩
  have l2 : 2 ≤ sizeLine := by decide
  refine ⟨rfl, l2, fun A1 J1 a1 p1 q1 => ⟨rfl, l2, fun B1 J2 b1 u1 v1 => ⟨l2, fun S1 H1 n1 s1 e1 => ?_⟩⟩⟩
  have z1 : Same H H1 := Same.trans p1 (Same.trans u1 s1)
  have T1 := ktwo (s1 _ _ (u1 _ _ q1)) (s1 _ _ v1)
  refine ⟨_, rfl, rfl, l2, fun A2 J2 a2 p2 q2 => ⟨rfl, l2, fun B2 G2 b2 u2 v2 => ⟨l2, fun L2 F2 m2 r2 f2 => ?_⟩⟩⟩
  have y2 := Same.trans p2 (Same.trans u2 r2)
  refine ⟨S1, L2, _, _, rfl, rfl, y2 _ _ e1, f2, (by show 2 + 2 ≤ sizeLine; decide), fun S2 H2 n2 s2 e2 => ?_⟩
  have z2 : Same H H2 := Same.trans z1 (Same.trans y2 s2)
  have T2 := ThAll.append (ThAll.same (Same.trans y2 s2) _ T1) (ktwo (s2 _ _ (r2 _ _ (u2 _ _ q2))) (s2 _ _ (r2 _ _ v2)))
  refine ⟨_, rfl, rfl, l2, fun A3 J3 a3 p3 q3 => ⟨rfl, l2, fun B3 G3 b3 u3 v3 => ⟨l2, fun L3 F3 m3 r3 f3 => ?_⟩⟩⟩
  have y3 := Same.trans p3 (Same.trans u3 r3)
  refine ⟨S2, L3, _, _, rfl, rfl, y3 _ _ e2, f3, (by show 4 + 2 ≤ sizeLine; decide), fun S3 H3 n3 s3 e3 => ?_⟩
  have z3 : Same H H3 := Same.trans z2 (Same.trans y3 s3)
  have T3 := ThAll.append (ThAll.same (Same.trans y3 s3) _ T2) (ktwo (s3 _ _ (r3 _ _ (u3 _ _ q3))) (s3 _ _ (r3 _ _ v3)))
  refine ⟨_, rfl, rfl, l2, fun A4 J4 a4 p4 q4 => ⟨rfl, l2, fun B4 G4 b4 u4 v4 => ⟨l2, fun L4 F4 m4 r4 f4 => ?_⟩⟩⟩
  have y4 := Same.trans p4 (Same.trans u4 r4)
  refine ⟨S3, L4, _, _, rfl, rfl, y4 _ _ e3, f4, (by show 6 + 2 ≤ sizeLine; decide), fun S4 H4 n4 s4 e4 => ?_⟩
  have z4 : Same H H4 := Same.trans z3 (Same.trans y4 s4)
  have T4 := ThAll.append (ThAll.same (Same.trans y4 s4) _ T3) (ktwo (s4 _ _ (r4 _ _ (u4 _ _ q4))) (s4 _ _ (r4 _ _ v4)))
  refine ⟨_, rfl, rfl, l2, fun A5 J5 a5 p5 q5 => ⟨rfl, l2, fun B5 G5 b5 u5 v5 => ⟨l2, fun L5 F5 m5 r5 f5 => ?_⟩⟩⟩
  have y5 := Same.trans p5 (Same.trans u5 r5)
  refine ⟨S4, L5, _, _, rfl, rfl, y5 _ _ e4, f5, (by show 8 + 2 ≤ sizeLine; decide), fun S5 H5 n5 s5 e5 => ?_⟩
  have z5 : Same H H5 := Same.trans z4 (Same.trans y5 s5)
  have T5 := ThAll.append (ThAll.same (Same.trans y5 s5) _ T4) (ktwo (s5 _ _ (r5 _ _ (u5 _ _ q5))) (s5 _ _ (r5 _ _ v5)))
  refine ⟨_, rfl, rfl, l2, fun A6 J6 a6 p6 q6 => ⟨rfl, l2, fun B6 G6 b6 u6 v6 => ⟨l2, fun L6 F6 m6 r6 f6 => ?_⟩⟩⟩
  have y6 := Same.trans p6 (Same.trans u6 r6)
  refine ⟨S5, L6, _, _, rfl, rfl, y6 _ _ e5, f6, (by show 10 + 2 ≤ sizeLine; decide), fun S6 H6 n6 s6 e6 => ?_⟩
  have z6 : Same H H6 := Same.trans z5 (Same.trans y6 s6)
  have T6 := ThAll.append (ThAll.same (Same.trans y6 s6) _ T5) (ktwo (s6 _ _ (r6 _ _ (u6 _ _ q6))) (s6 _ _ (r6 _ _ v6)))
  refine ⟨_, rfl, rfl, l2, fun A7 J7 a7 p7 q7 => ⟨rfl, l2, fun B7 G7 b7 u7 v7 => ⟨l2, fun L7 F7 m7 r7 f7 => ?_⟩⟩⟩
  have y7 := Same.trans p7 (Same.trans u7 r7)
  refine ⟨S6, L7, _, _, rfl, rfl, y7 _ _ e6, f7, (by show 12 + 2 ≤ sizeLine; decide), fun S7 H7 n7 s7 e7 => ?_⟩
  have z7 : Same H H7 := Same.trans z6 (Same.trans y7 s7)
  have T7 := ThAll.append (ThAll.same (Same.trans y7 s7) _ T6) (ktwo (s7 _ _ (r7 _ _ (u7 _ _ q7))) (s7 _ _ (r7 _ _ v7)))
  refine ⟨_, rfl, rfl, l2, fun A8 J8 a8 p8 q8 => ⟨rfl, l2, fun B8 G8 b8 u8 v8 => ⟨l2, fun L8 F8 m8 r8 f8 => ?_⟩⟩⟩
  have y8 := Same.trans p8 (Same.trans u8 r8)
  refine ⟨S7, L8, _, _, rfl, rfl, y8 _ _ e7, f8, (by show 14 + 2 ≤ sizeLine; decide), fun S8 H8 n8 s8 e8 => ?_⟩
  have z8 : Same H H8 := Same.trans z7 (Same.trans y8 s8)
  have T8 := ThAll.append (ThAll.same (Same.trans y8 s8) _ T7) (ktwo (s8 _ _ (r8 _ _ (u8 _ _ q8))) (s8 _ _ (r8 _ _ v8)))
  refine ⟨_, rfl, S8, rfl, ⟨_, SqL.of e8⟩, fun RR nR => ?_⟩
  refine lc_it walk_list (fun i H' => Same H8 H' ∧ H' RR = some (.lst (kgot nm i))) ⟨same_new nR, upd_same⟩ (fun i H' _ hh => SqL.of (hh.1 _ _ e8)) ?_ ?_
  · rintro j x R1 R2 hj ⟨t1, t2⟩ ⟨rfl, hx⟩
    have hj16 : j < 16 := hj
    obtain ⟨d, hd, hth⟩ := ThAll.get T8 hx
    have hd2 : (kds nm)[j]? = some d := hd
    rw [kds_at hj16] at hd2
    cases hd2
    obtain ⟨a, rfl, ea⟩ := kpair hth
    refine ⟨a, _, rfl, SqT.of (t1 _ _ ea), rfl, _, _, rfl, _, _, rfl, rfl, rfl, _, rfl, kbit nm j, rfl, ?_⟩
    cases eb : kbit nm j with
    | false => exact ⟨t1, by rw [t2, kgot_no eb]⟩
    | true => exact ⟨_, rfl, _, t2, Nat.lt_of_le_of_lt kgot_len (Nat.lt_trans hj16 (by decide)), same_push t1 nR, by rw [upd_same, kgot_yes eb]⟩
  · rintro R1 ⟨t1, t2⟩
    have t3 : R1 RR = some (.lst [.str (kindW nm)]) := t2.trans (congrArg (fun l => some (HO.lst l)) (kgot_all hnm))
    refine ⟨_, rfl, RR, _, rfl, .inl (SqL.of t3), rfl, _, rfl, ?_⟩
    refine ⟨_, rfl, D, .ty "ValueError", _, _, rfl, T.C, hz, hf, .ty _, T.yes, _, rfl, ?_⟩
    refine ⟨_, rfl, RR, _, 0, V.str (kindW nm), rfl, rfl, SqL.of t3, rfl, ?_⟩
    exact q _ (Same.trans z8 t1)
end
end Lk
end
section
set_option maxRecDepth 100000
set_option maxHeartbeats 1000000
/-! What the law reads of a text is what the program reads. -/
namespace Lk
open PySem PySem.Spec PyProof.Rows L2
abbrev wAt : List Nat := [97, 116]
abbrev wKnows : List Nat := [107, 110, 111, 119, 115]
/-- the words whose numbers are read -/
def numW (ws : List (List Nat)) : List (List Nat) := (ws.drop 1).take 1 ++ ws.drop 3
def wsOf (x : Str) : List (List Nat) := TL.spl [32] 0 [] x.cps.toList
theorem readD_words {x : Str} {e : PyData} (h : readD (.str x) = some e) : wordsD (wsOf x) = some e ∧ isCd e = true := by
  have h : (match wordsD (TL.spl [32] 0 [] x.cps.toList) with
    | some e => if isCd e = true then some e else none
    | none => none) = some e := h
  unfold wsOf
  cases c : wordsD (TL.spl [32] 0 [] x.cps.toList) with
  | none =>
    rw [c] at h
    cases h
  | some e2 =>
    rw [c] at h
    dsimp only at h
    by_cases k : isCd e2 = true
    · rw [if_pos k] at h
      cases h
      exact ⟨rfl, k⟩
    · rw [if_neg k] at h
      cases h
theorem wordsD_some {ws : List (List Nat)} {e : PyData} (h : wordsD ws = some e) : (3 ≤ ws.length ∧ ws[0]? = some wAt ∧ ws[2]? = some wKnows) ∧ e = .tuple [optD (readN (ws.getD 1 [])), .tuple ((ws.drop 3).map fun w => optD (readN w))] := by
  unfold wordsD at h
  by_cases c : ws.length < 3 ∨ ws[0]? ≠ some [97, 116] ∨ ws[2]? ≠ some [107, 110, 111, 119, 115]
  · rw [if_pos c] at h
    cases h
  · rw [if_neg c] at h
    cases h
    refine ⟨⟨?_, ?_, ?_⟩, rfl⟩
    · exact Nat.le_of_not_lt fun z => c (.inl z)
    · exact Classical.byContradiction fun z => c (.inr (.inl z))
    · exact Classical.byContradiction fun z => c (.inr (.inr z))
theorem isCd_parts {p : PyData} {ls : List PyData} (h : isCd (.tuple [p, .tuple ls]) = true) : 1 ≤ ls.length ∧ ls.length ≤ 12 ∧ inR p 0 ((ls.length : Int) - 1) = true ∧ ls.all natD = true := by
  have z : ((decide (1 ≤ ls.length) && decide (ls.length ≤ 12)) && (inR p 0 ((ls.length : Int) - 1) && ls.all natD)) = true := h
  rw [Bool.and_eq_true, Bool.and_eq_true, Bool.and_eq_true, decide_eq_true_eq, decide_eq_true_eq] at z
  exact ⟨z.1.1, z.1.2, z.2.1, z.2.2⟩
/-- what is read has all that the law asks -/
theorem readD_some {x : Str} {e : PyData} (h : readD (.str x) = some e) : 4 ≤ (wsOf x).length ∧ (wsOf x).length ≤ 15 ∧ (wsOf x)[0]? = some wAt ∧ (wsOf x)[2]? = some wKnows ∧ (∀ w ∈ numW (wsOf x), readN w ≠ none) := by
  obtain ⟨h1, h2⟩ := readD_words h
  obtain ⟨⟨c1, c2, c3⟩, rfl⟩ := wordsD_some h1
  obtain ⟨d1, d2, d3, d4⟩ := isCd_parts h2
  rw [List.length_map, List.length_drop] at d1 d2
  refine ⟨by omega, by omega, c2, c3, fun w hw e => ?_⟩
  unfold numW at hw
  rcases List.mem_append.mp hw with hw | hw
  · have z : w = (wsOf x).getD 1 [] := by
      obtain ⟨i, hi⟩ := List.mem_iff_getElem?.mp hw
      rw [List.getElem?_take] at hi
      by_cases l : i < 1
      · rw [if_pos l, List.getElem?_drop, show 1 + i = 1 by omega] at hi
        rw [List.getD_eq_getElem?_getD, hi]
        rfl
      · rw [if_neg l] at hi
        cases hi
    rw [← z, e] at d3
    cases d3
  · have z := List.all_eq_true.mp d4 _ (List.mem_map.mpr ⟨w, hw, rfl⟩)
    rw [e] at z
    cases z
theorem optD_all : ∀ {l : List (List Nat)} {ns : List Nat}, l.map readN = ns.map some → l.map (fun w => optD (readN w)) = ns.map fun n : Nat => PyData.int (n : Int)
  | [], [], _ => rfl
  | [], _ :: _, h => nomatch h
  | _ :: _, [], h => nomatch h
  | a :: l, n :: ns, h => by
    rw [List.map_cons, List.map_cons] at h
    injection h with h1 h2
    rw [List.map_cons, List.map_cons, h1, optD_all h2]
    rfl
/-- where all numbers are read, the law's last question decides -/
theorem readD_all {x : Str} {n : Nat} {ns : List Nat} (l4 : 4 ≤ (wsOf x).length) (l15 : (wsOf x).length ≤ 15) (c2 : (wsOf x)[0]? = some wAt) (c3 : (wsOf x)[2]? = some wKnows) (h : (numW (wsOf x)).map readN = (n :: ns).map some) :
    readD (.str x) = if n < ns.length then some (.tuple [.int (n : Int), .tuple (ns.map fun n : Nat => PyData.int (n : Int))]) else none := by
  obtain ⟨w1, hw1⟩ : ∃ w1, (wsOf x)[1]? = some w1 := ⟨_, List.getElem?_eq_getElem (by omega)⟩
  have e1 : ((wsOf x).drop 1).take 1 = [w1] := by
    rw [List.drop_eq_getElem_cons (by omega), List.take_succ_cons, List.take_zero]
    have z := List.getElem?_eq_getElem (l := wsOf x) (i := 1) (by omega)
    rw [hw1] at z
    rw [Option.some.inj z]
  unfold numW at h
  rw [e1, List.cons_append, List.nil_append, List.map_cons, List.map_cons] at h
  injection h with h1 h2
  have hl : ns.length = (wsOf x).length - 3 := by
    have z := congrArg List.length h2
    rw [List.length_map, List.length_map, List.length_drop] at z
    exact z.symm
  have ew : wordsD (wsOf x) = some (.tuple [.int (n : Int), .tuple (ns.map fun n : Nat => PyData.int (n : Int))]) := by
    unfold wordsD
    rw [if_neg (by
      rintro (z | z | z)
      · omega
      · exact z c2
      · exact z c3), optD_all h2, List.getD_eq_getElem?_getD, hw1]
    show some (PyData.tuple [optD (readN w1), _]) = _
    rw [h1]
    rfl
  show (match wordsD (wsOf x) with
    | some e => if isCd e = true then some e else none
    | none => none) = _
  rw [ew]
  dsimp only
  have ic : isCd (.tuple [.int (n : Int), .tuple (ns.map fun n : Nat => PyData.int (n : Int))]) = decide (n < ns.length) := by
    show ((decide (1 ≤ (ns.map fun n : Nat => PyData.int (n : Int)).length) && decide ((ns.map fun n : Nat => PyData.int (n : Int)).length ≤ 12)) && (inR (.int (n : Int)) 0 (((ns.map fun n : Nat => PyData.int (n : Int)).length : Int) - 1) && (ns.map fun n : Nat => PyData.int (n : Int)).all natD)) = _
    have a : (ns.map fun n : Nat => PyData.int (n : Int)).all natD = true := by
      rw [List.all_eq_true]
      rintro d hd
      obtain ⟨k, _, rfl⟩ := List.mem_map.mp hd
      exact decide_eq_true (Int.natCast_nonneg k)
    rw [a, List.length_map, decide_eq_true (show 1 ≤ ns.length by omega), decide_eq_true (show ns.length ≤ 12 by omega), Bool.true_and, Bool.and_true, Bool.true_and]
    show (decide ((0 : Int) ≤ n) && decide ((n : Int) ≤ (ns.length : Int) - 1)) = _
    rw [decide_eq_true (Int.natCast_nonneg n), Bool.true_and]
    exact decide_eq_decide.mpr ⟨fun z => by omega, fun z => by omega⟩
  rw [ic]
  by_cases c : n < ns.length
  · rw [if_pos (decide_eq_true c), if_pos c]
  · rw [if_neg (by rw [decide_eq_false c]; exact Bool.false_ne_true), if_neg c]
theorem cut_mid {xs : List V} {i j : Nat} (h : j ≤ xs.length) (hij : i ≤ j) : cutV xs (some (i : Int)) (some (j : Int)) = (xs.drop i).take (j - i) := by
  unfold cutV
  rw [HT.sIx_nat, HT.sIx_nat, Nat.min_eq_left h, Nat.min_eq_left (Nat.le_trans hij h)]
theorem spl_from : ∀ (a : List Nat) (k : Nat) (acc : List Nat), ∀ w ∈ TL.spl [32] k acc a, ∀ c ∈ w, c ∈ acc ∨ c ∈ a
  | [], k, acc, w, hw, c, hc => by
    rw [TL.spl_nil] at hw
    rw [List.mem_singleton.mp hw] at hc
    exact .inl hc
  | d :: r, 0, acc, w, hw, c, hc => by
    by_cases h : TL.pre [32] (d :: r) = true
    · rw [TL.spl_hit h, show ([32] : List Nat).length - 1 = 0 from rfl] at hw
      rcases List.mem_cons.mp hw with rfl | hw
      · exact .inl hc
      · rcases spl_from r 0 [] w hw c hc with z | z
        · cases z
        · exact .inr (List.mem_cons_of_mem _ z)
    · have e : TL.spl [32] 0 acc (d :: r) = TL.spl [32] 0 (acc ++ [d]) r := by
        show (if TL.pre [32] (d :: r) = true then _ else _) = _
        rw [if_neg h]
      rw [e] at hw
      rcases spl_from r 0 (acc ++ [d]) w hw c hc with z | z
      · rcases List.mem_append.mp z with z | z
        · exact .inl z
        · exact .inr (by rw [List.mem_singleton.mp z]; exact List.mem_cons_self)
      · exact .inr (List.mem_cons_of_mem _ z)
  | d :: r, k + 1, acc, w, hw, c, hc => by
    have e : TL.spl [32] (k + 1) acc (d :: r) = TL.spl [32] k acc r := rfl
    rw [e] at hw
    exact (spl_from r k acc w hw c hc).imp id (List.mem_cons_of_mem _)
/-- the signs of a list, each a text -/
abbrev sgV (l : List Nat) : List V := l.map fun c => V.str (SX.S [c])
abbrev sgD (l : List Nat) : List PyData := l.map fun c => PyData.str (SX.S [c])
theorem dp_sg {K : PySem.W.Frag} {H : Hp} : ∀ l : List Nat, DpAll K H (sgV l) (sgD l)
  | [] => .nil
  | c :: r => .cons (.str (SX.S [c])) (dp_sg r)
theorem strOk_one {c : Nat} (h : c < 1114112) : PyData.strOk (SX.S [c]) = true := by
  show (([c] : List Nat).toArray).all (· < 0x110000) = true
  rw [← Array.all_toList]
  exact List.all_eq_true.mpr fun d hd => decide_eq_true (by rw [List.mem_singleton.mp hd]; omega)
theorem lay_sg : ∀ {l : List Nat}, (∀ c ∈ l, c < 1114112) → PyData.canLayAll0 (sgD l) = true
  | [], _ => rfl
  | c :: r, h => by
    have ih := lay_sg (l := r) fun x hx => h x (List.mem_cons_of_mem _ hx)
    show PyData.canLayAll0 (PyData.str (SX.S [c]) :: sgD r) = true
    rw [PyData.canLayAll0, ih, Bool.and_true, PyData.canLay0]
    exact strOk_one (h c List.mem_cons_self)
theorem dep_sg : ∀ l : List Nat, PyData.depthAll (sgD l) = 0
  | [] => by simp [PyData.depthAll]
  | c :: r => by
    show PyData.depthAll (PyData.str (SX.S [c]) :: sgD r) = 0
    simp only [PyData.depthAll, PyData.depth, dep_sg r, Nat.max_self]
theorem shaped_sg {l : List Nat} (h : ∀ c ∈ l, c < 1114112) : SeqAt.shaped (.list (sgD l)) = true := by
  unfold SeqAt.shaped
  rw [Bool.and_eq_true]
  refine ⟨by simp only [PyData.canLay0, lay_sg h], decide_eq_true ?_⟩
  simp only [PyData.depth, dep_sg l]
  omega
theorem eqv_sg (l : List Nat) : PyData.eqv (.list (sgD l)) (.list []) = decide (l = []) := by
  cases l with
  | nil => simp [PyData.eqv, PyData.eqvAll]
  | cons c r =>
    show PyData.eqv (.list (PyData.str (SX.S [c]) :: sgD r)) (.list []) = _
    simp [PyData.eqv, PyData.eqvAll]
theorem isdig_in (c : Nat) : decide (c ∈ (Str.ofString "0123456789").cps.toList) = isDig c := by
  have e : (Str.ofString "0123456789").cps.toList = [48, 49, 50, 51, 52, 53, 54, 55, 56, 57] := by decide +kernel
  rw [e]
  unfold isDig
  by_cases h : 48 ≤ c ∧ c ≤ 57
  · rw [decide_eq_true h.1, decide_eq_true h.2]
    exact decide_eq_true (by simp; omega)
  · rw [← Bool.decide_and, decide_eq_false h]
    exact decide_eq_false (by simp; omega)
end Lk
end
section
set_option maxRecDepth 100000
set_option maxHeartbeats 4000000
/-! The law's own reading of a text. -/
namespace Lk
open PySem PySem.Spec PyProof.Rows L2
/-- None, or the place and the lengths -/
def spReadL : Sp := fun vs H Q _ => ∃ (v : V) (d : PyData), vs = [v] ∧ Th H v d ∧ (∀ x, d = .str x → x.length ≤ 100000 ∧ ∀ c ∈ x.cps.toList, c < 1114112) ∧ (readD d = none → ∀ H', Same H H' → Q .non H') ∧ (∀ e, readD d = some e → ∀ v' H', Same H H' → Th H' v' e → Q v' H')
abbrev nRd : List Str := ["text", "words", "numbers", "word", "sign"]
section
variable {P : Program} {w : World} {K : PySem.W.Frag} {mg : Str → Option Value} {base : Heap}
theorem sc_read : FnScope nRd ["text"] (defScope s_law_read) := ⟨rfl, rfl, rfl, by decide +kernel, rfl, by decide +kernel, by decide +kernel⟩
theorem ok_read {f : Addr} {fd : FuncData} (F : Fun K "_law_read" "_law_read" s_law_read f fd) (mi : mg "isinstance" = none) (ms : mg "str" = none) (ml : mg "len" = none) (mt : mg "tuple" = none) (mn : mg "int" = none) : FnOk P w K mg base CX0 5 f fd ["text"] spReadL := by
  refine F.ok sc_read (fun vs H Q E h => ?_) (fun cdv A outer s H vs Q E hr h => ?_)
  · obtain ⟨v, d, rfl, _⟩ := h
    rfl
  · obtain ⟨v, d, rfl, hv, short, q0, q1⟩ := h
    have nd := sc_read.nd
    have hu64 : (A.deeper (envOfC "_law_read" (defScope s_law_read) s.heap.objs.size f cdv)).units + 64 < cLine := by have z := hr.un; omega
    refine ⟨_, (pss_cons (by exact (ps_set (i := 1) nd rfl (Or.inl rfl) (pe_ifExp (pt_val (pe_callB call_isi (by rfl) mi (by decide +kernel) (pa_cons (pv 0) (pa_cons (pe_bltn (v := .ty "str") (by rfl) ms (by decide +kernel) rfl) pa_nil)))) (pe_split (pv 0) pe_str) (pe_lstS pa_nil))))
      (pss_cons (by exact (ps_if (PW.pt (pw_or (pt_not (pt_chain op_le op_le pe_int (pe_callB call_len_seq (by rfl) ml PySem.boot_len (pa_cons (pv 1) pa_nil)) pe_int)) (pw_or (pt_cmpR op_ne (pe_ix ix_list (pv 1) pe_int (fun _ _ => rfl)) pe_str (nomark _)) (pw_or1 (pt_cmpR op_ne (pe_ix ix_list (pv 1) pe_int (fun _ _ => rfl)) pe_str (nomark _)))))) (pss_one (by exact (ps_ret pe_non))) pss_nil))
      (pss_cons (by exact (ps_set (i := 2) nd rfl (Or.inl rfl) (pe_lstS pa_nil)))
      (pss_cons (by exact (ps_for PassesOwn.never rfl (pi_list (pe_op op_catS (pe_slice sl_list (pv 1) (po_some pe_int) (po_some pe_int)) (pe_slice sl_list (pv 1) (po_some pe_int) po_none))) (pg_name (i := 3) nd rfl (Or.inl rfl)) (pss_cons (by exact (ps_if (PW.pt (pw_or (pt_not (pt_chain op_le op_le pe_int (pe_callB call_len_str (by rfl) ml PySem.boot_len (pa_cons (pv 3) pa_nil)) pe_int)) (pw_or1 (pt_cmpR (op_neD hu64) (pe_lc (own := [("sign", 4)]) (g := (gName 4)) rfl nd (pi_str (pv 3)) (blkOk_by (N := nRd) (sc := defScope s_law_read) (by decide +kernel)) (fun _ _ _ _ _ => (pg_name (i := 4) nd rfl (Or.inl rfl))) (fun _ _ _ _ _ => pts_one (pt_cmpR op_notIn_sign (pv 4) pe_str rfl)) (fun _ _ _ _ _ => (pv 4))) (pe_lstS pa_nil) (nomark _))))) (pss_one (by exact (ps_ret pe_non))) pss_nil))
      (pss_cons (by exact (ps_if (PW.pt (pw_and (pt_cmpR op_eq (pe_item_str (pv 3) pe_int (fun _ _ => rfl)) pe_str (nomark _)) (pw_and1 (pt_cmpR op_ne (pv 3) pe_str (nomark _))))) (pss_one (by exact (ps_ret pe_non))) pss_nil))
      (pss_one (by exact (ps_expr (pe_bm PySem.F.plainAttrs_list PySem.F.slot_list_append PySem.F.type_list_append mt_append (pv 2) (pa_cons (pe_callTy call_int_str (by rfl) mn (by decide +kernel) (pa_cons (pv 3) pa_nil)) pa_nil)))))))))
      (pss_one (by exact (ps_ret (pe_ifExp (pt_cmpR op_lt (pe_ix ix_list (pv 2) pe_int (fun _ _ => rfl)) (pe_op op_sub (pe_callB call_len_seq (by rfl) ml PySem.boot_len (pa_cons (pv 2) pa_nil)) pe_int) (nomark _)) (pe_tupS (pa_cons (pe_ix ix_list (pv 2) pe_int (fun _ _ => rfl)) (pa_cons (pe_callTy call_tupS (by rfl) mt (by decide +kernel) (pa_cons (pe_slice sl_list (pv 2) (po_some pe_int) po_none) pa_nil)) pa_nil))) pe_non)))))))), ?_⟩
    have ek : ∀ {d : PyData} {b : Bool}, (match d with | .str _ => true | _ => false) = b → PySem.W.kitOne K (.type (tyN d)) (.type "str") = some b := fun {d b} e => by
      rw [← e]
      exact kit_ty (by cases d <;> (simp only [tyN]; decide +kernel))
    refine ⟨_, rfl, v, .ty "str", _, _, _, rfl, .ty _, hv.ty, ek rfl, _, rfl, ?_⟩
    have none_of : readD d = none → ∀ {H2 : Hp}, Same H H2 → Q .non H2 := fun e {H2} s2 => q0 e H2 s2
    cases hv with
    | str x =>
      refine iteT ?_
      obtain ⟨xl, xc⟩ := short x rfl
      obtain ⟨l, el⟩ : ∃ l : List Nat, l = x.cps.toList := ⟨_, rfl⟩
      have ex : x = SX.S l := by rw [el]
      have ll : l.length ≤ 100000 := by rw [ex, SX.S_len] at xl; exact xl
      obtain ⟨ws, ews⟩ : ∃ ws, ws = TL.spl [32] 0 [] l := ⟨_, rfl⟩
      obtain ⟨wn, wl⟩ := spl_lens l 0 []
      rw [← ews] at wn wl
      have ewx : wsOf x = ws := by rw [ews, el]; rfl
      have bad : ∀ {H2 : Hp}, Same H H2 → (∀ e, readD (.str x) = some e → False) → Q .non H2 := fun s2 no => q0 (by
        cases e : readD (.str x) with
        | none => rfl
        | some e' => exact (no e' e).elim) _ s2
      have hsp : Txt.split x (Str.ofString " ") = ws.map SX.S := by
        have e : Str.ofString " " = SX.S [32] := by decide +kernel
        rw [e, ex, SX.split_S (List.cons_ne_nil _ _) (by decide), ews]
      refine ⟨_, rfl, ⟨_, rfl⟩, x, Str.ofString " ", rfl, rfl, by decide +kernel, Nat.le_trans (show x.length + 2 ≤ 100002 by omega) (by decide), fun W nW => ?_⟩
      rw [hsp]
      obtain ⟨ys, eys⟩ : ∃ ys, ys = (ws.map SX.S).map V.str := ⟨_, rfl⟩
      rw [← eys]
      have yl : ys.length = ws.length := by rw [eys, List.length_map, List.length_map]
      have yat : ∀ {i : Nat} {w' : List Nat}, ws[i]? = some w' → ys[i]? = some (.str (SX.S w')) := fun {i w'} e => by
        rw [eys, List.getElem?_map, List.getElem?_map, e]
        rfl
      have sW := same_new (o := .lst ys) nW
      generalize hHW : upd H W (.lst ys) = HW at sW ⊢
      have eW : HW W = some (.lst ys) := by rw [← hHW]; exact upd_same
      have eat : Str.ofString "at" = SX.S [97, 116] := by decide +kernel
      have ekn : Str.ofString "knows" = SX.S [107, 110, 111, 119, 115] := by decide +kernel
      refine ⟨_, rfl, W, ys, rfl, .inl (SqL.of eW), _, _, rfl, rfl, _, rfl, ?_⟩
      rw [yl]
      by_cases c4 : 4 ≤ ws.length
      · rw [if_pos (decide_eq_true (show (4 : Int) ≤ (ws.length : Int) by omega))]
        refine ⟨_, _, rfl, rfl, _, rfl, ?_⟩
        dsimp only
        by_cases c15 : ws.length ≤ 15
        · rw [decide_eq_true (show (ws.length : Int) ≤ 15 by omega)]
          obtain ⟨w0, hw0⟩ : ∃ w0, ws[0]? = some w0 := ⟨_, List.getElem?_eq_getElem (by omega)⟩
          obtain ⟨w2, hw2⟩ : ∃ w2, ws[2]? = some w2 := ⟨_, List.getElem?_eq_getElem (by omega)⟩
          refine iteF ⟨_, rfl, W, ys, ((0 : Nat) : Int), _, rfl, rfl, SqL.of eW, atI_nat (yat hw0), rfl, _, rfl, ?_⟩
          dsimp only
          by_cases c2 : w0 = [97, 116]
          · rw [decide_eq_true (by rw [eat, c2])]
            refine iteF ⟨_, rfl, W, ys, ((2 : Nat) : Int), _, rfl, rfl, SqL.of eW, atI_nat (yat hw2), rfl, _, rfl, ?_⟩
            dsimp only
            by_cases c3 : w2 = [107, 110, 111, 119, 115]
            · rw [decide_eq_true (by rw [ekn, c3])]
              refine iteF ⟨Nat.zero_le _, fun N HN nN sN eN => ?_⟩
              have eWN := sN _ _ eW
              refine ⟨_, rfl, _, rfl, _, rfl, W, ys, rfl, SqL.of eWN, fun SA nA => ?_⟩
              have ct1 : cutV ys (some (1 : Int)) (some (2 : Int)) = (ys.drop 1).take 1 := cut_mid (i := 1) (j := 2) (by rw [yl]; omega) (by decide)
              have ct : cutV ys (some (3 : Int)) Option.none = ys.drop 3 := cut_from (n := 3)
              rw [ct1]
              have sA := same_new (o := .lst ((ys.drop 1).take 1)) nA
              have eA : upd HN SA (.lst ((ys.drop 1).take 1)) SA = some (.lst ((ys.drop 1).take 1)) := upd_same
              generalize upd HN SA (.lst ((ys.drop 1).take 1)) = HA at sA eA ⊢
              refine ⟨_, rfl, _, rfl, W, ys, rfl, SqL.of (sA _ _ eWN), fun SB nB => ?_⟩
              rw [ct]
              have sB := same_new (o := .lst (ys.drop 3)) nB
              have eB : upd HA SB (.lst (ys.drop 3)) SB = some (.lst (ys.drop 3)) := upd_same
              generalize upd HA SB (.lst (ys.drop 3)) = HB at sB eB ⊢
              have szz : ((ys.drop 1).take 1).length + (ys.drop 3).length ≤ sizeLine := by
                rw [List.length_take, List.length_drop, List.length_drop, yl]
                exact Nat.le_trans (show min 1 (ws.length - 1) + (ws.length - 3) ≤ 100 by omega) (by decide)
              refine ⟨SA, SB, _, _, rfl, rfl, sB _ _ eA, eB, szz, fun SC HC nC sC eC => ?_⟩
              have yn : (ys.drop 1).take 1 ++ ys.drop 3 = (numW ws).map fun w => V.str (SX.S w) := by
                unfold numW
                rw [eys, List.map_map, List.map_append, List.map_take, List.map_drop, List.map_drop]
                rfl
              rw [yn] at eC
              have sHC : Same H HC := sW.trans (sN.trans (sA.trans (sB.trans sC)))
              have eNC := sC _ _ (sB _ _ (sA _ _ eN))
              have nSC : N ≠ SC := fun e => by
                rw [← e, eNC] at eC
                have z : numW ws = [] := List.map_eq_nil_iff.mp (HO.lst.inj (Option.some.inj eC)).symm
                have z2 := congrArg List.length z
                unfold numW at z2
                rw [List.length_append, List.length_drop] at z2
                have z3 : ([] : List (List Nat)).length = 0 := rfl
                omega
              refine ⟨SC, rfl, ⟨_, SqL.of eC⟩, ?_⟩
              refine for_it walk_list (fun i σ2 H2 => σ2.length = nRd.length ∧ σ2[2]? = some (some (.ref N)) ∧ Same H H2 ∧ H2 SC = some (.lst ((numW ws).map fun w => V.str (SX.S w))) ∧ ∃ ns : List Nat, ((numW ws).take i).map readN = ns.map some ∧ H2 N = some (.lst (ns.map fun n : Nat => V.int (n : Int)))) ⟨rfl, rfl, sHC, eC, [], rfl, eNC⟩ (fun i σ2 H2 _ z => SqL.of z.2.2.2.1) ?_ ?_
              · rintro i y σ2 H0 H2 hi ⟨g0, g1, g2, g3, ns, g4, g5⟩ ⟨rfl, hx⟩
                obtain ⟨a0, a1, a2, a3, a4, rfl⟩ : ∃ a0 a1 a2 a3 a4, σ2 = [a0, a1, a2, a3, a4] := by
                  match σ2, g0 with
                  | [a, b, c, d, e], _ => exact ⟨a, b, c, d, e, rfl⟩
                have za : a2 = some (.ref N) := Option.some.inj g1
                subst za
                obtain ⟨w', hw', rfl⟩ : ∃ w', (numW ws)[i]? = some w' ∧ y = .str (SX.S w') := by
                  rw [List.getElem?_map] at hx
                  obtain ⟨w', e, z⟩ := Option.map_eq_some_iff.mp hx
                  exact ⟨w', e, z.symm⟩
                have mw' : w' ∈ ws := by
                  have z := List.mem_of_getElem? hw'
                  unfold numW at z
                  rcases List.mem_append.mp z with z | z
                  · exact List.mem_of_mem_drop (List.mem_of_mem_take z)
                  · exact List.mem_of_mem_drop z
                have lw' : w'.length ≤ 100000 := by
                  have z := wl w' mw'
                  have e0 : ([] : List Nat).length = 0 := rfl
                  omega
                have cw' : ∀ c ∈ w', c < 1114112 := fun c hc => by
                  rw [ews] at mw'
                  rcases spl_from l 0 [] w' mw' c hc with z | z
                  · cases z
                  · exact xc c (by rw [← el]; exact z)
                have bad2 : readN w' = none → ∀ {H4 : Hp}, Same H2 H4 → Q .non H4 := fun e _ s4 => bad (g2.trans s4) fun e2 he => by
                  obtain ⟨_, _, _, _, z⟩ := readD_some he
                  rw [ewx] at z
                  exact z w' (List.mem_of_getElem? hw') e
                have sz : (SX.S w').length ≤ sizeLine := by rw [SX.S_len]; exact Nat.le_trans lw' (by decide)
                refine ⟨_, rfl, SX.S w', rfl, sz, ?_⟩
                rw [SX.S_len]
                refine ⟨_, _, rfl, rfl, _, rfl, ?_⟩
                by_cases k1 : 1 ≤ w'.length
                · rw [if_pos (decide_eq_true (show (1 : Int) ≤ (w'.length : Int) by omega))]
                  refine ⟨_, _, rfl, rfl, _, rfl, ?_⟩
                  dsimp only
                  by_cases k2 : w'.length ≤ 40
                  · rw [decide_eq_true (show (w'.length : Int) ≤ 40 by omega)]
                    refine iteF ⟨_, rfl, _, rfl, fun R nR => ?_⟩
                    refine lc_it walk_str (fun j H3 => Same H2 H3 ∧ H3 R = some (.lst (sgV ((w'.take j).filter fun c => !isDig c)))) ⟨same_new nR, upd_same⟩ (fun _ _ _ _ => True.intro) ?_ ?_
                    · rintro j y H3 H4 hj ⟨s3, e3⟩ ⟨rfl, c, hc, rfl⟩
                      have hc' : w'[j]? = some c := by
                        rw [← hc]
                        show w'[j]? = (w'.toArray)[j]?
                        rw [List.getElem?_toArray]
                      refine ⟨rfl, _, rfl, c, _, rfl, rfl, _, rfl, ?_⟩
                      rw [isdig_in]
                      cases kc : isDig c with
                      | true => exact ⟨s3, by rw [e3, List.take_add_one, hc', Option.toList_some, List.filter_append, List.filter_cons, kc]; simp⟩
                      | false =>
                        refine ⟨_, rfl, _, e3, ?_, same_push s3 nR, ?_⟩
                        · rw [List.length_map]
                          exact Nat.lt_of_le_of_lt (Nat.le_trans (List.length_filter_le _ _) (by rw [List.length_take]; show min j w'.length ≤ 40; omega)) (by decide)
                        · rw [upd_same, List.take_add_one, hc', Option.toList_some, List.filter_append, List.filter_cons, kc]
                          simp
                    · rintro H3 ⟨s3, e3⟩
                      have ew : w'.take ((SX.S w').cps.size) = w' := List.take_of_length_le (by show w'.length ≤ (w'.toArray).size; rw [List.size_toArray]; exact Nat.le_refl _)
                      rw [ew] at e3
                      refine ⟨Nat.zero_le _, fun Z H4 nZ s4 eZ => ⟨.list (sgD (w'.filter fun c => !isDig c)), .list [], .lst (SqL.of (s4 _ _ e3)) (dp_sg _), .lst (SqL.of eZ) .nil, shaped_sg (fun c hc => cw' c (List.mem_filter.mp hc).1), shaped_ints [], _, rfl, ?_⟩⟩
                      rw [eqv_sg]
                      have s24 : Same H2 H4 := s3.trans s4
                      by_cases k3 : w'.all isDig = true
                      · have ef : (w'.filter fun c => !isDig c) = [] := List.filter_eq_nil_iff.mpr fun c hc => by rw [List.all_eq_true.mp k3 c hc]; exact Bool.false_ne_true
                        rw [decide_eq_true ef]
                        refine iteF ?_
                        obtain ⟨c0, hc0⟩ : ∃ c0, w'[0]? = some c0 := ⟨_, List.getElem?_eq_getElem (by omega)⟩
                        have hd : w'.head? = some c0 := by rw [List.head?_eq_getElem?]; exact hc0
                        refine ⟨_, rfl, _, 0, c0, rfl, rfl, by decide, by decide, by rw [SX.S_len]; omega, ?_, rfl, _, rfl, ?_⟩
                        · show (w'.toArray)[0]? = some c0
                          rw [List.getElem?_toArray]
                          exact hc0
                        have e48 : Str.ofString "0" = SX.S [48] := by decide +kernel
                        have big : (SX.S w').length ≤ 640 := by rw [SX.S_len]; omega
                        have g5' : H4 N = some (.lst (ns.map fun n : Nat => V.int (n : Int))) := s24 _ _ g5
                        have nHN : H N = none := sW.free nN
                        have val : ¬ (w'.head? = some 48 ∧ w' ≠ [48]) → intText? (SX.S w') = some ((NumText.digitsVal w' : Nat) : Int) ∧ readN w' = some (NumText.digitsVal w') := fun h4 =>
                          ⟨intText_digits (x := SX.S w') (all_dig k3) (by intro y; have y' : w' = [] := y; rw [y'] at k1; exact absurd k1 (by decide)) (by rw [SX.S_len]; omega), readN_good k1 k2 k3 h4⟩
                        have szn : (ns.map fun n : Nat => V.int (n : Int)).length < sizeLine := by
                          rw [List.length_map]
                          have z := congrArg List.length g4
                          rw [List.length_map, List.length_map, List.length_take] at z
                          have z2 : (numW ws).length ≤ 100 := by
                            unfold numW
                            rw [List.length_append, List.length_take, List.length_drop, List.length_drop]
                            omega
                          exact Nat.lt_of_le_of_lt (show ns.length ≤ 100 by omega) (by decide)
                        have again : readN w' = some (NumText.digitsVal w') → Same H (upd H4 N (.lst ((ns.map fun n : Nat => V.int (n : Int)) ++ [V.int ((NumText.digitsVal w' : Nat) : Int)]))) ∧ (upd H4 N (.lst ((ns.map fun n : Nat => V.int (n : Int)) ++ [V.int ((NumText.digitsVal w' : Nat) : Int)]))) SC = some (.lst ((numW ws).map fun w => V.str (SX.S w))) ∧
                            ∃ ns2 : List Nat, ((numW ws).take (i + 1)).map readN = ns2.map some ∧ (upd H4 N (.lst ((ns.map fun n : Nat => V.int (n : Int)) ++ [V.int ((NumText.digitsVal w' : Nat) : Int)]))) N = some (.lst (ns2.map fun n : Nat => V.int (n : Int))) := fun er => by
                          refine ⟨same_push (g2.trans s24) nHN, ?_, ns ++ [NumText.digitsVal w'], ?_, ?_⟩
                          · rw [upd_ne (Ne.symm nSC)]
                            exact s24 _ _ g3
                          · rw [List.take_add_one, hw', Option.toList_some, List.map_append, g4, List.map_append, List.map_cons, List.map_nil, er]
                            rfl
                          · rw [upd_same, List.map_append]
                            rfl
                        by_cases k4 : c0 = 48
                        · subst k4
                          dsimp only
                          rw [decide_eq_true (by rw [e48])]
                          refine iteT ⟨_, rfl, rfl, _, rfl, ?_⟩
                          by_cases k5 : w' = [48]
                          · rw [decide_eq_true (by rw [e48, k5])]
                            refine iteF ?_
                            obtain ⟨v1, v2⟩ := val fun z => z.2 k5
                            exact ⟨_, rfl, .inl ⟨rfl, _, SqL.of g5'⟩, _, rfl, SX.S w', _, rfl, v1, big, N, _, _, rfl, rfl, g5', szn, rfl, rfl, again v2⟩
                          · rw [decide_eq_false (by rw [e48]; exact fun z => k5 (SX.S_inj (V.str.inj z)))]
                            exact iteT (bad2 (readN_zero hd k5) s24)
                        · dsimp only
                          rw [decide_eq_false (by rw [e48]; exact fun z => k4 (by have y := SX.S_inj (V.str.inj z); injection y))]
                          refine iteF (iteF ?_)
                          obtain ⟨v1, v2⟩ := val fun z => k4 (Option.some.inj (hd.symm.trans z.1))
                          exact ⟨_, rfl, .inl ⟨rfl, _, SqL.of g5'⟩, _, rfl, SX.S w', _, rfl, v1, big, N, _, _, rfl, rfl, g5', szn, rfl, rfl, again v2⟩
                      · rw [decide_eq_false (fun z => k3 (List.all_eq_true.mpr fun c hc => by
                          cases e : isDig c with
                          | true => rfl
                          | false => exact absurd (by rw [e]; rfl) (List.filter_eq_nil_iff.mp z c hc)))]
                        exact iteT (bad2 (readN_bad fun z => k3 z.2.2) s24)
                  · rw [decide_eq_false (show ¬ ((w'.length : Int) ≤ 40) by omega)]
                    exact iteT (iteT (bad2 (readN_bad fun z => k2 z.2.1) (Same.refl _)))
                · rw [if_neg (fun z => k1 (by have y := of_decide_eq_true z; omega))]
                  refine ⟨_, rfl, ?_⟩
                  exact iteT (iteT (bad2 (readN_bad fun z => k1 z.1) (Same.refl _)))
              · rintro σ2 H2 ⟨g0, g1, g2, g3, ns, g4, g5⟩
                obtain ⟨a0, a1, a2, a3, a4, rfl⟩ : ∃ a0 a1 a2 a3 a4, σ2 = [a0, a1, a2, a3, a4] := by
                  match σ2, g0 with
                  | [a, b, c, d, e], _ => exact ⟨a, b, c, d, e, rfl⟩
                have za : a2 = some (.ref N) := Option.some.inj g1
                subst za
                rw [List.length_map, List.take_length] at g4
                obtain ⟨n, ns, rfl⟩ : ∃ n ns', ns = n :: ns' := by
                  cases ns with
                  | nil =>
                    have z2 := congrArg List.length g4
                    unfold numW at z2
                    rw [List.length_map, List.length_append, List.length_drop] at z2
                    have z3 : (([] : List Nat).map some).length = 0 := rfl
                    omega
                  | cons n ns' => exact ⟨n, ns', rfl⟩
                have rd := readD_all (x := x) (n := n) (ns := ns) (by rw [ewx]; exact c4) (by rw [ewx]; exact c15) (by rw [ewx, hw0, c2]) (by rw [ewx, hw2, c3]) (by rw [ewx]; exact g4)
                refine ⟨_, rfl, N, _, ((0 : Nat) : Int), V.int (n : Int), rfl, rfl, SqL.of g5, atI_nat rfl, _, rfl, N, _, rfl, .inl (SqL.of g5), _, _, rfl, rfl, _, _, rfl, rfl, _, rfl, ?_⟩
                have ln : (((n :: ns).map fun n : Nat => V.int (n : Int)).length : Int) = (ns.length : Int) + 1 := by
                  rw [List.length_map, List.length_cons]
                  omega
                rw [ln]
                by_cases lt : n < ns.length
                · rw [decide_eq_true (show (n : Int) < (ns.length : Int) + 1 - 1 by omega)]
                  refine iteT ⟨_, rfl, N, _, ((0 : Nat) : Int), V.int (n : Int), rfl, rfl, SqL.of g5, atI_nat rfl, _, rfl, _, rfl, N, _, rfl, SqL.of g5, fun SD nD => ?_⟩
                  have ctn : cutV ((n :: ns).map fun n : Nat => V.int (n : Int)) (some (1 : Int)) Option.none = ns.map fun n : Nat => V.int (n : Int) := cut_from (n := 1)
                  rw [ctn]
                  refine ⟨SD, _, rfl, .inl ⟨upd_same, fun T H5 nT s5 eT => ⟨(by show 2 ≤ sizeLine; decide), fun U H6 nU s6 eU => ?_⟩⟩⟩
                  have ti : ∀ l : List Nat, ThAll H6 (l.map fun n : Nat => V.int (n : Int)) (l.map fun n : Nat => PyData.int (n : Int)) := fun l => by
                    induction l with
                    | nil => exact .nil
                    | cons b l ih => exact .cons (.int _) ih
                  exact q1 _ (by rw [rd, if_pos lt]) _ H6 (g2.trans ((same_new nD).trans (s5.trans s6))) (.tup eU (.cons (.int _) (.cons (.tup (s6 _ _ eT) (ti ns)) .nil)))
                · rw [decide_eq_false (show ¬ ((n : Int) < (ns.length : Int) + 1 - 1) by omega)]
                  exact iteF (q0 (by rw [rd, if_neg lt]) _ g2)
            · rw [decide_eq_false (by rw [ekn]; exact fun z => c3 (SX.S_inj (V.str.inj z)))]
              exact iteT (bad sW fun e he => by
                obtain ⟨_, _, _, z, _⟩ := readD_some he
                rw [ewx, hw2] at z
                exact c3 (Option.some.inj z))
          · rw [decide_eq_false (by rw [eat]; exact fun z => c2 (SX.S_inj (V.str.inj z)))]
            exact iteT (iteT (bad sW fun e he => by
              obtain ⟨_, _, z, _⟩ := readD_some he
              rw [ewx, hw0] at z
              exact c2 (Option.some.inj z)))
        · rw [decide_eq_false (show ¬ ((ws.length : Int) ≤ 15) by omega)]
          exact iteT (iteT (bad sW fun e he => by
            obtain ⟨_, z, _⟩ := readD_some he
            rw [ewx] at z
            exact c15 z))
      · rw [if_neg (fun z => c4 (by have y := of_decide_eq_true z; omega))]
        refine ⟨_, rfl, ?_⟩
        refine iteT ?_
        refine iteT ?_
        exact (bad sW fun e he => by
          obtain ⟨z, _⟩ := readD_some he
          rw [ewx] at z
          exact c4 z)
    | _ =>
      refine iteF ⟨Nat.zero_le _, fun W HW nW sW eW => ?_⟩
      refine ⟨_, rfl, W, [], rfl, .inl (SqL.of eW), _, _, rfl, rfl, _, rfl, ?_⟩
      rw [if_neg (by decide)]
      refine ⟨_, rfl, ?_⟩
      exact iteT (iteT (none_of rfl sW))
end
end Lk
end
section
set_option maxRecDepth 100000
set_option maxHeartbeats 1000000
/-! How long joined words are, all together; their signs. -/
namespace Lk
open PySem PySem.Spec PyProof.Rows L2
/-- the words' lengths and as many again -/
def tot (ws : List (List Nat)) : Nat := (ws.map fun w => w.length + 1).sum
theorem tot_app (a b : List (List Nat)) : tot (a ++ b) = tot a + tot b := by
  unfold tot
  rw [List.map_append, List.sum_append]
theorem tot_cons (w : List Nat) (r : List (List Nat)) : tot (w :: r) = w.length + 1 + tot r := by
  unfold tot
  rw [List.map_cons, List.sum_cons]
theorem tot_split (n : Nat) (a : List (List Nat)) : tot (a.take n) + tot (a.drop n) = tot a := by
  rw [← tot_app, List.take_append_drop]
theorem tot_take (n : Nat) (a : List (List Nat)) : tot (a.take n) ≤ tot a := by
  have z := tot_split n a
  omega
theorem tot_drop (n : Nat) (a : List (List Nat)) : tot (a.drop n) ≤ tot a := by
  have z := tot_split n a
  omega
theorem tot_rev : ∀ a : List (List Nat), tot a.reverse = tot a
  | [] => rfl
  | w :: r => by
    rw [List.reverse_cons, tot_app, tot_rev r, tot_cons, tot_cons]
    show tot r + (w.length + 1 + 0) = w.length + 1 + tot r
    omega
theorem tot_len : ∀ a : List (List Nat), a.length ≤ tot a
  | [] => Nat.le_refl _
  | w :: r => by
    have z := tot_len r
    rw [tot_cons, List.length_cons]
    omega
theorem tot_set : ∀ (a : List (List Nat)) (i : Nat) (w : List Nat), tot (a.set i w) ≤ tot a + w.length
  | [], _, w => Nat.zero_le _
  | v :: r, 0, w => by
    rw [List.set_cons_zero, tot_cons, tot_cons]
    omega
  | v :: r, i + 1, w => by
    have z := tot_set r i w
    rw [List.set_cons_succ, tot_cons, tot_cons]
    omega
theorem tot_join : ∀ ws : List (List Nat), (TL.joinL [32] ws).length ≤ tot ws
  | [] => Nat.le_refl _
  | [p] => by
    rw [tot_cons]
    show p.length ≤ _
    omega
  | p :: q :: r => by
    have z := tot_join (q :: r)
    rw [tot_cons]
    show (p ++ ([32] ++ TL.joinL [32] (q :: r))).length ≤ _
    rw [List.length_append, List.length_append]
    have e : ([32] : List Nat).length = 1 := rfl
    omega
theorem join_from : ∀ (ws : List (List Nat)), ∀ c ∈ TL.joinL [32] ws, c = 32 ∨ ∃ w ∈ ws, c ∈ w
  | [], c, hc => by cases hc
  | [p], c, hc => .inr ⟨p, List.mem_cons_self, hc⟩
  | p :: q :: r, c, hc => by
    have hc2 : c ∈ p ++ ([32] ++ TL.joinL [32] (q :: r)) := hc
    rcases List.mem_append.mp hc2 with z | z
    · exact .inr ⟨p, List.mem_cons_self, z⟩
    · rcases List.mem_append.mp z with z | z
      · exact .inl (List.mem_singleton.mp z)
      · rcases join_from (q :: r) c z with y | ⟨w, hw, y⟩
        · exact .inl y
        · exact .inr ⟨w, List.mem_cons_of_mem _ hw, y⟩
theorem tot_spl : ∀ (a : List Nat) (k : Nat) (acc : List Nat), tot (TL.spl [32] k acc a) ≤ acc.length + a.length + 1
  | [], k, acc => by
    rw [TL.spl_nil, tot_cons]
    show acc.length + 1 + 0 ≤ _
    omega
  | d :: r, 0, acc => by
    by_cases h : TL.pre [32] (d :: r) = true
    · rw [TL.spl_hit h, show ([32] : List Nat).length - 1 = 0 from rfl, tot_cons]
      have z := tot_spl r 0 []
      have e0 : ([] : List Nat).length = 0 := rfl
      rw [List.length_cons]
      omega
    · have e : TL.spl [32] 0 acc (d :: r) = TL.spl [32] 0 (acc ++ [d]) r := by
        show (if TL.pre [32] (d :: r) = true then _ else _) = _
        rw [if_neg h]
      have z := tot_spl r 0 (acc ++ [d])
      rw [e, List.length_cons]
      rw [List.length_append] at z
      have e1 : ([d] : List Nat).length = 1 := rfl
      omega
  | d :: r, k + 1, acc => by
    have e : TL.spl [32] (k + 1) acc (d :: r) = TL.spl [32] k acc r := rfl
    have z := tot_spl r k acc
    rw [e, List.length_cons]
    omega
theorem spl_pos : ∀ (a : List Nat) (k : Nat) (acc : List Nat), 1 ≤ (TL.spl [32] k acc a).length
  | [], k, acc => by
    rw [TL.spl_nil]
    exact Nat.le_refl _
  | d :: r, 0, acc => by
    by_cases h : TL.pre [32] (d :: r) = true
    · rw [TL.spl_hit h, List.length_cons]
      omega
    · have e : TL.spl [32] 0 acc (d :: r) = TL.spl [32] 0 (acc ++ [d]) r := by
        show (if TL.pre [32] (d :: r) = true then _ else _) = _
        rw [if_neg h]
      rw [e]
      exact spl_pos r 0 _
  | d :: r, k + 1, acc => by
    have e : TL.spl [32] (k + 1) acc (d :: r) = TL.spl [32] k acc r := rfl
    rw [e]
    exact spl_pos r k acc
theorem join_blank (ws : List (List Nat)) : Txt.join (Str.ofString " ") (ws.map SX.S) = SX.S (TL.joinL [32] ws) := by
  have e : Str.ofString " " = SX.S [32] := by decide +kernel
  rw [e, SX.join_S]
theorem sum_tot : ∀ us : List (List Nat), ((us.map SX.S).map fun x => x.length).sum + us.length = tot us
  | [] => rfl
  | w :: r => by
    have z := sum_tot r
    rw [List.map_cons, List.map_cons, List.sum_cons, List.length_cons, tot_cons, SX.S_len]
    omega
/-- a text that may be asked: so long at most, its signs as texts have them -/
def TxOk (n : Nat) (l : List Nat) : Prop := l.length ≤ n ∧ ∀ c ∈ l, c < 1114112
theorem txOk_join {ws : List (List Nat)} {n : Nat} (h : tot ws ≤ n) (s : ∀ w ∈ ws, ∀ c ∈ w, c < 1114112) : TxOk n (TL.joinL [32] ws) :=
  ⟨Nat.le_trans (tot_join ws) h, fun c hc => by
    rcases join_from ws c hc with e | ⟨w, hw, z⟩
    · rw [e]; decide
    · exact s w hw c z⟩
theorem TxOk.take {n : Nat} {l : List Nat} (h : TxOk n l) (k : Nat) : TxOk n (l.take k) := ⟨Nat.le_trans (by rw [List.length_take]; exact Nat.min_le_right _ _) h.1, fun c hc => h.2 c (List.mem_of_mem_take hc)⟩
theorem TxOk.drop {n : Nat} {l : List Nat} (h : TxOk n l) (k : Nat) : TxOk n (l.drop k) := ⟨Nat.le_trans (by rw [List.length_drop]; exact Nat.sub_le _ _) h.1, fun c hc => h.2 c (List.mem_of_mem_drop hc)⟩
theorem TxOk.app {n m : Nat} {a b : List Nat} (h : TxOk n a) (k : TxOk m b) : TxOk (n + m) (a ++ b) := ⟨by rw [List.length_append]; exact Nat.add_le_add h.1 k.1, fun c hc => (List.mem_append.mp hc).elim (h.2 c) (k.2 c)⟩
/-- the words that may stand in a word's place -/
theorem sixteen : ∃ ws : List (List Nat), [V.str (Str.ofString "at"), V.str (Str.ofString "knows"), V.str (Str.ofString ""), V.str (Str.ofString "0"), V.str (Str.ofString "00"), V.str (Str.ofString "01"), V.str (Str.ofString "12"), V.str (Str.ofString "-1"), V.str (Str.ofString "+1"), V.str (Str.ofString "1_0"), V.str (Str.ofString "x"), V.str (Str.ofString "At"), V.str (SX.S (rep 40 [57])), V.str (SX.S (rep 41 [57])), V.str (Str.ofString "1.0"), V.str (Str.ofString " ")] = (ws.map SX.S).map V.str ∧ ws.length = 16 ∧ ∀ w ∈ ws, w.length ≤ 41 ∧ ∀ c ∈ w, c < 1114112 := by
  refine ⟨[[97, 116], [107, 110, 111, 119, 115], [], [48], [48, 48], [48, 49], [49, 50], [45, 49], [43, 49], [49, 95, 48], [120], [65, 116], rep 40 [57], rep 41 [57], [49, 46, 48], [32]], ?_, rfl, by decide +kernel⟩
  have h : ∀ {x : Str} {l : List Nat}, x = SX.S l → V.str x = V.str (SX.S l) := fun e => congrArg V.str e
  rw [h (x := Str.ofString "at") (l := [97, 116]) (by decide +kernel), h (x := Str.ofString "knows") (l := [107, 110, 111, 119, 115]) (by decide +kernel), h (x := Str.ofString "") (l := []) (by decide +kernel), h (x := Str.ofString "0") (l := [48]) (by decide +kernel), h (x := Str.ofString "00") (l := [48, 48]) (by decide +kernel), h (x := Str.ofString "01") (l := [48, 49]) (by decide +kernel), h (x := Str.ofString "12") (l := [49, 50]) (by decide +kernel), h (x := Str.ofString "-1") (l := [45, 49]) (by decide +kernel), h (x := Str.ofString "+1") (l := [43, 49]) (by decide +kernel), h (x := Str.ofString "1_0") (l := [49, 95, 48]) (by decide +kernel), h (x := Str.ofString "x") (l := [120]) (by decide +kernel), h (x := Str.ofString "At") (l := [65, 116]) (by decide +kernel), h (x := Str.ofString "1.0") (l := [49, 46, 48]) (by decide +kernel), h (x := Str.ofString " ") (l := [32]) (by decide +kernel)]
  rfl
theorem signs20 : ∃ l : List Nat, Str.ofString "0123456789 atknows-\n" = SX.S l ∧ l.length = 20 ∧ ∀ c ∈ l, c < 1114112 := by
  refine ⟨[48, 49, 50, 51, 52, 53, 54, 55, 56, 57, 32, 97, 116, 107, 110, 111, 119, 115, 45, 10], by decide +kernel, rfl, by decide +kernel⟩
end Lk
end
section
set_option maxRecDepth 100000
set_option maxHeartbeats 2000000
/-! t[::-1] of a tuple. -/
namespace Lk
open PySem PySem.Spec PyProof.Rows L2 HT
section
variable {prog : Program} {w : World} {A : Around} {E : Value → Shared → Prop} {s : Shared}
theorem sliceApplied_rev {sl : Addr} {vk : Value} {n : Nat} {Q : Int × Int × Nat → Shared → Prop} (hs : s.heap.IsSliceOf sl .none .none vk) (pk : IsPart vk (some (-1)))
    (h : Q ((n : Int) - 1, -1, n) s) : wpAny (model prog w) A (Builtin.Slice.sliceApplied (.ref sl) (pure (n : Int))) Q E s := by
  obtain ⟨os, hos, hcs, hds⟩ := id hs
  unfold Builtin.Slice.sliceApplied Builtin.Slice.sliceFields
  refine wpAny_bind (wpAny_bind (wpAny_field hos hds (x := .none) rfl (wpAny_bind (wpAny_field hos hds (x := .none) rfl (wpAny_bind (wpAny_field hos hds (x := vk) rfl (wpAny_pure ?_)))))))
  refine wpAny_bind (slicePart_ pk ?_)
  show wpAny _ _ (if ((-1 : Int) == 0) = true then _ else _) _ _ s
  rw [if_neg (by decide)]
  refine wpAny_bind (slicePart_none (wpAny_bind (slicePart_none (wpAny_bind (wpAny_pure ?_)))))
  have e : Builtin.Slice.sliceAdjust none none (-1) (n : Int) = ((n : Int) - 1, -1) := by
    unfold Builtin.Slice.sliceAdjust
    simp
  have e2 : Builtin.Slice.slicePlaces ((n : Int) - 1) (-1) (-1) = n := by
    unfold Builtin.Slice.slicePlaces
    have h1 : ¬ ((-1 : Int) > 0) := by decide
    simp only [h1, if_false]
    by_cases g : (n : Int) - 1 > -1
    · rw [if_pos g, show (- -1 : Int) = 1 by decide, Int.ediv_one]
      omega
    · rw [if_neg g]
      show (0 : Nat) = n
      omega
  show wpAny _ _ (match Builtin.Slice.sliceAdjust none none (-1) (n : Int) with | (lo, hi) => pure (lo, (-1 : Int), Builtin.Slice.slicePlaces lo hi (-1))) _ _ s
  rw [e]
  show wpAny _ _ (pure ((n : Int) - 1, (-1 : Int), Builtin.Slice.slicePlaces ((n : Int) - 1) (-1) (-1))) _ _ s
  rw [e2]
  exact wpAny_pure h
theorem fm_congr {α β : Type} {f g : α → Option β} : ∀ l : List α, (∀ a, a ∈ l → f a = g a) → l.filterMap f = l.filterMap g
  | [], _ => rfl
  | a :: l, h => by
    rw [List.filterMap_cons, List.filterMap_cons, h a List.mem_cons_self, fm_congr l fun b hb => h b (List.mem_cons_of_mem _ hb)]
theorem fm_all {α : Type} : ∀ l : List α, (List.range l.length).filterMap (fun m => l[m]?) = l
  | [] => rfl
  | a :: l => by
    rw [List.length_cons, List.range_succ_eq_map, List.filterMap_cons, List.filterMap_map]
    show a :: (List.range l.length).filterMap (fun m => (a :: l)[m + 1]?) = a :: l
    congr 1
    exact fm_all l
theorem pick_rev (xs : Array Value) : ((List.range xs.size).filterMap fun (m : Nat) => xs[(((xs.size : Int) - 1) + (m : Int) * -1).toNat]?).toArray = xs.toList.reverse.toArray := by
  congr 1
  have e : ∀ m, m ∈ List.range xs.size → xs[(((xs.size : Int) - 1) + (m : Int) * -1).toNat]? = xs.toList.reverse[m]? := by
    intro m hm
    have hm := List.mem_range.mp hm
    rw [List.getElem?_reverse (by rw [Array.length_toList]; exact hm), Array.length_toList, ← Array.getElem?_toList]
    congr 1
    omega
  rw [fm_congr _ e]
  have z := fm_all xs.toList.reverse
  rw [List.length_reverse, Array.length_toList] at z
  exact z
theorem getItem_tuple_rev {t sl : Addr} {items : Array Value} {vk : Value} {Q : Value → Shared → Prop} (ht : IsTup s.heap t items) (hs : s.heap.IsSliceOf sl .none .none vk) (pk : IsPart vk (some (-1)))
    (h : Q (.ref s.heap.objs.size) { s with heap := s.heap.push { cls := .type "tuple", data := .seq items.toList.reverse.toArray } })
    (hsz : items.size ≤ sizeLine) : wpAny (model prog w) A (getItem (.ref t) (.ref sl)) Q E s := by
  have htake : sizeOk (.seq items.toList.reverse.toArray) := by
    show items.toList.reverse.toArray.size ≤ sizeLine
    rw [List.size_toArray, List.length_reverse, Array.length_toList]
    exact hsz
  obtain ⟨os, hos, hcs, hds⟩ := id hs
  have hTs : s.TypeIs (.ref sl) "slice" := ⟨os, hos, hcs⟩
  unfold getItem
  try with_reducible refine wpAny_holding ?_
  first | refine wpAny_bind (wpAny_pure ?_) | skip
  refine wpAny_bind (wpAny_sequenceKey ht.typeIs (by decide) ?_)
  refine wpAny_bind (wpAny_callSpecial?_slot (name := Str.ofString "__getitem__") ht.typeIs PyProof.Rows.slot_tuple_getitem
    (wpAny_call_entry PyProof.Rows.slot_tuple_getitem ht.typeIs entry_tuple_getitem ?_ (args_tuple_getitem _ _)))
  show wpAny _ _ (Builtin.Tuple.tupleItemsOf (.ref t) >>= _) _ _ s
  refine wpAny_bind (tupleItemsOf_ ht ?_)
  refine wpAny_bind (wpAny_typeOf hTs ?_)
  rw [if_pos (by decide)]
  refine wpAny_bind (sliceApplied_rev hs pk ?_)
  have hno : ¬ ((((items.size : Int) - 1) == 0 && (-1 : Int) == 1 && items.size == items.size) = true) := by
    intro q
    rw [Bool.and_eq_true, Bool.and_eq_true] at q
    exact absurd q.1.2 (by decide)
  show wpAny _ _ (if (((items.size : Int) - 1) == 0 && (-1 : Int) == 1 && items.size == items.size) = true then _ else _) _ _ s
  rw [if_neg hno, pick_rev]
  first
    | exact wpAny_bind (m := Builtin.Tuple.tupleExact _) (wpAny_newObj_type (wpAny_pure ⟨_, rfl, wpAny_pure h⟩) htake)
    | exact wpAny_bind (m := Builtin.Tuple.tupleExact _) (wpAny_newObj_type (wpAny_bind (wpAny_pure (wpAny_pure ⟨_, rfl, wpAny_pure h⟩))) htake)
    | exact wpAny_bind (wpAny_bind (m := Builtin.Tuple.tupleExact _) (wpAny_newObj_type (wpAny_pure (wpAny_pure ⟨_, rfl, wpAny_pure h⟩)) htake))
    | exact wpAny_bind (wpAny_bind (m := Builtin.Tuple.tupleExact _) (wpAny_newObj_type (wpAny_pure ⟨_, rfl, wpAny_pure h⟩) htake))
end
def tRv (K : PySem.W.Frag) (te : TE) (ts : TO) : TE := fun σ H Q => te σ H fun x H1 => ts σ H1 fun k H2 => k = some (-1) ∧ ∃ a xs, x = .ref a ∧ SqT K H2 a xs ∧ ∀ p H3, H2 p = none → Same H2 H3 → H3 p = some (.tup xs.reverse) → Q (.ref p) H3
section
variable {X : Cx} {e : Expr} {te : TE} {st : Option Expr} {ts : TO}
theorem pe_revT {p2 pos : Pos} (he : PE X e te) (hk : PO X st ts) (hsub : ∀ v u, ∃ ops, subscripted (.Slice none none st p2) false v u = operate ops (getItem v u) := by intros; exact ⟨_, by with_unfolding_all rfl⟩) : PE X (.Subscript e (.Slice none none st p2) pos) (tRv X.K te ts) := by
  refine ⟨fun pins s σ H Q I h => ?_⟩
  refine Subscript_ (thn (he.run pins s σ H _ I h) fun v s1 ⟨x, H1, I1, r1, q1⟩ => ?_)
  refine wpAny_Slice ?_
  rw [evalPart_none]
  refine wpAny_pure (wpAny_pure ?_)
  refine thn (hk.run pins s1 σ H1 _ I1 q1) fun vk s3 ⟨k, H3, I3, pk, q3⟩ => ?_
  obtain ⟨rfl, a, xs, rfl, hx, q⟩ := q3
  have I4 : Inv X pins σ H3 { s3 with heap := s3.heap.push { cls := .type "slice", data := .fields #[.none, .none, vk] } } := I3.kept (t' := s3.toks) fun b ob q => Heap.get?_push_of_some _ q
  cases r1
  obtain ⟨its, r, ht, hz⟩ := I4.tuple hx
  have hlen : its.toArray.size = xs.length := by rw [List.size_toArray]; exact r.length.symm
  obtain ⟨ops, hops⟩ := hsub (.ref a) (.ref s3.heap.objs.size)
  refine tail_any (ops := ops) ht.typeIs PyProof.Rows.slot_tuple_getitem.lookup (getItem_tuple_rev ht (Heap.IsSliceOf.new ..) pk ?_ (by rw [hlen]; exact hz)) hops
  refine ⟨.ref _, _, I4.laid (t' := s3.toks) (o := .tup xs.reverse) (fun b ob q => Heap.get?_push_of_some _ q) (Nat.le_refl _) ?_, rfl, q _ _ (I4.hok.fresh (Nat.le_refl _)) (same_new (I4.hok.fresh (Nat.le_refl _))) upd_same⟩
  refine ⟨by rw [List.length_reverse]; exact hz, _, r.reverse, IsTup.new _ _⟩
end
end Lk
end
section
set_option maxRecDepth 100000
set_option maxHeartbeats 4000000
/-! The law's bent texts. -/
namespace Lk
open PySem PySem.Spec PyProof.Rows L2
/-- a text again, so long at most -/
def spBent : Sp := fun vs H Q _ => ∃ (a : Addr) (n : Int) (l : List Nat), vs = [.ref a, .str (SX.S l)] ∧ Urn H a n ∧ n ≤ 90000 ∧ TxOk 400 l ∧ ∀ l' n' H', TxOk 2000 l' → Urn H' a n' → n' ≤ n + 20 → SameBut a H H' → Q (.str (SX.S l')) H'
abbrev nBt : List Str := ["pail", "text", "words", "at", "way", "some", "turn", "spot", "sign"]
section
variable {P : Program} {w : World} {K : PySem.W.Frag} {mg : Str → Option Value} {base : Heap}
theorem sc_bent : FnScope nBt ["pail", "text"] (defScope s_law_bent) := ⟨rfl, rfl, rfl, by decide +kernel, rfl, by decide +kernel, by decide +kernel⟩
theorem ok_bent {f : Addr} {fd : FuncData} (F : Fun K "_law_bent" "_law_bent" s_law_bent f fd) (dip : C8.Cal P w K mg base 1 "_law_dip" spPull []) (ml : mg "len" = none) (mr : mg "range" = none) : FnOk P w K mg base CX0 5 f fd ["pail", "text"] spBent := by
  refine F.ok sc_bent (fun vs H Q E h => ?_) (fun cdv A outer s H vs Q E hr h => ?_)
  · obtain ⟨a, n, l, rfl, _⟩ := h
    rfl
  · obtain ⟨a, n, l, rfl, hU, hn, hl, q⟩ := h
    have nd := sc_bent.nd
    refine ⟨_, (pss_cons (by exact (ps_set (i := 2) nd rfl (Or.inl rfl) (pe_split (pv 1) pe_str)))
      (pss_cons (by exact (ps_set (i := 3) nd rfl (Or.inl rfl) (C8.pe_c dip hr (by decide) rfl (pa_cons (pv 0) (pa_cons (pe_callB call_len_seq (by rfl) ml PySem.boot_len (pa_cons (pv 2) pa_nil)) pa_nil)))))
      (pss_cons (by exact (ps_set (i := 4) nd rfl (Or.inl rfl) (C8.pe_c dip hr (by decide) rfl (pa_cons (pv 0) (pa_cons pe_int pa_nil)))))
      (pss_cons (by exact (ps_if (pt_cmpR op_eq (pv 4) pe_int (nomark _)) (pss_one (by exact (ps_ret (pe_join pe_str (pe_op op_catS (pe_slice sl_list (pv 2) po_none (po_some (pv 3))) (pe_slice sl_list (pv 2) (po_some (pe_op op_add (pv 3) pe_int)) po_none)))))) pss_nil))
      (pss_cons (by exact (ps_if (pt_cmpR op_eq (pv 4) pe_int (nomark _)) (pss_one (by exact (ps_ret (pe_join pe_str (pe_op op_catS (pe_op op_catS (pe_slice sl_list (pv 2) po_none (po_some (pv 3))) (pe_op op_rep (pe_slice sl_list (pv 2) (po_some (pv 3)) (po_some (pe_op op_add (pv 3) pe_int))) pe_int)) (pe_slice sl_list (pv 2) (po_some (pe_op op_add (pv 3) pe_int)) po_none)))))) pss_nil))
      (pss_cons (by exact (ps_if (pt_cmpR op_eq (pv 4) pe_int (nomark _)) (pss_one (by exact (ps_ret (pe_join pe_str (pe_op op_catS (pe_op op_catS (pe_slice sl_list (pv 2) po_none (po_some (pv 3))) (pe_revL (pe_slice sl_list (pv 2) (po_some (pv 3)) (po_some (pe_op op_add (pv 3) pe_int))))) (pe_slice sl_list (pv 2) (po_some (pe_op op_add (pv 3) pe_int)) po_none)))))) pss_nil))
      (pss_cons (by exact (ps_if (pt_cmpR op_eq (pv 4) pe_int (nomark _)) (pss_cons (by exact (ps_set (i := 5) nd rfl (Or.inl rfl) (pe_lstS (pa_cons pe_str (pa_cons pe_str (pa_cons pe_str (pa_cons pe_str (pa_cons pe_str (pa_cons pe_str (pa_cons pe_str (pa_cons pe_str (pa_cons pe_str (pa_cons pe_str (pa_cons pe_str (pa_cons pe_str (pa_cons (pe_op op_mulS pe_str pe_int) (pa_cons (pe_op op_mulS pe_str pe_int) (pa_cons pe_str (pa_cons pe_str pa_nil)))))))))))))))))))
      (pss_cons (by exact (ps_asg (pe_ix ix_list (pv 5) (C8.pe_c dip hr (by decide) rfl (pa_cons (pv 0) (pa_cons (pe_callB call_len_seq (by rfl) ml PySem.boot_len (pa_cons (pv 5) pa_nil)) pa_nil))) (fun _ _ => rfl)) (pg_sub (pv 2) (pv 3) set_list)))
      (pss_one (by exact (ps_ret (pe_join pe_str (pv 2))))))) pss_nil))
      (pss_cons (by exact (ps_if (pt_cmpR op_eq (pv 4) pe_int (nomark _)) (pss_one (by exact (ps_ret (pe_join pe_str (pe_op op_catS (pe_slice sl_list (pv 2) po_none (po_some pe_int)) (pe_op op_rep (pe_lstS (pa_cons pe_str pa_nil)) (pe_op op_add pe_int (C8.pe_c dip hr (by decide) rfl (pa_cons (pv 0) (pa_cons pe_int pa_nil)))))))))) pss_nil))
      (pss_cons (by exact (ps_for PassesOwn.never rfl (pi_range1 (by rfl) mr (pa_cons (pe_op op_add pe_int (C8.pe_c dip hr (by decide) rfl (pa_cons (pv 0) (pa_cons pe_int pa_nil)))) pa_nil)) (pg_name (i := 6) nd rfl (Or.inl rfl)) (pss_cons (by exact (ps_set (i := 7) nd rfl (Or.inl rfl) (C8.pe_c dip hr (by decide) rfl (pa_cons (pv 0) (pa_cons (pe_op op_add (pe_callB call_len_str (by rfl) ml PySem.boot_len (pa_cons (pv 1) pa_nil)) pe_int) pa_nil)))))
      (pss_cons (by exact (ps_set (i := 8) nd rfl (Or.inl rfl) (pe_ix ix_list (pe_lstS (pa_cons (pe_item_str pe_str (C8.pe_c dip hr (by decide) rfl (pa_cons (pv 0) (pa_cons pe_int pa_nil))) (fun _ _ => rfl)) (pa_cons pe_str pa_nil))) (pe_op op_fdiv (C8.pe_c dip hr (by decide) rfl (pa_cons (pv 0) (pa_cons pe_int pa_nil))) pe_int) (fun _ _ => rfl))))
      (pss_one (by exact (ps_set (i := 1) nd rfl (Or.inl rfl) (pe_op op_add_str (pe_op op_add_str (pe_slice C8.sl_txt (pv 1) po_none (po_some (pv 7))) (pv 8)) (pe_slice C8.sl_txt (pv 1) (po_some (pe_op op_add (pv 7) (C8.pe_c dip hr (by decide) rfl (pa_cons (pv 0) (pa_cons pe_int pa_nil))))) po_none)))))))))
      (pss_one (by exact (ps_ret (pv 1))))))))))))), ?_⟩
    obtain ⟨ws, ews⟩ : ∃ ws, ws = TL.spl [32] 0 [] l := ⟨_, rfl⟩
    have wt : tot ws ≤ 401 := by
      have z := tot_spl l 0 []
      rw [← ews] at z
      have e0 : ([] : List Nat).length = 0 := rfl
      have z2 := hl.1
      omega
    have wc : ∀ w ∈ ws, ∀ c ∈ w, c < 1114112 := fun w hw c hc => by
      rw [ews] at hw
      rcases spl_from l 0 [] w hw c hc with z | z
      · cases z
      · exact hl.2 c z
    have hsp : Txt.split (SX.S l) (Str.ofString " ") = ws.map SX.S := by
      have e : Str.ofString " " = SX.S [32] := by decide +kernel
      rw [e, SX.split_S (List.cons_ne_nil _ _) (by decide), ews]
    have lx : (SX.S l).length ≤ 400 := by rw [SX.S_len]; exact hl.1
    refine ⟨_, rfl, ⟨_, rfl⟩, SX.S l, Str.ofString " ", rfl, rfl, by decide +kernel, Nat.le_trans (show (SX.S l).length + 2 ≤ 100002 by omega) (by decide), fun W nW => ?_⟩
    rw [hsp]
    obtain ⟨ys, eys⟩ : ∃ ys, ys = (ws.map SX.S).map V.str := ⟨_, rfl⟩
    rw [← eys]
    have yl : ys.length = ws.length := by rw [eys, List.length_map, List.length_map]
    have sW := same_new (o := .lst ys) nW
    generalize hHW : upd H W (.lst ys) = HW at sW ⊢
    have eW : HW W = some (.lst ys) := by rw [← hHW]; exact upd_same
    have aW : a ≠ W := hU.ne nW
    have w1 : 1 ≤ ws.length := by
      rw [ews]
      exact spl_pos l 0 []
    have w401 : ws.length ≤ 401 := Nat.le_trans (tot_len ws) wt
    refine ⟨_, rfl, _, rfl, W, ys, rfl, .inl (SqL.of eW), a, (ys.length : Int), n, rfl, hU.same sW, by omega, by omega, by omega, fun i H1 i0 i1 U1 b1 => ?_⟩
    have eW1 := b1 W _ aW.symm eW
    refine ⟨_, rfl, a, 8, n + 1, rfl, U1, by omega, by decide, by decide, fun y H2 y0 y1 U2 b2 => ?_⟩
    have eW2 := b2 W _ aW.symm eW1
    obtain ⟨k, rfl⟩ := Int.eq_ofNat_of_zero_le i0
    have hk : k < ws.length := by omega
    have b02 : SameBut a H H2 := fun b o nb e => b2 b o nb (b1 b o nb (sW b o e))
    have fin : ∀ (D : Addr) (H3 : Hp) (us : List (List Nat)) (n3 : Int), SameBut a H H3 → Urn H3 a n3 → n3 ≤ n + 20 → H3 D = some (.lst ((us.map SX.S).map V.str)) → tot us ≤ 2000 → (∀ w ∈ us, ∀ c ∈ w, c < 1114112) →
        ∃ b p zs, V.str (Str.ofString " ") = V.str b ∧ [V.ref D] = [V.ref p] ∧ (SqL K H3 p (zs.map V.str) ∨ SqT K H3 p (zs.map V.str)) ∧ (zs.map fun x => x.length).sum + zs.length * b.length ≤ 16777216 ∧ Q (.str (Txt.join b zs)) H3 := fun D H3 us n3 s3 u3 b3 e3 t3 c3 => by
      refine ⟨Str.ofString " ", D, us.map SX.S, rfl, rfl, .inl (SqL.of e3), ?_, ?_⟩
      · have z := sum_tot us
        have e1 : (Str.ofString " ").length = 1 := by decide +kernel
        rw [e1, List.length_map, Nat.mul_one]
        omega
      · rw [join_blank]
        exact q _ _ H3 (txOk_join t3 c3) u3 b3 s3
    have cw : ∀ {us : List (List Nat)}, (∀ w ∈ us, w ∈ ws) → ∀ w ∈ us, ∀ c ∈ w, c < 1114112 := fun h w hw => wc w (h w hw)
    have ymap : ys = (ws.map SX.S).map V.str := eys
    have ytake : ∀ m, ys.take m = ((ws.take m).map SX.S).map V.str := fun m => by rw [eys, ← List.map_take, ← List.map_take]
    have ydrop : ∀ m, ys.drop m = ((ws.drop m).map SX.S).map V.str := fun m => by rw [eys, ← List.map_drop, ← List.map_drop]
    have cutAny : ∀ i j : Nat, ∃ zs : List (List Nat), cutV ys (some (i : Int)) (some (j : Int)) = (zs.map SX.S).map V.str ∧ tot zs ≤ tot ws ∧ zs.length ≤ ws.length ∧ (∀ w ∈ zs, w ∈ ws) := fun i j => by
      refine ⟨(ws.drop (min i ys.length)).take (min j ys.length - min i ys.length), ?_, ?_, ?_, fun w hw => List.mem_of_mem_drop (List.mem_of_mem_take hw)⟩
      · unfold cutV
        rw [HT.sIx_nat, HT.sIx_nat, eys, ← List.map_drop, ← List.map_drop, ← List.map_take, ← List.map_take]
      · exact Nat.le_trans (tot_take _ _) (tot_drop _ _)
      · rw [List.length_take, List.length_drop]; omega
    have small : ∀ {xs zs : List V}, xs.length ≤ 5000 → zs.length ≤ 5000 → xs.length + zs.length ≤ sizeLine := fun h1 h2 => Nat.le_trans (show _ ≤ 10000 by omega) (by decide)
    refine ⟨_, rfl, rfl, _, rfl, ite2 (fun g0 => ?_) (fun g0 => ⟨_, rfl, rfl, _, rfl, ite2 (fun g1 => ?_) (fun g1 => ⟨_, rfl, rfl, _, rfl, ite2 (fun g2 => ?_) (fun g2 => ⟨_, rfl, rfl, _, rfl, ite2 (fun g3 => ?_) (fun g3 => ⟨_, rfl, rfl, _, rfl, ite2 (fun g4 => ?_) (fun g4 => ?_)⟩)⟩)⟩)⟩)⟩
    · refine ⟨⟨_, rfl⟩, _, rfl, _, rfl, _, rfl, W, ys, rfl, SqL.of eW2, fun SA nA => ?_⟩
      have ct : cutV ys Option.none (some (k : Int)) = ys.take k := cut_to (by omega)
      rw [ct, ytake]
      have sA := same_new (o := .lst (((ws.take k).map SX.S).map V.str)) nA
      have eA : upd H2 SA (.lst (((ws.take k).map SX.S).map V.str)) SA = some (.lst (((ws.take k).map SX.S).map V.str)) := upd_same
      generalize upd H2 SA (.lst (((ws.take k).map SX.S).map V.str)) = HA at sA eA ⊢
      refine ⟨_, rfl, _, rfl, _, _, rfl, rfl, _, rfl, W, ys, rfl, SqL.of (sA _ _ eW2), fun SB nB => ?_⟩
      have cf : cutV ys (some ((k : Int) + 1)) Option.none = ys.drop (k + 1) := cut_from (n := k + 1)
      rw [cf, ydrop]
      have sB := same_new (o := .lst (((ws.drop (k + 1)).map SX.S).map V.str)) nB
      have eB : upd HA SB (.lst (((ws.drop (k + 1)).map SX.S).map V.str)) SB = some (.lst (((ws.drop (k + 1)).map SX.S).map V.str)) := upd_same
      generalize upd HA SB (.lst (((ws.drop (k + 1)).map SX.S).map V.str)) = HB at sB eB ⊢
      refine ⟨SA, SB, _, _, rfl, rfl, sB _ _ eA, eB, small (by rw [List.length_map, List.length_map, List.length_take]; omega) (by rw [List.length_map, List.length_map, List.length_drop]; omega), fun SC HC nC sC eC => ?_⟩
      refine fin SC HC (ws.take k ++ ws.drop (k + 1)) _ (b02.trans (Same.but (sA.trans (sB.trans sC)))) (((U2.same sA).same sB).same sC) (by omega) (by rw [eC, List.map_append, List.map_append]) ?_ (cw fun w hw => (List.mem_append.mp hw).elim List.mem_of_mem_take List.mem_of_mem_drop)
      rw [tot_app]
      have z1 := tot_take k ws
      have z2 := tot_drop (k + 1) ws
      omega
    · refine ⟨⟨_, rfl⟩, _, rfl, _, rfl, _, rfl, W, ys, rfl, SqL.of eW2, fun SA nA => ?_⟩
      have ct : cutV ys Option.none (some (k : Int)) = ys.take k := cut_to (by omega)
      rw [ct, ytake]
      have sA := same_new (o := .lst (((ws.take k).map SX.S).map V.str)) nA
      have eA : upd H2 SA (.lst (((ws.take k).map SX.S).map V.str)) SA = some (.lst (((ws.take k).map SX.S).map V.str)) := upd_same
      generalize upd H2 SA (.lst (((ws.take k).map SX.S).map V.str)) = HA at sA eA ⊢
      obtain ⟨zs, cz, tz, lz, mz⟩ := cutAny k (k + 1)
      refine ⟨_, rfl, _, rfl, _, rfl, _, rfl, _, _, rfl, rfl, _, rfl, W, ys, rfl, SqL.of (sA _ _ eW2), fun SB nB => ?_⟩
      have cz' : cutV ys (some (k : Int)) (some ((k : Int) + 1)) = (zs.map SX.S).map V.str := cz
      rw [cz']
      have sB := same_new (o := .lst ((zs.map SX.S).map V.str)) nB
      have eB : upd HA SB (.lst ((zs.map SX.S).map V.str)) SB = some (.lst ((zs.map SX.S).map V.str)) := upd_same
      generalize upd HA SB (.lst ((zs.map SX.S).map V.str)) = HB at sB eB ⊢
      refine ⟨SB, 2, _, rfl, rfl, eB, by decide, by decide, Nat.le_trans (show _ * 2 ≤ 2000 by rw [List.length_map, List.length_map]; omega) (by decide), fun SC nC => ?_⟩
      have e2 : (List.replicate (2 : Int).toNat ((zs.map SX.S).map V.str)).flatten = ((zs ++ zs).map SX.S).map V.str := by
        rw [List.map_append, List.map_append]
        show (zs.map SX.S).map V.str ++ ((zs.map SX.S).map V.str ++ []) = _
        rw [List.append_nil]
      rw [e2]
      have sC := same_new (o := .lst (((zs ++ zs).map SX.S).map V.str)) nC
      have eC : upd HB SC (.lst (((zs ++ zs).map SX.S).map V.str)) SC = some (.lst (((zs ++ zs).map SX.S).map V.str)) := upd_same
      generalize upd HB SC (.lst (((zs ++ zs).map SX.S).map V.str)) = HC at sC eC ⊢
      refine ⟨SA, SC, _, _, rfl, rfl, sC _ _ (sB _ _ eA), eC, small (by rw [List.length_map, List.length_map, List.length_take]; omega) (by rw [List.length_map, List.length_map, List.length_append]; exact Nat.le_trans (show zs.length + zs.length ≤ 802 by omega) (by decide)), fun SD HD nD sD eD => ?_⟩
      have sAD := sA.trans (sB.trans (sC.trans sD))
      refine ⟨_, rfl, _, rfl, _, _, rfl, rfl, _, rfl, W, ys, rfl, SqL.of (sAD _ _ eW2), fun SE nE => ?_⟩
      have cf : cutV ys (some ((k : Int) + 1)) Option.none = ys.drop (k + 1) := cut_from (n := k + 1)
      rw [cf, ydrop]
      have sE := same_new (o := .lst (((ws.drop (k + 1)).map SX.S).map V.str)) nE
      have eE : upd HD SE (.lst (((ws.drop (k + 1)).map SX.S).map V.str)) SE = some (.lst (((ws.drop (k + 1)).map SX.S).map V.str)) := upd_same
      generalize upd HD SE (.lst (((ws.drop (k + 1)).map SX.S).map V.str)) = HE at sE eE ⊢
      refine ⟨SD, SE, _, _, rfl, rfl, sE _ _ eD, eE, small (by rw [List.length_append, List.length_map, List.length_map, List.length_map, List.length_map, List.length_take, List.length_append]; omega) (by rw [List.length_map, List.length_map, List.length_drop]; omega), fun SF HF nF sF eF => ?_⟩
      have sAF := sAD.trans (sE.trans sF)
      refine fin SF HF (ws.take k ++ (zs ++ zs) ++ ws.drop (k + 1)) _ (b02.trans (Same.but sAF)) (U2.same sAF) (by omega) (by rw [eF]; simp only [List.map_append, List.append_assoc]) ?_ (cw fun w hw => (List.mem_append.mp hw).elim (fun hw => (List.mem_append.mp hw).elim List.mem_of_mem_take fun hw => (List.mem_append.mp hw).elim (mz w) (mz w)) List.mem_of_mem_drop)
      rw [tot_app, tot_app, tot_app]
      have z1 := tot_take k ws
      have z2 := tot_drop (k + 1) ws
      omega
    · refine ⟨⟨_, rfl⟩, _, rfl, _, rfl, _, rfl, W, ys, rfl, SqL.of eW2, fun SA nA => ?_⟩
      have ct : cutV ys Option.none (some (k : Int)) = ys.take k := cut_to (by omega)
      rw [ct, ytake]
      have sA := same_new (o := .lst (((ws.take k).map SX.S).map V.str)) nA
      have eA : upd H2 SA (.lst (((ws.take k).map SX.S).map V.str)) SA = some (.lst (((ws.take k).map SX.S).map V.str)) := upd_same
      generalize upd H2 SA (.lst (((ws.take k).map SX.S).map V.str)) = HA at sA eA ⊢
      obtain ⟨zs, cz, tz, lz, mz⟩ := cutAny k (k + 2)
      refine ⟨_, rfl, _, rfl, _, rfl, _, rfl, _, _, rfl, rfl, _, rfl, W, ys, rfl, SqL.of (sA _ _ eW2), fun SB nB => ?_⟩
      have cz' : cutV ys (some (k : Int)) (some ((k : Int) + 2)) = (zs.map SX.S).map V.str := cz
      rw [cz']
      have sB := same_new (o := .lst ((zs.map SX.S).map V.str)) nB
      have eB : upd HA SB (.lst ((zs.map SX.S).map V.str)) SB = some (.lst ((zs.map SX.S).map V.str)) := upd_same
      generalize upd HA SB (.lst ((zs.map SX.S).map V.str)) = HB at sB eB ⊢
      refine ⟨SB, _, rfl, SqL.of eB, fun SC nC => ?_⟩
      have e2 : ((zs.map SX.S).map V.str).reverse = ((zs.reverse).map SX.S).map V.str := by rw [List.map_reverse, List.map_reverse]
      rw [e2]
      have sC := same_new (o := .lst (((zs.reverse).map SX.S).map V.str)) nC
      have eC : upd HB SC (.lst (((zs.reverse).map SX.S).map V.str)) SC = some (.lst (((zs.reverse).map SX.S).map V.str)) := upd_same
      generalize upd HB SC (.lst (((zs.reverse).map SX.S).map V.str)) = HC at sC eC ⊢
      refine ⟨SA, SC, _, _, rfl, rfl, sC _ _ (sB _ _ eA), eC, small (by rw [List.length_map, List.length_map, List.length_take]; omega) (by rw [List.length_map, List.length_map, List.length_reverse]; omega), fun SD HD nD sD eD => ?_⟩
      have sAD := sA.trans (sB.trans (sC.trans sD))
      refine ⟨_, rfl, _, rfl, _, _, rfl, rfl, _, rfl, W, ys, rfl, SqL.of (sAD _ _ eW2), fun SE nE => ?_⟩
      have cf : cutV ys (some ((k : Int) + 2)) Option.none = ys.drop (k + 2) := cut_from (n := k + 2)
      rw [cf, ydrop]
      have sE := same_new (o := .lst (((ws.drop (k + 2)).map SX.S).map V.str)) nE
      have eE : upd HD SE (.lst (((ws.drop (k + 2)).map SX.S).map V.str)) SE = some (.lst (((ws.drop (k + 2)).map SX.S).map V.str)) := upd_same
      generalize upd HD SE (.lst (((ws.drop (k + 2)).map SX.S).map V.str)) = HE at sE eE ⊢
      refine ⟨SD, SE, _, _, rfl, rfl, sE _ _ eD, eE, small (by rw [List.length_append, List.length_map, List.length_map, List.length_map, List.length_map, List.length_take, List.length_reverse]; omega) (by rw [List.length_map, List.length_map, List.length_drop]; omega), fun SF HF nF sF eF => ?_⟩
      have sAF := sAD.trans (sE.trans sF)
      refine fin SF HF (ws.take k ++ zs.reverse ++ ws.drop (k + 2)) _ (b02.trans (Same.but sAF)) (U2.same sAF) (by omega) (by rw [eF]; simp only [List.map_append, List.append_assoc]) ?_ (cw fun w hw => (List.mem_append.mp hw).elim (fun hw => (List.mem_append.mp hw).elim List.mem_of_mem_take fun hw => mz w (List.mem_reverse.mp hw)) List.mem_of_mem_drop)
      rw [tot_app, tot_app, tot_rev]
      have z1 := tot_take k ws
      have z2 := tot_drop (k + 2) ws
      omega
    · have e9 : V.str (Str.ofString "9") = V.str (SX.S [57]) := congrArg V.str (by decide +kernel)
      refine ⟨[57], 40, e9, rfl, by decide, by decide, [57], 41, e9, rfl, by decide, by decide, (by show 16 ≤ sizeLine; decide), fun M HM nM sM eM => ?_⟩
      obtain ⟨w16, e16, l16, c16⟩ := sixteen
      rw [e16] at eM
      have UM := U2.same sM
      have naM : M ≠ a := (U2.ne nM).symm
      refine ⟨_, rfl, _, rfl, _, rfl, M, _, rfl, .inl (SqL.of eM), ?_⟩
      refine ⟨a, ((16 : Nat) : Int), n + 1 + 1, by rw [List.length_map, List.length_map, l16]; rfl, UM, by omega, by decide, by decide, fun v5 H5 v50 v51 U5 b5 => ?_⟩
      obtain ⟨j, rfl⟩ := Int.eq_ofNat_of_zero_le v50
      have hj : j < w16.length := by omega
      have eM5 := b5 M _ naM eM
      have eW5 := b5 W _ aW.symm (sM _ _ eW2)
      obtain ⟨x, hx⟩ : ∃ x, w16[j]? = some x := ⟨_, List.getElem?_eq_getElem hj⟩
      have cx := c16 x (List.mem_of_getElem? hx)
      have at5 : atI ((w16.map SX.S).map V.str) (j : Int) = some (.str (SX.S x)) := atI_nat (by rw [List.getElem?_map, List.getElem?_map, hx]; rfl)
      refine ⟨M, _, (j : Int), _, rfl, rfl, SqL.of eM5, at5, _, rfl, _, rfl, W, ys, (k : Int), k, rfl, rfl, eW5, ixN_at (by omega), ?_⟩
      have eset : ys.set k (V.str (SX.S x)) = ((ws.set k x).map SX.S).map V.str := by rw [eys, List.map_set, List.map_set]
      rw [eset]
      refine ⟨⟨_, rfl⟩, _, rfl, ?_⟩
      refine fin W _ (ws.set k x) (n + 1 + 1 + 1) ?_ ?_ (by omega) upd_same (Nat.le_trans (tot_set _ _ _) (by omega)) (fun w hw => ?_)
      · exact fun b o nb e => by
          rw [upd_ne (ne_of_none e nW)]
          exact b5 b o nb (sM b o (b02 b o nb e))
      · obtain ⟨u0, u1, u2, e, r⟩ := U5
        exact ⟨u0, u1, u2, (upd_ne aW).trans e, r⟩
      · rcases List.mem_or_eq_of_mem_set hw with z | z
        · exact wc w z
        · rw [z]; exact cx.2
    · refine ⟨⟨_, rfl⟩, _, rfl, _, rfl, W, ys, rfl, SqL.of eW2, fun SA nA => ?_⟩
      have ct : cutV ys Option.none (some (3 : Int)) = ys.take (min 3 ys.length) := by
        unfold cutV
        rw [HT.sIx_none, show (3 : Int) = ((3 : Nat) : Int) from rfl, HT.sIx_nat, List.drop_zero, Nat.sub_zero]
      rw [ct, ytake]
      have sA := same_new (o := .lst (((ws.take (min 3 ys.length)).map SX.S).map V.str)) nA
      have eA : upd H2 SA (.lst (((ws.take (min 3 ys.length)).map SX.S).map V.str)) SA = some (.lst (((ws.take (min 3 ys.length)).map SX.S).map V.str)) := upd_same
      generalize upd H2 SA (.lst (((ws.take (min 3 ys.length)).map SX.S).map V.str)) = HA at sA eA ⊢
      refine ⟨(by show 1 ≤ sizeLine; decide), fun SB HB nB sB eB => ?_⟩
      refine ⟨_, rfl, a, 4, n + 1 + 1, rfl, (U2.same sA).same sB, by omega, by decide, by decide, fun z H4 z0 z1 U4 b4 => ?_⟩
      have eA4 := b4 SA _ (((U2.ne nA)).symm) (sB _ _ eA)
      have eB4 := b4 SB _ (((U2.same sA).ne nB).symm) eB
      refine ⟨_, _, rfl, rfl, ?_⟩
      obtain ⟨m, rfl⟩ := Int.eq_ofNat_of_zero_le z0
      refine ⟨SB, _, _, rfl, rfl, eB4, by omega, by omega, ?_, fun SC nC => ?_⟩
      · exact Nat.le_trans (show 1 * (11 + (m : Int)).toNat ≤ 100 by omega) (by decide)
      have e7 : (List.replicate (11 + (m : Int)).toNat [V.str (Str.ofString "7")]).flatten = ((List.replicate (11 + m) [55]).map SX.S).map V.str := by
        rw [show (11 + (m : Int)).toNat = 11 + m by omega, show Str.ofString "7" = SX.S [55] by decide +kernel, List.map_replicate, List.map_replicate]
        induction (11 + m) with
        | zero => rfl
        | succ i ih => rw [List.replicate_succ, List.replicate_succ, List.flatten_cons, ih]; rfl
      rw [e7]
      have sC := same_new (o := .lst (((List.replicate (11 + m) [55]).map SX.S).map V.str)) nC
      have eC : upd H4 SC (.lst (((List.replicate (11 + m) [55]).map SX.S).map V.str)) SC = some (.lst (((List.replicate (11 + m) [55]).map SX.S).map V.str)) := upd_same
      generalize upd H4 SC (.lst (((List.replicate (11 + m) [55]).map SX.S).map V.str)) = HC at sC eC ⊢
      refine ⟨SA, SC, _, _, rfl, rfl, sC _ _ eA4, eC, small (by rw [List.length_map, List.length_map, List.length_take]; omega) (by rw [List.length_map, List.length_map, List.length_replicate]; omega), fun SD HD nD sD eD => ?_⟩
      refine fin SD HD (ws.take (min 3 ys.length) ++ List.replicate (11 + m) [55]) (n + 1 + 1 + 1) ?_ ((U4.same sC).same sD) (by omega) (by rw [eD]; simp only [List.map_append]) ?_ fun w hw => ?_
      · exact fun b o nb e => sD b o (sC b o (b4 b o nb (sB b o (sA b o (b02 b o nb e)))))
      · rw [tot_app]
        have z1 := tot_take (min 3 ys.length) ws
        have z2 : ∀ k : Nat, tot (List.replicate k [55]) = 2 * k := fun k => by
          induction k with
          | zero => rfl
          | succ i ih => rw [List.replicate_succ, tot_cons, ih]; show 1 + 1 + 2 * i = _; omega
        rw [z2]
        omega
      · rcases List.mem_append.mp hw with z | z
        · exact wc w (List.mem_of_mem_take z)
        · rw [List.eq_of_mem_replicate z]; decide
    · refine ⟨_, rfl, a, 3, n + 1 + 1, rfl, U2, by omega, by decide, by decide, fun z H3 z0 z1 U3 b3 => ?_⟩
      obtain ⟨zn, rfl⟩ := Int.eq_ofNat_of_zero_le z0
      refine ⟨_, _, rfl, rfl, ((zn + 1 : Nat) : Int), by show [V.int (1 + (zn : Int))] = _; rw [Int.natCast_add, Int.add_comm]; rfl, by omega, by omega, ?_⟩
      rw [Int.toNat_natCast]
      refine for_range (lo := 0) (n := zn + 1) (fun i σ H4 => ∃ l4 y1 y2 y3 y4, σ = [some (.ref a), some (.str (SX.S l4)), some (.ref W), some (.int (k : Int)), some (.int y), y1, y2, y3, y4] ∧ TxOk (400 + i) l4 ∧ Urn H4 a (n + 3 + 4 * (i : Int)) ∧ SameBut a H H4) ⟨l, none, none, none, none, rfl, hl, U3.le (by omega), b02.trans b3⟩ ?_ ?_
      · rintro i σ H4 hi ⟨l4, y1, y2, y3, y4, rfl, ok4, U4, b4⟩
        have l4l : l4.length ≤ 500 := by have z := ok4.1; omega
        have x4l : (SX.S l4).length = l4.length := SX.S_len _
        obtain ⟨B40, hB⟩ : ∃ B : Int, B = 10 ^ 40 := ⟨_, rfl⟩
        have bign : (1000 : Int) ≤ B40 := by rw [hB]; decide
        refine ⟨_, rfl, _, rfl, SX.S l4, rfl, Nat.le_trans (show (SX.S l4).length ≤ 1000 by omega) (by decide), _, _, rfl, rfl, a, _, _, rfl, U4, by omega, by omega, by rw [← hB]; omega, fun v5 H5 v50 v51 U5 b5 => ?_⟩
        obtain ⟨sp, rfl⟩ := Int.eq_ofNat_of_zero_le v50
        refine ⟨_, rfl, a, 20, _, rfl, U5, by omega, by decide, by decide, fun v6 H6 v60 v61 U6 b6 => ?_⟩
        obtain ⟨i6, rfl⟩ := Int.eq_ofNat_of_zero_le v60
        obtain ⟨sgs, esg, lsg, csg⟩ := signs20
        obtain ⟨c, hc⟩ : ∃ c, sgs[i6]? = some c := ⟨_, List.getElem?_eq_getElem (by omega)⟩
        have cc := csg c (List.mem_of_getElem? hc)
        have e00 : Str.ofString "" = SX.S [] := by decide +kernel
        rw [esg, e00]
        refine ⟨_, _, c, rfl, rfl, by omega, by omega, by rw [SX.S_len]; omega, ?_, (by show 2 ≤ sizeLine; decide), fun L H7 nL s7 eL => ?_⟩
        · show (sgs.toArray)[i6]? = some c
          rw [List.getElem?_toArray]
          exact hc
        have naL : L ≠ a := (U6.ne nL).symm
        refine ⟨_, rfl, a, 3, _, rfl, U6.same s7, by omega, by decide, by decide, fun v8 H8 v80 v81 U8 b8 => ?_⟩
        have eL8 := b8 L _ naL eL
        obtain ⟨sn, okn, atn⟩ : ∃ sn : List Nat, TxOk 1 sn ∧ atI [V.str (SX.S [c]), V.str (SX.S [])] (v8 / 2) = some (.str (SX.S sn)) := by
          have c8 : v8 = 0 ∨ v8 = 1 ∨ v8 = 2 := by omega
          have one : TxOk 1 [c] := ⟨Nat.le_refl _, fun d hd => by rw [List.mem_singleton.mp hd]; exact cc⟩
          rcases c8 with rfl | rfl | rfl
          · exact ⟨[c], one, rfl⟩
          · exact ⟨[c], one, rfl⟩
          · exact ⟨[], ⟨Nat.zero_le _, fun d hd => by cases hd⟩, rfl⟩
        refine ⟨_, _, rfl, rfl, ⟨by decide, by decide⟩, L, _, v8 / 2, _, rfl, rfl, SqL.of eL8, atn, ?_⟩
        have sz : ∀ {l : List Nat}, l.length ≤ 1000 → (SX.S l).length ≤ sizeLine := fun h => by rw [SX.S_len]; exact Nat.le_trans h (by decide)
        refine ⟨_, rfl, _, rfl, _, rfl, SX.S l4, rfl, sz (by omega), ?_⟩
        rw [SX.slice_to (by omega), Int.toNat_natCast]
        have t1 := ok4.take sp
        refine ⟨_, rfl, _, _, rfl, rfl, ?_, ?_⟩
        · rw [SX.S_len, SX.S_len]
          have z1 := t1.1
          have z2 := okn.1
          exact Nat.le_trans (show _ ≤ 1000 by omega) (by decide)
        refine ⟨_, rfl, _, rfl, _, rfl, a, 2, _, rfl, U8, by omega, by decide, by decide, fun v9 H9 v90 v91 U9 b9 => ?_⟩
        obtain ⟨q9, rfl⟩ := Int.eq_ofNat_of_zero_le v90
        refine ⟨_, _, rfl, rfl, _, rfl, SX.S l4, rfl, sz (by omega), ?_⟩
        rw [show (sp : Int) + (q9 : Int) = ((sp + q9 : Nat) : Int) from rfl, SX.slice_from (Int.natCast_nonneg _), Int.toNat_natCast]
        have t2 := ok4.drop (sp + q9)
        have e7 : (l4.take sp ++ sn ++ l4.drop (sp + q9)).length ≤ 400 + (i + 1) := by
          have z1 := ok4.1
          have z2 := okn.1
          rw [List.length_append, List.length_append, List.length_take, List.length_drop]
          omega
        refine ⟨_, _, rfl, rfl, ?_, l4.take sp ++ sn ++ l4.drop (sp + q9), y1, some (.int (0 + (i : Int))), some (.int (sp : Int)), some (.str (SX.S sn)), ?_, ⟨e7, fun d hd => ?_⟩, U9.le (by push_cast; omega), ?_⟩
        · rw [SX.S_cat, SX.S_len, SX.S_len, ← List.length_append]
          exact Nat.le_trans e7 (Nat.le_trans (show _ ≤ 1000 by omega) (by decide))
        · rw [SX.S_cat, SX.S_cat]
          rfl
        · rcases List.mem_append.mp hd with z | z
          · rcases List.mem_append.mp z with z | z
            · exact t1.2 d z
            · exact okn.2 d z
          · exact t2.2 d z
        · exact fun b o nb e => b9 b o nb (b8 b o nb (s7 b o (b6 b o nb (b5 b o nb (b4 b o nb e)))))
      · rintro σ H4 ⟨l4, y1, y2, y3, y4, rfl, ok4, U4, b4⟩
        refine ⟨_, rfl, ?_⟩
        exact q l4 _ H4 ⟨by have z := ok4.1; omega, ok4.2⟩ U4 (by omega) b4
end
end Lk
end
section
set_option maxRecDepth 100000
set_option maxHeartbeats 4000000
namespace Lk
open PySem PySem.Spec PyProof.Rows L2 L2H HotX
/-- the coder of a text, or the word for what it raises -/
def spCaught : Sp := fun vs H Q _ => ∃ (v : V) (d : PyData), vs = [v] ∧ Th H v d ∧ (∀ x, d = .str x → x.length ≤ 100000) ∧ (readD d = none → ∀ H', Same H H' → Q (.str "text") H') ∧ (∀ e, readD d = some e → ∀ v' H', Same H H' → Th H' v' e → Q v' H')
section
variable {P : Program} {w : World} {K : PySem.W.Frag} {mg : Str → Option Value} {base : Heap}
abbrev nCa : List Str := ["thing", "e"]
theorem sc_caught : FnScope nCa ["thing"] (defScope s_law_caught) := ⟨rfl, rfl, rfl, by decide +kernel, rfl, by decide +kernel, by decide +kernel⟩
theorem kindW_text : kindW "NoText" = "text" := by decide +kernel
theorem ok_caught {f CE LE : Addr} {fd : FuncData} (F : Fun K "_law_caught" "_law_caught" s_law_caught f fd) (rc : CalN P w K mg base 4 "read_coder" (spReadCX CE)) (ck : CalE P w K mg base 1 "_law_kind" "caught" toldK [(CE, "NoText")])
    (gE : mg "LearnError" = some (.ref LE)) (te : PySem.W.exmOne K (.ref CE) (.ref LE) = some true) : FnOk P w K mg base CX0 5 f fd ["thing"] spCaught := by
  refine F.ok sc_caught (fun vs H Q E h => ?_) (fun cdv A outer s H vs Q E hr h => ?_)
  · obtain ⟨v, d, rfl, _⟩ := h
    rfl
  · obtain ⟨v, d, rfl, th, hx, q0, q1⟩ := h
    have nd := sc_caught.nd
    refine ⟨_, pss_one (L2N.ps_try_as (i := 1) (ts := fun a cls d => tRet (fun σ H Q => ∃ D nm, cls = .ref D ∧ d = none ∧ (D, nm) ∈ [(CE, ("NoText" : Str))] ∧ σ[1]? = some (some (.ref a)) ∧ toldK nm Q H)) rfl rfl nd rfl rfl ⟨rfl, by decide, Or.inl gE⟩ takes_no
        (fun W pn xe tk _ => (by exact (pss_one (by exact (ps_ret (pe_cN rc tk hr (by decide) rfl (pa_cons (pv 0) pa_nil)))))))
        (fun a oe cls d pn hz hf => by exact (pss_one (ps_ret (pe_cE ck (show RoomH 4 _ from ⟨hr.dp, hr.un⟩) (by decide) hz hf rfl List.mem_cons_self rfl rfl (.inl rfl)))))), ?_⟩
    refine ⟨_, rfl, v, d, rfl, th, hx, fun hd H1 s1 => ⟨true, te, fun _ a na => ⟨CE, "NoText", rfl, rfl, List.mem_cons_self, rfl, fun H2 s2 => ?_⟩, fun z => nomatch z⟩, fun e he v' H1 s1 t1 => q1 e he v' H1 s1 t1⟩
    rw [kindW_text]
    exact q0 hd H2 (Same.trans s1 s2)
end
end Lk
end
section
set_option maxRecDepth 100000
set_option maxHeartbeats 1000000
/-! The texts that the law asks with. -/
namespace Lk
open PySem PySem.Spec PyProof.Rows L2
theorem small45 {n : Nat} (h : n < 10 ^ 45) : ((n : Nat) : Int).natAbs.log2 < 1920 := by
  have e : ((n : Nat) : Int).natAbs = n := Int.natAbs_natCast n
  rw [e]
  by_cases z : n = 0
  · rw [z]; decide
  · rw [Nat.log2_lt z]
    exact Nat.lt_trans h (by decide +kernel)
theorem tot_dec : ∀ l : List Nat, (∀ n ∈ l, n < 10 ^ 30) → tot (l.map dec) ≤ l.length * 31
  | [], _ => Nat.zero_le _
  | n :: l, h => by
    have z := tot_dec l fun m hm => h m (List.mem_cons_of_mem _ hm)
    have y := dec_len (n := n) (k := 30) (by decide) (h n List.mem_cons_self)
    rw [List.map_cons, tot_cons, List.length_cons]
    omega
theorem low_show {c : Cd} : ∀ x ∈ showL c, x < 128 := fun x hx => by
  unfold showL at hx
  have dl : ∀ n, ∀ y ∈ dec n, y < 128 := fun n y hy => by
    have z := dec_digits n y hy
    omega
  rcases join_from _ x hx with e | ⟨w, hw, z⟩
  · rw [e]; decide
  · unfold wordsC at hw
    rcases List.mem_cons.mp hw with rfl | hw
    · clear hx; revert x z; decide
    rcases List.mem_cons.mp hw with rfl | hw
    · exact dl _ x z
    rcases List.mem_cons.mp hw with rfl | hw
    · clear hx; revert x z; decide
    obtain ⟨n, _, rfl⟩ := List.mem_map.mp hw
    exact dl n x z
theorem ok_show {c : Cd} (h1 : c.1 < 12) (h2 : c.2.length ≤ 12) (h : ∀ n ∈ c.2, n < 10 ^ 30) : TxOk 390 (showL c) := by
  refine ⟨Nat.le_trans (tot_join _) ?_, fun x hx => Nat.lt_trans (low_show x hx) (by decide)⟩
  unfold wordsC
  have y := dec_len (n := c.1) (k := 2) (by decide) (by omega)
  have z := tot_dec c.2 h
  rw [tot_cons, tot_cons, tot_cons]
  have e1 : ([97, 116] : List Nat).length = 2 := rfl
  have e2 : ([107, 110, 111, 119, 115] : List Nat).length = 5 := rfl
  omega
theorem up_ok {n : Nat} {l : List Nat} (h : TxOk n l) : TxOk n (l.map PyProof.Rows.up1) := by
  refine ⟨by rw [List.length_map]; exact h.1, fun c hc => ?_⟩
  obtain ⟨d, hd, rfl⟩ := List.mem_map.mp hc
  refine Nat.lt_of_le_of_lt ?_ (h.2 d hd)
  unfold PyProof.Rows.up1
  split
  · omega
  · exact Nat.le_refl _
/-- a thing that may be asked -/
def Gd (d : PyData) : Prop := ∀ x, d = .str x → x.length ≤ 100000 ∧ ∀ c ∈ x.cps.toList, c < 1114112
theorem gd_tx {n : Nat} {l : List Nat} (h : TxOk n l) (hn : n ≤ 100000) : Gd (.str (SX.S l)) := fun x e => by
  cases e
  exact ⟨by rw [SX.S_len]; exact Nat.le_trans h.1 hn, h.2⟩
theorem gd_no {d : PyData} (h : ∀ x, d ≠ .str x) : Gd d := fun x e => absurd e (h x)
theorem gd_str {x : Str} (h : x.length ≤ 100000 ∧ ∀ c ∈ x.cps.toList, c < 1114112) : Gd (.str x) := fun y e => by
  cases e
  exact h
theorem okd_cd (c : Cd) (h : c.2.length ≤ 12) : Okd 3 (cdD c) := by
  refine .tup _ (fun y hy => ?_) (by show 2 ≤ 100000; decide)
  rcases List.mem_cons.mp hy with rfl | hy
  · exact .sc _ rfl
  · rw [List.mem_singleton.mp hy]
    refine .tup _ (fun y hy => ?_) (by rw [List.length_map]; omega)
    obtain ⟨k, _, rfl⟩ := List.mem_map.mp hy
    exact .sc _ rfl
theorem readD_cd {d e : PyData} (h : readD d = some e) : ∃ c : Cd, e = cdD c ∧ CdOk c := by
  cases d with
  | str x => exact isCd_of (readD_words h).2
  | _ => cases h
end Lk
end
section
set_option maxRecDepth 100000
set_option maxHeartbeats 4000000
namespace Lk
open PySem PySem.Spec PyProof.Rows L2
def spLaw (K : PySem.W.Frag) : Sp := fun vs H Q _ => ∃ (a : Addr) (ns : List Int), vs = [.ref a] ∧ SqL K H a (ns.map V.int) ∧ ns.length ≤ 63 ∧ ∀ H', Q (.bl true) H'
abbrev nL : List Str := ["script", "k", "pail", "p", "lengths", "text", "some", "thing", "due", "told", "place", "length", "turn"]
structure LCalls (P : Program) (w : World) (K : PySem.W.Frag) (mg : Str → Option Value) (base : Heap) : Prop where
  pail : C8.Cal P w K mg base 1 "_law_pail" (spPot K) []
  dip : C8.Cal P w K mg base 1 "_law_dip" spPull []
  bent : C8.Cal P w K mg base 5 "_law_bent" spBent []
  read : C8.Cal P w K mg base 5 "_law_read" spReadL []
  caught : C8.Cal P w K mg base 5 "_law_caught" spCaught []
  same : C8.Cal P w K mg base 5 "_law_same" (spSameP (Okd 4)) []
  range : mg "range" = none
  len : mg "len" = none
  max : mg "max" = none
  min : mg "min" = none
  str : mg "str" = none
  tuple : mg "tuple" = none
section
variable {P : Program} {w : World} {K : PySem.W.Frag} {mg : Str → Option Value} {base : Heap}
theorem sc_law : FnScope nL ["script"] (defScope s_law) := ⟨rfl, rfl, rfl, by decide +kernel, rfl, by decide +kernel, by decide +kernel⟩
theorem ok_law {f : Addr} {fd : FuncData} (F : Fun K "law" "law" s_law f fd) (T : LCalls P w K mg base) : FnOk P w K mg base CX0 8 f fd ["script"] (spLaw K) := by
  refine F.ok sc_law (fun vs H Q E h => ?_) (fun cdv A0 outer s H vs Q E hr h => ?_)
  · obtain ⟨a, ns, rfl, _⟩ := h
    rfl
  · obtain ⟨a, ns, rfl, hS, h63, q⟩ := h
    have nd := sc_law.nd
    have hun := hr.un
    have hu64 : (A0.deeper (envOfC "law" (defScope s_law) s.heap.objs.size f cdv)).units + 64 < cLine := by omega
    refine ⟨_, (pss_cons (by exact (ps_for PassesOwn.never rfl (pi_range1 (by rfl) T.range (pa_cons (pe_callB (call_max2 rfl) (by rfl) T.max (by decide +kernel) (pa_cons pe_int (pa_cons (pe_callB (call_min2 rfl) (by rfl) T.min (by decide +kernel) (pa_cons pe_int (pa_cons (pe_callB call_len_seq (by rfl) T.len PySem.boot_len (pa_cons (pv 0) pa_nil)) pa_nil))) pa_nil))) pa_nil)) (pg_name (i := 1) nd rfl (Or.inl rfl)) (pss_cons (by exact (ps_set (i := 2) nd rfl (Or.inr rfl) (C8.pe_c T.pail hr (by decide) rfl (pa_cons (pv 0) (pa_cons (pv 1) pa_nil)))))
      (pss_cons (by exact (ps_set (i := 3) nd rfl (Or.inl rfl) (pe_op op_add pe_int (C8.pe_c T.dip hr (by decide) rfl (pa_cons (pv 2) (pa_cons pe_int pa_nil))))))
      (pss_cons (by exact (ps_set (i := 4) nd rfl (Or.inl rfl) (pe_callTy call_tupS (by rfl) T.tuple (by decide +kernel) (pa_cons (pe_lc (own := [("place", 10)]) (g := (gName 10)) (tt := tYes) rfl nd (pi_range1 (by rfl) T.range (pa_cons (pv 3) pa_nil)) (blkOk_by (N := nL) (sc := defScope s_law) (by decide +kernel)) (fun _ _ _ _ _ => (pg_name (i := 10) nd rfl (Or.inl rfl))) (fun _ _ _ _ _ => pts_nil) (fun _ _ _ _ _ => (C8.pe_c T.dip hr (by decide) rfl (pa_cons (pv 2) (pa_cons (pe_ix (ix_listK (K := K) rfl) (pe_lstS (pa_cons pe_int (pa_cons (pe_op op_pow pe_int pe_int) pa_nil))) (C8.pe_c T.dip hr (by decide) rfl (pa_cons (pv 2) (pa_cons pe_int pa_nil))) (fun _ _ => rfl)) pa_nil))))) pa_nil))))
      (pss_cons (by exact (ps_set (i := 5) nd rfl (Or.inr rfl) (pe_join pe_str (pe_op op_catS (pe_lstS (pa_cons pe_str (pa_cons (pe_callTy call_str_int (by rfl) T.str (by decide +kernel) (pa_cons (C8.pe_c T.dip hr (by decide) rfl (pa_cons (pv 2) (pa_cons (pv 3) pa_nil))) pa_nil)) (pa_cons pe_str pa_nil)))) (pe_lc (own := [("length", 11)]) (g := (gName 11)) (tt := tYes) rfl nd (pi_tup (pv 4)) (blkOk_by (N := nL) (sc := defScope s_law) (by decide +kernel)) (fun _ _ _ _ _ => (pg_name (i := 11) nd rfl (Or.inl rfl))) (fun _ _ _ _ _ => pts_nil) (fun _ _ _ _ _ => (pe_callTy call_str_int (by rfl) T.str (by decide +kernel) (pa_cons (pv 11) pa_nil))))))))
      (pss_cons (by exact (ps_set (i := 6) nd rfl (Or.inl rfl) (pe_op op_catS (pe_lc (own := [("turn", 12)]) (g := (gName 12)) (tt := tYes) rfl nd (pi_range1 (by rfl) T.range (pa_cons pe_int pa_nil)) (blkOk_by (N := nL) (sc := defScope s_law) (by decide +kernel)) (fun _ _ _ _ _ => (pg_name (i := 12) nd rfl (Or.inl rfl))) (fun _ _ _ _ _ => pts_nil) (fun _ _ _ _ _ => (C8.pe_c T.bent hr (by decide) rfl (pa_cons (pv 2) (pa_cons (pv 5) pa_nil))))) (pe_lstS (pa_cons pe_non (pa_cons pe_int (pa_cons pe_bl (pa_cons (pe_lstS pa_nil) (pa_cons (pe_tupS pa_nil) (pa_cons pe_dnewK (pa_cons (pe_lstS (pa_cons (pv 5) pa_nil)) (pa_cons pe_str (pa_cons pe_str pa_nil)))))))))))))
      (pss_cons (by exact (ps_set (i := 6) nd rfl (Or.inl rfl) (pe_op op_catS (pv 6) (pe_lstS (pa_cons pe_str (pa_cons pe_str (pa_cons pe_str (pa_cons (pe_op op_add_str (pv 5) pe_str) (pa_cons (pe_op op_add_str pe_str (pv 5)) (pa_cons (pe_op op_add_str (pv 5) pe_str) (pa_cons (pe_upper (pv 5)) pa_nil)))))))))))
      (pss_one (by exact (ps_for PassesOwn.never rfl (pi_list (pv 6)) (pg_name (i := 7) nd rfl (Or.inl rfl)) (pss_cons (by exact (ps_set (i := 8) nd rfl (Or.inl rfl) (C8.pe_c T.read hr (by decide) rfl (pa_cons (pv 7) pa_nil))))
      (pss_cons (by exact (ps_set (i := 9) nd rfl (Or.inl rfl) (pe_lstS (pa_cons (C8.pe_c T.caught hr (by decide) rfl (pa_cons (pv 7) pa_nil)) (pa_cons (C8.pe_c T.caught hr (by decide) rfl (pa_cons (pv 7) pa_nil)) pa_nil)))))
      (pss_one (by exact (ps_if (PW.pt (pw_or (PW.pt (pw_and (pt_cmpR op_isN (pv 8) pe_non (nomark _)) (pw_and1 (pt_cmpR (op_neD hu64) (pv 9) (pe_lstS (pa_cons pe_str (pa_cons pe_str pa_nil))) (nomark _))))) (pw_or1 (PW.pt (pw_and (pt_cmpR op_notN (pv 8) pe_non (nomark _)) (pw_and1 (pt_not (pt_val (C8.pe_c T.same hr (by decide) rfl (pa_cons (pv 9) (pa_cons (pe_lstS (pa_cons (pv 8) (pa_cons (pv 8) pa_nil))) pa_nil))))))))))) (pss_one (by exact (ps_ret pe_bl))) pss_nil))))))))))))))))
      (pss_one (by exact (ps_ret pe_bl)))), ?_⟩
    obtain ⟨N, hN, eN⟩ : ∃ N : Nat, N ≤ 12 ∧ (if (if (ns.length : Int) < 12 then (ns.length : Int) else 12) > 1 then (if (ns.length : Int) < 12 then (ns.length : Int) else 12) else 1) = (N : Int) := by
      by_cases g : (ns.length : Int) < 12
      · rw [if_pos g]
        by_cases g2 : (ns.length : Int) > 1
        · rw [if_pos g2]
          exact ⟨ns.length, by omega, rfl⟩
        · rw [if_neg g2]
          exact ⟨1, by decide, rfl⟩
      · rw [if_neg g, if_pos (by decide)]
        exact ⟨12, by decide, rfl⟩
    refine ⟨_, rfl, a, _, rfl, .inl hS, _, _, rfl, _, _, rfl, (N : Int), ?_, by omega, by omega, ?_⟩
    · refine congrArg (fun z => [V.int z]) ?_
      rw [List.length_map]
      exact eN
    rw [Int.toNat_natCast]
    obtain ⟨B40, hB⟩ : ∃ B : Int, B = 10 ^ 40 := ⟨_, rfl⟩
    have bign : (1000 : Int) ≤ B40 := by rw [hB]; decide
    obtain ⟨P30, hP⟩ : ∃ B : Nat, B = 10 ^ 30 := ⟨_, rfl⟩
    have P1 : 9 ≤ P30 ∧ (P30 : Int) ≤ B40 := by rw [hB, hP]; decide
    have same_but : ∀ {H0 H H1 : Hp} {a : Addr}, Same H0 H → H0 a = none → SameBut a H H1 → Same H0 H1 := fun s ha sb b o e => sb b o (ne_of_none e ha) (s b o e)
    refine for_range (lo := 0) (n := N) (fun i σ H1 => ∃ y1 y2 y3 y4 y5 y6 y7 y8 y9 y10 y11 y12, σ = [some (.ref a), y1, y2, y3, y4, y5, y6, y7, y8, y9, y10, y11, y12] ∧ Same H H1) ⟨none, none, none, none, none, none, none, none, none, none, none, none, rfl, Same.refl _⟩ ?_ ?_
    · rintro i σ H1 hi ⟨y1, y2, y3, y4, y5, y6, y7, y8, y9, y10, y11, y12, rfl, s1⟩
      have hS1 : SqL K H1 a (ns.map V.int) := hS.imp (fun r => r.imp (fun e => s1 _ _ e) (fun ⟨o, e⟩ => ⟨o, s1 _ _ e⟩)) id
      refine ⟨_, rfl, _, rfl, a, ns, i, by rw [Int.zero_add]; rfl, hS1, by omega, h63, fun A1 H2 nA sA u2 => ?_⟩
      have nAH : H A1 = none := s1.free nA
      refine ⟨_, rfl, A1, 12, _, rfl, u2, by decide, by decide, by decide, fun v3 H3 v30 v31 u3 b3 => ⟨_, _, rfl, rfl, ?_⟩⟩
      obtain ⟨p0, rfl⟩ := Int.eq_ofNat_of_zero_le v30
      obtain ⟨p, ep⟩ : ∃ p : Nat, p = 1 + p0 := ⟨_, rfl⟩
      have hp : 1 + (p0 : Int) = (p : Int) := by omega
      dsimp only
      rw [hp]
      refine ⟨_, rfl, (p : Int), rfl, by omega, by omega, fun D nD => ?_⟩
      rw [Int.toNat_natCast]
      have nDa : D ≠ A1 := (u3.ne nD).symm
      have h03 := same_but (s1.trans sA) nAH b3
      have nDH : H D = none := h03.free nD
      refine lc_range (lo := 0) (n := p) (fun i H4 => ∃ ls : List Nat, ls.length = i ∧ (∀ x ∈ ls, x < 10 ^ 30) ∧ H4 D = some (.lst (ls.map vN)) ∧ Urn H4 A1 (1 + 2 * (i : Int)) ∧ Same H H4) ⟨[], rfl, (by intro x hx; cases hx), upd_same, (u3.same (same_new nD)).le (by omega), h03.trans (same_new nD)⟩ ?_ ?_
      · rintro j H4 hj ⟨ls, ll, hls, e4, u4, s4⟩
        refine ⟨rfl, _, rfl, _, _, rfl, rfl, ⟨by decide, by decide, by decide⟩, (by show 2 ≤ sizeLine; decide), fun L H5 nL s5 eL => ?_⟩
        refine ⟨_, rfl, A1, 2, _, rfl, u4.same s5, by omega, by decide, by decide, fun v6 H6 v60 v61 u6 b6 => ?_⟩
        have nLa : L ≠ A1 := (u4.ne nL).symm
        obtain ⟨m, m0, m1, hat⟩ : ∃ m : Nat, 0 < m ∧ m ≤ P30 ∧ atI [V.int 9, V.int ((10 : Int) ^ (30 : Int).toNat)] v6 = some (.int (m : Int)) := by
          have c : v6 = 0 ∨ v6 = 1 := by omega
          rcases c with rfl | rfl
          · exact ⟨9, by decide, P1.1, rfl⟩
          · refine ⟨P30, by omega, Nat.le_refl _, ?_⟩
            rw [hP]
            exact congrArg (fun z => some (V.int z)) (by decide +kernel)
        refine ⟨L, _, v6, _, rfl, rfl, SqL.of (b6 L _ nLa eL), hat, A1, _, _, rfl, u6, by omega, by omega, by rw [← hB]; omega, fun v7 H7 v70 v71 u7 b7 => ?_⟩
        obtain ⟨x, rfl⟩ := Int.eq_ofNat_of_zero_le v70
        have e7 : H7 D = _ := b7 _ _ nDa (b6 _ _ nDa (s5 _ _ e4))
        have s7 : Same H H7 := same_but (same_but (s4.trans s5) nAH b6) nAH b7
        refine ⟨_, e7, ?_, ls ++ [x], by rw [List.length_append, ll]; rfl, fun y hy => ?_, ?_, ?_, same_push s7 nDH⟩
        · rw [List.length_map, ll]
          exact Nat.lt_of_le_of_lt (show j ≤ 12 by omega) (by decide)
        · rcases List.mem_append.mp hy with z | z
          · exact hls y z
          · rw [List.mem_singleton.mp z, ← hP]; omega
        · rw [upd_same, List.map_append]
          rfl
        · obtain ⟨w0, w1, w2, e, z⟩ := u7.le (m := 1 + 2 * ((j + 1 : Nat) : Int)) (by push_cast; omega)
          exact ⟨w0, w1, w2, (upd_ne nDa.symm).trans e, z⟩
      · rintro H4 ⟨ls, ll, hls, e4, u4, s4⟩
        refine ⟨D, _, rfl, .inl ⟨e4, fun LT H5 nLT s5 eLT => ?_⟩⟩
        refine ⟨⟨_, rfl⟩, _, rfl, _, rfl, A1, (p : Int), _, rfl, u4.same s5, by omega, by omega, by omega, fun v6 H6 v60 v61 u6 b6 => ?_⟩
        obtain ⟨pl, rfl⟩ := Int.eq_ofNat_of_zero_le v60
        have naLT : LT ≠ A1 := (u4.ne nLT).symm
        have s6 : Same H H6 := same_but (s4.trans s5) nAH b6
        have eLT6 := b6 _ _ naLT eLT
        obtain ⟨c, ec⟩ : ∃ c : Cd, c = (pl, ls) := ⟨_, rfl⟩
        have pl12 : pl < 12 := by omega
        have tok : TxOk 390 (showL c) := by
          rw [ec]
          exact ok_show pl12 (by show ls.length ≤ 12; omega) hls
        refine ⟨_, rfl, small45 (Nat.lt_of_lt_of_le pl12 (by decide +kernel)), (by show 3 ≤ sizeLine; decide), fun LA H7 nLA s7 eLA => ?_⟩
        have eLT7 := s7 _ _ eLT6
        refine ⟨_, rfl, LT, rfl, ⟨_, SqT.of eLT7⟩, fun D2 nD2 => ?_⟩
        refine lc_it walk_tup (fun i H3 => Same H7 H3 ∧ H3 D2 = some (.lst (((ls.take i).map dec).map fun w => V.str (SX.S w)))) ⟨same_new nD2, upd_same⟩ (fun i H3 _ z => SqT.of (z.1 _ _ eLT7)) ?_ ?_
        · rintro i x H3 H4 hi ⟨s3, e3⟩ ⟨rfl, hx⟩
          rw [List.length_map] at hi
          rw [nat_at hi] at hx
          cases hx
          have hn : ls[i]? = some (ls.getD i 0) := by
            rw [List.getD_eq_getElem?_getD, List.getElem?_eq_getElem hi]
            rfl
          refine ⟨rfl, _, rfl, _, rfl, small45 (Nat.lt_trans (hls _ (List.mem_of_getElem? hn)) (by decide +kernel)), _, e3, ?_, same_push s3 nD2, ?_⟩
          · rw [List.length_map, List.length_map, List.length_take]
            exact Nat.lt_of_le_of_lt (show min i ls.length ≤ 12 by omega) (by decide)
          · rw [upd_same, List.take_add_one, hn, List.map_append, List.map_append, str_dec]
            rfl
        rintro H8 ⟨s8, e8⟩
        rw [List.length_map, List.take_length] at e8
        have eat : Str.ofString "at" = SX.S [97, 116] := by decide +kernel
        have ekn : Str.ofString "knows" = SX.S [107, 110, 111, 119, 115] := by decide +kernel
        have eLA8 := s8 _ _ eLA
        rw [eat, ekn, str_dec] at eLA8
        refine ⟨LA, D2, _, _, rfl, rfl, eLA8, e8, ?_, fun LB H9 nLB s9 eLB => ?_⟩
        · rw [List.length_map, List.length_map]
          exact Nat.le_trans (show 3 + ls.length ≤ 15 by omega) (by decide)
        have eLB' : H9 LB = some (.lst (((wordsC c).map SX.S).map V.str)) := by
          rw [eLB, ec]
          show some (HO.lst ([V.str (SX.S [97, 116]), V.str (SX.S (dec pl)), V.str (SX.S [107, 110, 111, 119, 115])] ++ ((ls.map dec).map fun w => V.str (SX.S w)))) = _
          unfold wordsC
          rw [List.map_cons, List.map_cons, List.map_cons, List.map_cons, List.map_cons, List.map_cons, List.map_map (f := SX.S)]
          rfl
        refine ⟨Str.ofString " ", LB, (wordsC c).map SX.S, rfl, rfl, .inl (SqL.of eLB'), ?_, ?_⟩
        · have z := sum_tot (wordsC c)
          have e1 : (Str.ofString " ").length = 1 := by decide +kernel
          rw [e1, List.length_map, Nat.mul_one]
          have y : tot (wordsC c) ≤ 1000 := by
            unfold wordsC
            have y := dec_len (n := c.1) (k := 2) (by decide) (by rw [ec]; show pl < 10 ^ 2; omega)
            have z := tot_dec c.2 (by rw [ec]; exact hls)
            have w : c.2.length ≤ 12 := by rw [ec]; show ls.length ≤ 12; omega
            rw [tot_cons, tot_cons, tot_cons]
            have e1 : ([97, 116] : List Nat).length = 2 := rfl
            have e2 : ([107, 110, 111, 119, 115] : List Nat).length = 5 := rfl
            omega
          omega
        rw [join_blank]
        obtain ⟨tl, etl⟩ : ∃ tl, tl = showL c := ⟨_, rfl⟩
        rw [show TL.joinL [32] (wordsC c) = tl from etl.symm]
        have low : ∀ x ∈ tl, x < 128 := by rw [etl]; exact low_show
        rw [← etl] at tok
        have s69 := s7.trans (s8.trans s9)
        have s09 : Same H H9 := s6.trans s69
        have u9 := (u6.same s69)
        refine ⟨15, rfl, by decide, by decide, fun D3 nD3 => ?_⟩
        rw [show (15 : Int).toNat = 15 from rfl]
        have nD3a : D3 ≠ A1 := (u9.ne nD3).symm
        have nD3H : H D3 = none := s09.free nD3
        refine lc_range (lo := 0) (n := 15) (fun i H4 => ∃ ts : List (List Nat), ts.length = i ∧ (∀ x ∈ ts, TxOk 2000 x) ∧ H4 D3 = some (.lst (ts.map fun x => V.str (SX.S x))) ∧ (∃ n4 : Int, Urn H4 A1 n4 ∧ n4 ≤ 100 + 20 * (i : Int)) ∧ Same H H4) ⟨[], rfl, (by intro x hx; cases hx), upd_same, ⟨_, u9.same (same_new nD3), by omega⟩, s09.trans (same_new nD3)⟩ ?_ ?_
        · rintro j H10 hj ⟨ts, lt, hts, e10, ⟨n4, u10, l10⟩, s10⟩
          refine ⟨rfl, _, rfl, _, rfl, A1, n4, tl, rfl, u10, by omega, ⟨Nat.le_trans tok.1 (by decide), tok.2⟩, fun l' n' H11 ok' u' le' b' => ⟨_, b' _ _ nD3a e10, ?_, ts ++ [l'], by rw [List.length_append, lt]; rfl, fun y hy => ?_, ?_, ⟨n', ?_, by push_cast; omega⟩, same_push (same_but s10 nAH b') nD3H⟩⟩
          · rw [List.length_map, lt]
            exact Nat.lt_of_le_of_lt (show j ≤ 15 by omega) (by decide)
          · rcases List.mem_append.mp hy with z | z
            · exact hts y z
            · rw [List.mem_singleton.mp z]; exact ok'
          · rw [upd_same, List.map_append]
            rfl
          · obtain ⟨w0, w1, w2, e, z⟩ := u'
            exact ⟨w0, w1, w2, (upd_ne nD3a.symm).trans e, z⟩
        rintro H10 ⟨ts, lt, hts, e10, _, s10⟩
        refine ⟨Nat.zero_le _, fun E1 H11 nE1 s11 eE1 => ⟨Nat.zero_le _, fun E2 H12 nE2 s12 eE2 => fun E3 nE3 => ?_⟩⟩
        have s13 := same_new (o := .dK []) nE3
        have eE3 : upd H12 E3 (.dK []) E3 = some (.dK []) := upd_same
        generalize upd H12 E3 (.dK []) = H13 at s13 eE3 ⊢
        have ltl : (SX.S tl).length ≤ 390 := by rw [SX.S_len]; exact tok.1
        have eb : Str.ofString " " = SX.S [32] := by decide +kernel
        have en : Str.ofString "\n" = SX.S [10] := by decide +kernel
        have l1 : ∀ c, (SX.S [c]).length = 1 := fun c => by rw [SX.S_len]; rfl
        refine ⟨_, rfl, (by show 1 ≤ sizeLine; decide), fun E4 H14 nE4 s14 eE4 => ⟨(by show 9 ≤ sizeLine; decide), fun E5 H15 nE5 s15 eE5 => ?_⟩⟩
        refine ⟨D3, E5, _, _, rfl, rfl, s15 _ _ (s14 _ _ (s13 _ _ (s12 _ _ (s11 _ _ e10)))), eE5, ?_, fun E6 H16 nE6 s16 eE6 => ?_⟩
        · rw [List.length_map, lt]
          exact Nat.le_trans (show 15 + 9 ≤ 100 by decide) (by decide)
        refine ⟨_, rfl, _, rfl, _, _, rfl, rfl, ?_, _, rfl, _, _, rfl, rfl, ?_, _, rfl, _, _, rfl, rfl, ?_, _, rfl, ⟨_, rfl⟩, _, rfl, rfl, ?_, (by show 7 ≤ sizeLine; decide), fun E7 H17 nE7 s17 eE7 => ?_⟩
        · rw [eb, l1]; exact Nat.le_trans (show _ ≤ 391 by omega) (by decide)
        · rw [eb, l1]; exact Nat.le_trans (show _ ≤ 391 by omega) (by decide)
        · rw [en, l1]; exact Nat.le_trans (show _ ≤ 391 by omega) (by decide)
        · omega
        refine ⟨E6, E7, _, _, rfl, rfl, s17 _ _ eE6, eE7, ?_, fun E8 H18 nE8 s18 eE8 => ?_⟩
        · rw [List.length_append, List.length_map, lt]
          exact Nat.le_trans (show 15 + 9 + 7 ≤ 100 by decide) (by decide)
        have s1018 : Same H10 H18 := s11.trans (s12.trans (s13.trans (s14.trans (s15.trans (s16.trans (s17.trans s18))))))
        have s018 := s10.trans s1018
        obtain ⟨us, ds, eus, thu, gdu⟩ : ∃ us ds, H18 E8 = some (.lst us) ∧ ThAll H18 us ds ∧ ∀ d ∈ ds, Gd d := by
          refine ⟨_, ((ts.map fun x => PyData.str (SX.S x)) ++ [.none, .int 0, .bool true, .list [], .tuple [], .dict [], .list [.str (SX.S tl)], .str (Str.ofString ""), .str (Str.ofString " ")]) ++ [.str (Str.ofString "at 0 knows "), .str (Str.ofString "at 0 knows"), .str (Str.ofString "at 1 knows 5"), .str (SX.S tl ++ Str.ofString " "), .str (Str.ofString " " ++ SX.S tl), .str (SX.S tl ++ Str.ofString "\n"), .str (Txt.upper (SX.S tl))], eE8, ?_, fun d hd => ?_⟩
          · have tt : ∀ l : List (List Nat), ThAll H18 (l.map fun x => V.str (SX.S x)) (l.map fun x => PyData.str (SX.S x)) := fun l => by
              induction l with
              | nil => exact .nil
              | cons b l ih => exact .cons (.str _) ih
            have s1318 : Same H13 H18 := s14.trans (s15.trans (s16.trans (s17.trans s18)))
            refine ThAll.append (ThAll.append (tt ts) ?_) ?_
            · exact .cons .non (.cons (.int _) (.cons (.bl _) (.cons (.lst (s1318 _ _ (s13 _ _ (s12 _ _ eE1))) .nil) (.cons (.tup (s1318 _ _ (s13 _ _ eE2)) .nil) (.cons (.dct (s1318 _ _ eE3)) (.cons (.lst (s18 _ _ (s17 _ _ (s16 _ _ (s15 _ _ eE4)))) (.cons (.str _) .nil)) (.cons (.str _) (.cons (.str _) .nil))))))))
            · exact .cons (.str _) (.cons (.str _) (.cons (.str _) (.cons (.str _) (.cons (.str _) (.cons (.str _) (.cons (.str _) .nil))))))
          · have one : ∀ c, c < 1114112 → TxOk 1 [c] := fun c h => ⟨Nat.le_refl _, fun d hd => by rw [List.mem_singleton.mp hd]; exact h⟩
            rcases List.mem_append.mp hd with hd | hd
            · rcases List.mem_append.mp hd with hd | hd
              · obtain ⟨x, hx, rfl⟩ := List.mem_map.mp hd
                exact gd_tx (hts x hx) (by decide)
              · simp only [List.mem_cons, List.not_mem_nil, or_false] at hd
                rcases hd with rfl | rfl | rfl | rfl | rfl | rfl | rfl | rfl | rfl
                · exact gd_no (fun x e => nomatch e)
                · exact gd_no (fun x e => nomatch e)
                · exact gd_no (fun x e => nomatch e)
                · exact gd_no (fun x e => nomatch e)
                · exact gd_no (fun x e => nomatch e)
                · exact gd_no (fun x e => nomatch e)
                · exact gd_no (fun x e => nomatch e)
                · exact gd_str (by decide +kernel)
                · exact gd_str (by decide +kernel)
            · simp only [List.mem_cons, List.not_mem_nil, or_false] at hd
              rcases hd with rfl | rfl | rfl | rfl | rfl | rfl | rfl
              · exact gd_str (by decide +kernel)
              · exact gd_str (by decide +kernel)
              · exact gd_str (by decide +kernel)
              · rw [eb, SX.S_cat]; exact gd_tx (tok.app (one 32 (by decide))) (by decide)
              · rw [eb, SX.S_cat]; exact gd_tx ((one 32 (by decide)).app tok) (by decide)
              · rw [en, SX.S_cat]; exact gd_tx (tok.app (one 10 (by decide))) (by decide)
              · rw [SX.upper_S (List.all_eq_true.mpr fun c hc => decide_eq_true (low c hc))]
                exact gd_tx (up_ok tok) (by decide)
        refine ⟨_, rfl, E8, rfl, ⟨_, SqL.of eus⟩, ?_⟩
        refine for_list (K := K) (a := E8) (xs := us) (fun j σ H' => ∃ z7 z8 z9 z10 z11 z12, σ = [some (.ref a), some (.int (0 + (i : Int))), some (.ref A1), some (.int (p : Int)), some (.ref LT), some (.str (SX.S tl)), some (.ref E8), z7, z8, z9, z10, z11, z12] ∧ Same H18 H') ⟨y7, y8, y9, y10, y11, y12, rfl, Same.refl _⟩ (fun j σ H' _ z => by
          obtain ⟨_, _, _, _, _, _, _, s⟩ := z
          exact SqL.of (s _ _ eus)) ?_ ?_
        · rintro j u σ H21 hx ⟨z7, z8, z9, z10, z11, z12, rfl, s21⟩
          obtain ⟨d, hd, thd⟩ := thu.get hx
          have gd := gdu d (List.mem_of_getElem? hd)
          have th21 := Th.same s21 d thd
          have gl : ∀ x, d = .str x → x.length ≤ 100000 := fun x e => (gd x e).1
          cases rd : readD d with
          | none =>
            have no : ∀ {e : PyData}, readD d = some e → False := fun he => by rw [rd] at he; cases he
            refine ⟨_, rfl, u, d, rfl, th21, gd, fun _ H22 s22 => ?_, fun e he => (no he).elim⟩
            refine ⟨_, rfl, u, d, rfl, Th.same s22 d th21, gl, fun _ H23 s23 => ?_, fun e he => (no he).elim⟩
            refine ⟨_, rfl, u, d, rfl, Th.same (s22.trans s23) d th21, gl, fun _ H24 s24 => ⟨(by show 2 ≤ sizeLine; decide), fun LL H25 nLL s25 eLL => ?_⟩, fun e he => (no he).elim⟩
            refine ⟨_, rfl, rfl, _, rfl, ?_⟩
            dsimp only
            rw [decide_eq_true rfl]
            refine iteT ⟨_, rfl, (by show 2 ≤ sizeLine; decide), fun LM H26 nLM s26 eLM => ?_⟩
            have lay : (PyData.list [.str (Str.ofString "text"), .str (Str.ofString "text")]).canLay0 = true := by decide +kernel
            have shp : SeqAt.shaped (PyData.list [.str (Str.ofString "text"), .str (Str.ofString "text")]) = true := by decide +kernel
            refine ⟨.list [.str (Str.ofString "text"), .str (Str.ofString "text")], .list [.str (Str.ofString "text"), .str (Str.ofString "text")], Th.dp _ lay (.lst (s26 _ _ eLL) (.cons (.str _) (.cons (.str _) .nil))), Th.dp _ lay (.lst eLM (.cons (.str _) (.cons (.str _) .nil))), shp, shp, _, rfl, ?_⟩
            rw [SeqAt.eqv_refl _ lay]
            dsimp only [Bool.not_true]
            refine iteF ?_
            refine ⟨_, rfl, rfl, _, rfl, ?_⟩
            dsimp only
            rw [decide_eq_true rfl]
            refine iteF ?_
            exact iteF ⟨_, _, _, _, _, _, rfl, s21.trans (s22.trans (s23.trans (s24.trans (s25.trans s26))))⟩
          | some e =>
            have no : readD d = none → False := fun he => by rw [rd] at he; cases he
            obtain ⟨c', rfl, okc⟩ : ∃ c' : Cd, e = cdD c' ∧ CdOk c' := readD_cd rd
            have un : ∀ {e : PyData}, readD d = some e → e = cdD c' := fun he => by rw [rd] at he; exact (Option.some.inj he).symm
            refine ⟨_, rfl, u, d, rfl, th21, gd, fun he => (no he).elim, fun e he v8 H22 s22 t8 => ?_⟩
            cases un he
            refine ⟨_, rfl, u, d, rfl, Th.same s22 d th21, gl, fun he => (no he).elim, fun e he v9 H23 s23 t9 => ?_⟩
            cases un he
            refine ⟨_, rfl, u, d, rfl, Th.same (s22.trans s23) d th21, gl, fun he => (no he).elim, fun e he v10 H24 s24 t10 => ⟨(by show 2 ≤ sizeLine; decide), fun LL H25 nLL s25 eLL => ?_⟩⟩
            cases un he
            have nn : v8 ≠ V.non := fun z => by rw [z] at t8; cases t8
            refine ⟨_, rfl, rfl, _, rfl, ?_⟩
            dsimp only
            rw [decide_eq_false nn]
            refine iteF (iteF ⟨_, rfl, rfl, _, rfl, ?_⟩)
            dsimp only
            rw [decide_eq_false nn]
            refine iteT ⟨_, rfl, _, rfl, _, rfl, (by show 2 ≤ sizeLine; decide), fun LM H26 nLM s26 eLM => ?_⟩
            have s2226 := s23.trans (s24.trans (s25.trans s26))
            have tt : ∀ {v : V} {Ha : Hp}, Th Ha v (cdD c') → Same Ha H26 → Th H26 v (cdD c') := fun t s => Th.same s _ t
            refine ⟨_, _, .list [cdD c', cdD c'], rfl, .lst (s26 _ _ eLL) (.cons (tt t9 (s24.trans (s25.trans s26))) (.cons (tt t10 (s25.trans s26)) .nil)), .lst eLM (.cons (tt t8 s2226) (.cons (tt t8 s2226) .nil)), .lst _ (fun x hx => ?_) (by show 2 ≤ 100000; decide), fun H27 s27 => ⟨_, rfl, ?_⟩⟩
            · rcases List.mem_cons.mp hx with rfl | hx
              · exact okd_cd _ okc.2
              · rw [List.mem_singleton.mp hx]
                exact okd_cd _ okc.2
            exact iteF ⟨_, _, _, _, _, _, rfl, s21.trans (s22.trans (s2226.trans s27))⟩
        · rintro σ H21 ⟨z7, z8, z9, z10, z11, z12, rfl, s21⟩
          exact ⟨_, _, _, _, _, _, _, _, _, _, _, _, rfl, s018.trans s21⟩
    · rintro σ H1 ⟨y1, y2, y3, y4, y5, y6, y7, y8, y9, y10, y11, y12, rfl, s1⟩
      exact q _
end
end Lk
end
section
set_option maxRecDepth 100000
set_option maxHeartbeats 4000000
namespace Lk
open PySem PySem.Spec PyProof.Rows L2
theorem mkCal {P : Program} {w : World} {K : PySem.W.Frag} {mg : Str → Option Value} {base : Heap} {k : Nat} {x q : Str} {st : Stmt} {f : Addr} {fd : FuncData} {ps : List Str} {sp : Sp} (F : Fun K x q st f fd) (g : mg x = some (.ref f)) (b : Binds K fd ps []) (ok : FnOk P w K mg base CX0 k f fd ps sp) : C8.Cal P w K mg base k x sp [] :=
  ⟨f, fd, ps, [], ok, g, F.kp, b, .nil⟩
theorem mkCalX {P : Program} {w : World} {K : PySem.W.Frag} {mg : Str → Option Value} {base : Heap} {k : Nat} {x q : Str} {st : Stmt} {f : Addr} {fd : FuncData} {ps : List Str} {sp : Sp} (F : Fun K x q st f fd) (g : mg x = some (.ref f)) (b : Binds K fd ps []) (ok : FnOk P w K mg base (L2.CX P w) k f fd ps sp) : CalX P w K mg base k x sp :=
  ⟨f, fd, ps, ok, g, F.kp, b⟩
theorem mkCalG {P : Program} {w : World} {K : PySem.W.Frag} {mg : Str → Option Value} {base : Heap} {k : Nat} {x q : Str} {st : Stmt} {f : Addr} {fd : FuncData} {ps : List Str} {sp : Sp} (F : Fun K x q st f fd) (g : mg x = some (.ref f)) (b : Binds K fd ps []) (ok : FnG P w K mg base CX0 k f fd ps sp) : CalG P w K mg base k x sp :=
  ⟨f, fd, ps, ok, g, F.kp, b⟩
theorem kit_no {K : PySem.W.Frag} {C D : Addr} (self : PySem.W.subIn K (.ref C) (.ref C) = some true) (hc : PySem.W.isClsIn K D = true) (ht : PySem.W.typeIn K (.ref D) = some (.type "type")) (hs : PySem.W.subIn K (.ref C) (.ref D) = some false) : PySem.W.kitOne K (.ref C) (.ref D) = some false := by
  have ne : ¬ ((Value.ref C == Value.ref D) = true) := fun z => by
    have e : C = D := Value.ref.inj (eq_of_beq z)
    rw [← e, self] at hs
    cases hs
  have hc' : (PySem.W.clsIn K D).isSome = true := hc
  unfold PySem.W.kitOne
  rw [if_neg ne]
  show (if ((PySem.W.clsIn K D).isSome && PySem.W.typeIn K (.ref D) == some (.type "type")) = true then PySem.W.subIn K (.ref C) (.ref D) else none) = some false
  rw [hc', ht, if_pos (by rfl)]
  exact hs
theorem kit_ve {K : PySem.W.Frag} {C : Addr} (hs : PySem.W.subIn K (.ref C) (.type "ValueError") = some true) : PySem.W.kitOne K (.ref C) (.type "ValueError") = some true := by
  unfold PySem.W.kitOne
  rw [if_neg (show ¬ ((Value.ref C == Value.type "ValueError") = true) from fun z => nomatch z)]
  show (if PySem.W.kitMeta "ValueError" = true then PySem.W.subIn K (.ref C) (.type "ValueError") else none) = some true
  rw [if_pos (by decide +kernel)]
  exact hs
theorem mkCalN {P : Program} {w : World} {K : PySem.W.Frag} {mg : Str → Option Value} {base : Heap} {k : Nat} {x q : Str} {st : Stmt} {f : Addr} {fd : FuncData} {ps : List Str} {sp : Sp} (F : Fun K x q st f fd) (g : mg x = some (.ref f)) (b : Binds K fd ps []) (ok : FnOk P w K mg base (L2N.CX P w) k f fd ps sp) : CalN P w K mg base k x sp :=
  ⟨f, fd, ps, ok, g, F.kp, b⟩

theorem isb_to {K : PySem.W.Frag} {mg : Str → Option Value} {C : Addr} {x : Str} {b b' : Bool} (e : b' = b) (h : IsB K mg C x b) : IsB K mg C x b' := by
  rw [e]
  exact h
theorem all_mk {l : PySem.W.OpenLaw} {w : World} {K : PySem.W.Frag} {h : Heap} {mg : Str → Option Value} {fa : Addr} (X : K.In h) (G : h.Ns mainGlobals mg) (hfa : mg "law" = some (.ref fa))
    {f_is_whole f_is_within f_is_coder f_read_number f_read_coder f__law_pail f__law_dip f__law_same f__law_kind f__law_read f__law_bent f__law_caught f_law : Addr} {od_is_whole an_is_whole od_is_within an_is_within od_is_coder an_is_coder od_read_number an_read_number od_read_coder an_read_coder od__law_pail an__law_pail od__law_dip an__law_dip od__law_same an__law_same od__law_kind an__law_kind od__law_read an__law_read od__law_bent an__law_bent od__law_caught an__law_caught od_law an_law : Option Addr} {sl_is_whole sl_is_within sl_is_coder sl_read_number sl_read_coder sl__law_pail sl__law_dip sl__law_same sl__law_kind sl__law_read sl__law_bent sl__law_caught sl_law : Array (Option Value)} {oc_is_whole kV_is_whole dc_is_whole pm_is_whole cd_is_whole ct_is_whole oc_is_within kV_is_within dc_is_within pm_is_within cd_is_within ct_is_within oc_is_coder kV_is_coder dc_is_coder pm_is_coder cd_is_coder ct_is_coder oc_read_number kV_read_number dc_read_number pm_read_number cd_read_number ct_read_number oc_read_coder kV_read_coder dc_read_coder pm_read_coder cd_read_coder ct_read_coder oc__law_pail kV__law_pail dc__law_pail pm__law_pail cd__law_pail ct__law_pail oc__law_dip kV__law_dip dc__law_dip pm__law_dip cd__law_dip ct__law_dip oc__law_same kV__law_same dc__law_same pm__law_same cd__law_same ct__law_same oc__law_kind kV__law_kind dc__law_kind pm__law_kind cd__law_kind ct__law_kind oc__law_read kV__law_read dc__law_read pm__law_read cd__law_read ct__law_read oc__law_bent kV__law_bent dc__law_bent pm__law_bent cd__law_bent ct__law_bent oc__law_caught kV__law_caught dc__law_caught pm__law_caught cd__law_caught ct__law_caught oc_law kV_law dc_law pm_law cd_law ct_law : Value}
    {A_LearnError A_NoCoder A_NoCount A_NoCounts A_NoKnown A_NoLog A_NoLoop A_NoPairs A_NoPlace A_NoRow A_NoSign A_NoText A_NoTree A_NoWord A_NotLike A_NotRound A_Nothing : Addr}
    {t_MOST_PLACES t_MOST_FIGURES : Tok}
    (a_is_whole : PySem.W.nsIn K mainGlobals "is_whole" = some (some (.ref f_is_whole))) (l_is_whole : K.lookup f_is_whole = some ⟨oc_is_whole, od_is_whole, .func (PySem.W.fnOf "is_whole" "is_whole" (defArgs s_is_whole) (defBody s_is_whole) (defScope s_is_whole) .none kV_is_whole dc_is_whole pm_is_whole an_is_whole cd_is_whole ct_is_whole), sl_is_whole⟩) (c_is_whole : PySem.W.codeIn K cd_is_whole "is_whole" = true) (k_is_whole : PySem.W.keepIn K (.ref f_is_whole) = true)
    (a_is_within : PySem.W.nsIn K mainGlobals "is_within" = some (some (.ref f_is_within))) (l_is_within : K.lookup f_is_within = some ⟨oc_is_within, od_is_within, .func (PySem.W.fnOf "is_within" "is_within" (defArgs s_is_within) (defBody s_is_within) (defScope s_is_within) .none kV_is_within dc_is_within pm_is_within an_is_within cd_is_within ct_is_within), sl_is_within⟩) (c_is_within : PySem.W.codeIn K cd_is_within "is_within" = true) (k_is_within : PySem.W.keepIn K (.ref f_is_within) = true)
    (a_is_coder : PySem.W.nsIn K mainGlobals "is_coder" = some (some (.ref f_is_coder))) (l_is_coder : K.lookup f_is_coder = some ⟨oc_is_coder, od_is_coder, .func (PySem.W.fnOf "is_coder" "is_coder" (defArgs s_is_coder) (defBody s_is_coder) (defScope s_is_coder) .none kV_is_coder dc_is_coder pm_is_coder an_is_coder cd_is_coder ct_is_coder), sl_is_coder⟩) (c_is_coder : PySem.W.codeIn K cd_is_coder "is_coder" = true) (k_is_coder : PySem.W.keepIn K (.ref f_is_coder) = true)
    (a_read_number : PySem.W.nsIn K mainGlobals "read_number" = some (some (.ref f_read_number))) (l_read_number : K.lookup f_read_number = some ⟨oc_read_number, od_read_number, .func (PySem.W.fnOf "read_number" "read_number" (defArgs s_read_number) (defBody s_read_number) (defScope s_read_number) .none kV_read_number dc_read_number pm_read_number an_read_number cd_read_number ct_read_number), sl_read_number⟩) (c_read_number : PySem.W.codeIn K cd_read_number "read_number" = true) (k_read_number : PySem.W.keepIn K (.ref f_read_number) = true)
    (a_read_coder : PySem.W.nsIn K mainGlobals "read_coder" = some (some (.ref f_read_coder))) (l_read_coder : K.lookup f_read_coder = some ⟨oc_read_coder, od_read_coder, .func (PySem.W.fnOf "read_coder" "read_coder" (defArgs s_read_coder) (defBody s_read_coder) (defScope s_read_coder) .none kV_read_coder dc_read_coder pm_read_coder an_read_coder cd_read_coder ct_read_coder), sl_read_coder⟩) (c_read_coder : PySem.W.codeIn K cd_read_coder "read_coder" = true) (k_read_coder : PySem.W.keepIn K (.ref f_read_coder) = true)
    (a__law_pail : PySem.W.nsIn K mainGlobals "_law_pail" = some (some (.ref f__law_pail))) (l__law_pail : K.lookup f__law_pail = some ⟨oc__law_pail, od__law_pail, .func (PySem.W.fnOf "_law_pail" "_law_pail" (defArgs s_law_pail) (defBody s_law_pail) (defScope s_law_pail) .none kV__law_pail dc__law_pail pm__law_pail an__law_pail cd__law_pail ct__law_pail), sl__law_pail⟩) (c__law_pail : PySem.W.codeIn K cd__law_pail "_law_pail" = true) (k__law_pail : PySem.W.keepIn K (.ref f__law_pail) = true)
    (a__law_dip : PySem.W.nsIn K mainGlobals "_law_dip" = some (some (.ref f__law_dip))) (l__law_dip : K.lookup f__law_dip = some ⟨oc__law_dip, od__law_dip, .func (PySem.W.fnOf "_law_dip" "_law_dip" (defArgs s_law_dip) (defBody s_law_dip) (defScope s_law_dip) .none kV__law_dip dc__law_dip pm__law_dip an__law_dip cd__law_dip ct__law_dip), sl__law_dip⟩) (c__law_dip : PySem.W.codeIn K cd__law_dip "_law_dip" = true) (k__law_dip : PySem.W.keepIn K (.ref f__law_dip) = true)
    (a__law_same : PySem.W.nsIn K mainGlobals "_law_same" = some (some (.ref f__law_same))) (l__law_same : K.lookup f__law_same = some ⟨oc__law_same, od__law_same, .func (PySem.W.fnOf "_law_same" "_law_same" (defArgs s_law_same) (defBody s_law_same) (defScope s_law_same) .none kV__law_same dc__law_same pm__law_same an__law_same cd__law_same ct__law_same), sl__law_same⟩) (c__law_same : PySem.W.codeIn K cd__law_same "_law_same" = true) (k__law_same : PySem.W.keepIn K (.ref f__law_same) = true)
    (a__law_kind : PySem.W.nsIn K mainGlobals "_law_kind" = some (some (.ref f__law_kind))) (l__law_kind : K.lookup f__law_kind = some ⟨oc__law_kind, od__law_kind, .func (PySem.W.fnOf "_law_kind" "_law_kind" (defArgs s_law_kind) (defBody s_law_kind) (defScope s_law_kind) .none kV__law_kind dc__law_kind pm__law_kind an__law_kind cd__law_kind ct__law_kind), sl__law_kind⟩) (c__law_kind : PySem.W.codeIn K cd__law_kind "_law_kind" = true) (k__law_kind : PySem.W.keepIn K (.ref f__law_kind) = true)
    (a__law_read : PySem.W.nsIn K mainGlobals "_law_read" = some (some (.ref f__law_read))) (l__law_read : K.lookup f__law_read = some ⟨oc__law_read, od__law_read, .func (PySem.W.fnOf "_law_read" "_law_read" (defArgs s_law_read) (defBody s_law_read) (defScope s_law_read) .none kV__law_read dc__law_read pm__law_read an__law_read cd__law_read ct__law_read), sl__law_read⟩) (c__law_read : PySem.W.codeIn K cd__law_read "_law_read" = true) (k__law_read : PySem.W.keepIn K (.ref f__law_read) = true)
    (a__law_bent : PySem.W.nsIn K mainGlobals "_law_bent" = some (some (.ref f__law_bent))) (l__law_bent : K.lookup f__law_bent = some ⟨oc__law_bent, od__law_bent, .func (PySem.W.fnOf "_law_bent" "_law_bent" (defArgs s_law_bent) (defBody s_law_bent) (defScope s_law_bent) .none kV__law_bent dc__law_bent pm__law_bent an__law_bent cd__law_bent ct__law_bent), sl__law_bent⟩) (c__law_bent : PySem.W.codeIn K cd__law_bent "_law_bent" = true) (k__law_bent : PySem.W.keepIn K (.ref f__law_bent) = true)
    (a__law_caught : PySem.W.nsIn K mainGlobals "_law_caught" = some (some (.ref f__law_caught))) (l__law_caught : K.lookup f__law_caught = some ⟨oc__law_caught, od__law_caught, .func (PySem.W.fnOf "_law_caught" "_law_caught" (defArgs s_law_caught) (defBody s_law_caught) (defScope s_law_caught) .none kV__law_caught dc__law_caught pm__law_caught an__law_caught cd__law_caught ct__law_caught), sl__law_caught⟩) (c__law_caught : PySem.W.codeIn K cd__law_caught "_law_caught" = true) (k__law_caught : PySem.W.keepIn K (.ref f__law_caught) = true)
    (a_law : PySem.W.nsIn K mainGlobals "law" = some (some (.ref f_law))) (l_law : K.lookup f_law = some ⟨oc_law, od_law, .func (PySem.W.fnOf "law" "law" (defArgs s_law) (defBody s_law) (defScope s_law) .none kV_law dc_law pm_law an_law cd_law ct_law), sl_law⟩) (c_law : PySem.W.codeIn K cd_law "law" = true) (k_law : PySem.W.keepIn K (.ref f_law) = true)
    (z_isinstance : PySem.W.nsIn K mainGlobals "isinstance" = some none)
    (z_int : PySem.W.nsIn K mainGlobals "int" = some none)
    (z_bool : PySem.W.nsIn K mainGlobals "bool" = some none)
    (z_tuple : PySem.W.nsIn K mainGlobals "tuple" = some none)
    (z_len : PySem.W.nsIn K mainGlobals "len" = some none)
    (z_all : PySem.W.nsIn K mainGlobals "all" = some none)
    (z_str : PySem.W.nsIn K mainGlobals "str" = some none)
    (z_max : PySem.W.nsIn K mainGlobals "max" = some none)
    (z_list : PySem.W.nsIn K mainGlobals "list" = some none)
    (z_range : PySem.W.nsIn K mainGlobals "range" = some none)
    (z_min : PySem.W.nsIn K mainGlobals "min" = some none)
    (z_ValueError : PySem.W.nsIn K mainGlobals "ValueError" = some none)
    (m_MOST_PLACES : PySem.W.nsIn K mainGlobals "MOST_PLACES" = some (some (.int 12 t_MOST_PLACES)))
    (m_MOST_FIGURES : PySem.W.nsIn K mainGlobals "MOST_FIGURES" = some (some (.int 40 t_MOST_FIGURES)))
    (gC_LearnError : PySem.W.nsIn K mainGlobals "LearnError" = some (some (.ref A_LearnError)))
    (gC_NoCoder : PySem.W.nsIn K mainGlobals "NoCoder" = some (some (.ref A_NoCoder)))
    (gC_NoCount : PySem.W.nsIn K mainGlobals "NoCount" = some (some (.ref A_NoCount)))
    (gC_NoCounts : PySem.W.nsIn K mainGlobals "NoCounts" = some (some (.ref A_NoCounts)))
    (gC_NoKnown : PySem.W.nsIn K mainGlobals "NoKnown" = some (some (.ref A_NoKnown)))
    (gC_NoLog : PySem.W.nsIn K mainGlobals "NoLog" = some (some (.ref A_NoLog)))
    (gC_NoLoop : PySem.W.nsIn K mainGlobals "NoLoop" = some (some (.ref A_NoLoop)))
    (gC_NoPairs : PySem.W.nsIn K mainGlobals "NoPairs" = some (some (.ref A_NoPairs)))
    (gC_NoPlace : PySem.W.nsIn K mainGlobals "NoPlace" = some (some (.ref A_NoPlace)))
    (gC_NoRow : PySem.W.nsIn K mainGlobals "NoRow" = some (some (.ref A_NoRow)))
    (gC_NoSign : PySem.W.nsIn K mainGlobals "NoSign" = some (some (.ref A_NoSign)))
    (gC_NoText : PySem.W.nsIn K mainGlobals "NoText" = some (some (.ref A_NoText)))
    (gC_NoTree : PySem.W.nsIn K mainGlobals "NoTree" = some (some (.ref A_NoTree)))
    (gC_NoWord : PySem.W.nsIn K mainGlobals "NoWord" = some (some (.ref A_NoWord)))
    (gC_NotLike : PySem.W.nsIn K mainGlobals "NotLike" = some (some (.ref A_NotLike)))
    (gC_NotRound : PySem.W.nsIn K mainGlobals "NotRound" = some (some (.ref A_NotRound)))
    (gC_Nothing : PySem.W.nsIn K mainGlobals "Nothing" = some (some (.ref A_Nothing)))
    (kC_NoText : PySem.W.keepIn K (.ref A_NoText) = true) (xC_NoText : PySem.W.excIn K A_NoText [.type "ValueError", .type "Exception", .type "BaseException", .type "object"] "ValueError.__new__" = true)
    (bC_NoText : PySem.W.subIn K (.ref A_NoText) (.type "BaseException") = some true) (tC_NoText : PySem.W.typeIn K (.ref A_NoText) = some (.type "type"))
    (bE : PySem.W.subIn K (.ref A_LearnError) (.type "BaseException") = some true) (dE : PySem.W.hasDictIn K A_LearnError = true) (tE : PySem.W.typeIn K (.ref A_LearnError) = some (.type "type"))
    (p_NoKnown : PySem.W.isClsIn K A_NoKnown = true) (q_NoKnown : PySem.W.typeIn K (.ref A_NoKnown) = some (.type "type"))
    (p_NoText : PySem.W.isClsIn K A_NoText = true) (q_NoText : PySem.W.typeIn K (.ref A_NoText) = some (.type "type"))
    (p_NoPairs : PySem.W.isClsIn K A_NoPairs = true) (q_NoPairs : PySem.W.typeIn K (.ref A_NoPairs) = some (.type "type"))
    (p_NoLoop : PySem.W.isClsIn K A_NoLoop = true) (q_NoLoop : PySem.W.typeIn K (.ref A_NoLoop) = some (.type "type"))
    (p_NoCoder : PySem.W.isClsIn K A_NoCoder = true) (q_NoCoder : PySem.W.typeIn K (.ref A_NoCoder) = some (.type "type"))
    (p_NoCount : PySem.W.isClsIn K A_NoCount = true) (q_NoCount : PySem.W.typeIn K (.ref A_NoCount) = some (.type "type"))
    (p_NotRound : PySem.W.isClsIn K A_NotRound = true) (q_NotRound : PySem.W.typeIn K (.ref A_NotRound) = some (.type "type"))
    (p_NoCounts : PySem.W.isClsIn K A_NoCounts = true) (q_NoCounts : PySem.W.typeIn K (.ref A_NoCounts) = some (.type "type"))
    (p_NoLog : PySem.W.isClsIn K A_NoLog = true) (q_NoLog : PySem.W.typeIn K (.ref A_NoLog) = some (.type "type"))
    (p_NoPlace : PySem.W.isClsIn K A_NoPlace = true) (q_NoPlace : PySem.W.typeIn K (.ref A_NoPlace) = some (.type "type"))
    (p_NoRow : PySem.W.isClsIn K A_NoRow = true) (q_NoRow : PySem.W.typeIn K (.ref A_NoRow) = some (.type "type"))
    (p_NoSign : PySem.W.isClsIn K A_NoSign = true) (q_NoSign : PySem.W.typeIn K (.ref A_NoSign) = some (.type "type"))
    (p_NoTree : PySem.W.isClsIn K A_NoTree = true) (q_NoTree : PySem.W.typeIn K (.ref A_NoTree) = some (.type "type"))
    (p_NoWord : PySem.W.isClsIn K A_NoWord = true) (q_NoWord : PySem.W.typeIn K (.ref A_NoWord) = some (.type "type"))
    (p_NotLike : PySem.W.isClsIn K A_NotLike = true) (q_NotLike : PySem.W.typeIn K (.ref A_NotLike) = some (.type "type"))
    (p_Nothing : PySem.W.isClsIn K A_Nothing = true) (q_Nothing : PySem.W.typeIn K (.ref A_Nothing) = some (.type "type"))
    (sE_NoText : PySem.W.subIn K (.ref A_NoText) (.ref A_LearnError) = some true)
    (xg_NoText : PySem.W.findIn K (.ref A_NoText) "__getattribute__" = some (some (.builtin "BaseException.__getattribute__"))) (xk_NoText : PySem.W.findIn K (.ref A_NoText) "__getattr__" = some none) (xd_NoText : PySem.W.hasDictIn K A_NoText = true) (xa_NoText : PySem.W.findIn K (.ref A_NoText) "__class__" = some (some (.builtin "object.__class__")))
    (xm_NoText : PySem.W.mroIn K A_NoText (.type "object") = some true) (ve_NoText : PySem.W.subIn K (.ref A_NoText) (.type "ValueError") = some true) (sS_NoText : PySem.W.subIn K (.ref A_NoText) (.ref A_NoText) = some true)
    (r_NoText_NoKnown : PySem.W.subIn K (.ref A_NoText) (.ref A_NoKnown) = some false)
    (r_NoText_NoPairs : PySem.W.subIn K (.ref A_NoText) (.ref A_NoPairs) = some false)
    (r_NoText_NoLoop : PySem.W.subIn K (.ref A_NoText) (.ref A_NoLoop) = some false)
    (r_NoText_NoCoder : PySem.W.subIn K (.ref A_NoText) (.ref A_NoCoder) = some false)
    (r_NoText_NoCount : PySem.W.subIn K (.ref A_NoText) (.ref A_NoCount) = some false)
    (r_NoText_NotRound : PySem.W.subIn K (.ref A_NoText) (.ref A_NotRound) = some false)
    (r_NoText_NoCounts : PySem.W.subIn K (.ref A_NoText) (.ref A_NoCounts) = some false)
    (r_NoText_NoLog : PySem.W.subIn K (.ref A_NoText) (.ref A_NoLog) = some false)
    (r_NoText_NoPlace : PySem.W.subIn K (.ref A_NoText) (.ref A_NoPlace) = some false)
    (r_NoText_NoRow : PySem.W.subIn K (.ref A_NoText) (.ref A_NoRow) = some false)
    (r_NoText_NoSign : PySem.W.subIn K (.ref A_NoText) (.ref A_NoSign) = some false)
    (r_NoText_NoTree : PySem.W.subIn K (.ref A_NoText) (.ref A_NoTree) = some false)
    (r_NoText_NoWord : PySem.W.subIn K (.ref A_NoText) (.ref A_NoWord) = some false)
    (r_NoText_NotLike : PySem.W.subIn K (.ref A_NoText) (.ref A_NotLike) = some false)
    (r_NoText_Nothing : PySem.W.subIn K (.ref A_NoText) (.ref A_Nothing) = some false)
    (xn : PySem.W.specialIn K (.builtin "object.__class__") "__get__" = some (some (.builtin "getset_descriptor.__get__"))) (xt : PySem.W.takesIn K (.builtin "object.__class__") = some true)
    :
    ∃ fd : FuncData, (∀ (s : Shared) (v : Value), BindsTo s fd ⟨[v], []⟩ [("script", v)]) ∧ ∀ base : Heap, K.In base → base.Ns mainGlobals mg → FnOk l.prog w K mg base CX0 8 fa fd ["script"] (spLaw K) := by
  have e := hfa.symm.trans (PySem.W.mg_of X G a_law)
  cases e
  have F_is_whole := fun_mk (st := s_is_whole) l_is_whole c_is_whole k_is_whole
  have F_is_within := fun_mk (st := s_is_within) l_is_within c_is_within k_is_within
  have F_is_coder := fun_mk (st := s_is_coder) l_is_coder c_is_coder k_is_coder
  have F_read_number := fun_mk (st := s_read_number) l_read_number c_read_number k_read_number
  have F_read_coder := fun_mk (st := s_read_coder) l_read_coder c_read_coder k_read_coder
  have F__law_pail := fun_mk (st := s_law_pail) l__law_pail c__law_pail k__law_pail
  have F__law_dip := fun_mk (st := s_law_dip) l__law_dip c__law_dip k__law_dip
  have F__law_same := fun_mk (st := s_law_same) l__law_same c__law_same k__law_same
  have F__law_kind := fun_mk (st := s_law_kind) l__law_kind c__law_kind k__law_kind
  have F__law_read := fun_mk (st := s_law_read) l__law_read c__law_read k__law_read
  have F__law_bent := fun_mk (st := s_law_bent) l__law_bent c__law_bent k__law_bent
  have F__law_caught := fun_mk (st := s_law_caught) l__law_caught c__law_caught k__law_caught
  have F_law := fun_mk (st := s_law) l_law c_law k_law
  have b_is_whole := F_is_whole.binds (ps := ["thing"]) fun _ _ _ _ _ _ us hl => match us, hl with | [_], _ => rfl
  have b_is_within := F_is_within.binds (ps := ["thing", "least", "most"]) fun _ _ _ _ _ _ us hl => match us, hl with | [_, _, _], _ => rfl
  have b_is_coder := F_is_coder.binds (ps := ["thing"]) fun _ _ _ _ _ _ us hl => match us, hl with | [_], _ => rfl
  have b_read_number := F_read_number.binds (ps := ["text"]) fun _ _ _ _ _ _ us hl => match us, hl with | [_], _ => rfl
  have b_read_coder := F_read_coder.binds (ps := ["text"]) fun _ _ _ _ _ _ us hl => match us, hl with | [_], _ => rfl
  have b__law_pail := F__law_pail.binds (ps := ["script", "k"]) fun _ _ _ _ _ _ us hl => match us, hl with | [_, _], _ => rfl
  have b__law_dip := F__law_dip.binds (ps := ["pail", "many"]) fun _ _ _ _ _ _ us hl => match us, hl with | [_, _], _ => rfl
  have b__law_same := F__law_same.binds (ps := ["found", "due"]) fun _ _ _ _ _ _ us hl => match us, hl with | [_, _], _ => rfl
  have b__law_kind := F__law_kind.binds (ps := ["caught"]) fun _ _ _ _ _ _ us hl => match us, hl with | [_], _ => rfl
  have b__law_read := F__law_read.binds (ps := ["text"]) fun _ _ _ _ _ _ us hl => match us, hl with | [_], _ => rfl
  have b__law_bent := F__law_bent.binds (ps := ["pail", "text"]) fun _ _ _ _ _ _ us hl => match us, hl with | [_, _], _ => rfl
  have b__law_caught := F__law_caught.binds (ps := ["thing"]) fun _ _ _ _ _ _ us hl => match us, hl with | [_], _ => rfl
  have g_is_whole := PySem.W.mg_of X G a_is_whole
  have g_is_within := PySem.W.mg_of X G a_is_within
  have g_is_coder := PySem.W.mg_of X G a_is_coder
  have g_read_number := PySem.W.mg_of X G a_read_number
  have g_read_coder := PySem.W.mg_of X G a_read_coder
  have g__law_pail := PySem.W.mg_of X G a__law_pail
  have g__law_dip := PySem.W.mg_of X G a__law_dip
  have g__law_same := PySem.W.mg_of X G a__law_same
  have g__law_kind := PySem.W.mg_of X G a__law_kind
  have g__law_read := PySem.W.mg_of X G a__law_read
  have g__law_bent := PySem.W.mg_of X G a__law_bent
  have g__law_caught := PySem.W.mg_of X G a__law_caught
  have g_law := PySem.W.mg_of X G a_law
  have w_isinstance := PySem.W.mg_none_of X G z_isinstance
  have w_int := PySem.W.mg_none_of X G z_int
  have w_bool := PySem.W.mg_none_of X G z_bool
  have w_tuple := PySem.W.mg_none_of X G z_tuple
  have w_len := PySem.W.mg_none_of X G z_len
  have w_all := PySem.W.mg_none_of X G z_all
  have w_str := PySem.W.mg_none_of X G z_str
  have w_max := PySem.W.mg_none_of X G z_max
  have w_list := PySem.W.mg_none_of X G z_list
  have w_range := PySem.W.mg_none_of X G z_range
  have w_min := PySem.W.mg_none_of X G z_min
  have w_ValueError := PySem.W.mg_none_of X G z_ValueError
  have h_MOST_PLACES := PySem.W.mg_of X G m_MOST_PLACES
  have h_MOST_FIGURES := PySem.W.mg_of X G m_MOST_FIGURES
  have hC_LearnError := PySem.W.mg_of X G gC_LearnError
  have hC_NoCoder := PySem.W.mg_of X G gC_NoCoder
  have hC_NoCount := PySem.W.mg_of X G gC_NoCount
  have hC_NoCounts := PySem.W.mg_of X G gC_NoCounts
  have hC_NoKnown := PySem.W.mg_of X G gC_NoKnown
  have hC_NoLog := PySem.W.mg_of X G gC_NoLog
  have hC_NoLoop := PySem.W.mg_of X G gC_NoLoop
  have hC_NoPairs := PySem.W.mg_of X G gC_NoPairs
  have hC_NoPlace := PySem.W.mg_of X G gC_NoPlace
  have hC_NoRow := PySem.W.mg_of X G gC_NoRow
  have hC_NoSign := PySem.W.mg_of X G gC_NoSign
  have hC_NoText := PySem.W.mg_of X G gC_NoText
  have hC_NoTree := PySem.W.mg_of X G gC_NoTree
  have hC_NoWord := PySem.W.mg_of X G gC_NoWord
  have hC_NotLike := PySem.W.mg_of X G gC_NotLike
  have hC_NotRound := PySem.W.mg_of X G gC_NotRound
  have hC_Nothing := PySem.W.mg_of X G gC_Nothing
  have TE_NoText : ErrC K mg "NoText" A_NoText := ⟨hC_NoText, kC_NoText, xC_NoText, bC_NoText, tC_NoText⟩
  have te_NoText : PySem.W.exmOne K (.ref A_NoText) (.ref A_LearnError) = some true := PySem.W.exm_ref bE dE tE sE_NoText
  have TX_NoText : Errs16 K mg A_NoText "NoText" := ⟨⟨xg_NoText, xk_NoText, bC_NoText, xd_NoText, xa_NoText, xn, xt, xm_NoText⟩, w_ValueError, kit_ve ve_NoText, w_isinstance, fun x hx => by
    simp only [ernL, List.mem_cons, List.not_mem_nil, or_false] at hx
    rcases hx with rfl | rfl | rfl | rfl | rfl | rfl | rfl | rfl | rfl | rfl | rfl | rfl | rfl | rfl | rfl | rfl
    · exact isb_to (b := false) (by decide +kernel) ⟨_, hC_NoKnown, kit_no sS_NoText p_NoKnown q_NoKnown r_NoText_NoKnown⟩
    · exact isb_to (b := true) (by decide +kernel) ⟨_, hC_NoText, kit_self _⟩
    · exact isb_to (b := false) (by decide +kernel) ⟨_, hC_NoPairs, kit_no sS_NoText p_NoPairs q_NoPairs r_NoText_NoPairs⟩
    · exact isb_to (b := false) (by decide +kernel) ⟨_, hC_NoLoop, kit_no sS_NoText p_NoLoop q_NoLoop r_NoText_NoLoop⟩
    · exact isb_to (b := false) (by decide +kernel) ⟨_, hC_NoCoder, kit_no sS_NoText p_NoCoder q_NoCoder r_NoText_NoCoder⟩
    · exact isb_to (b := false) (by decide +kernel) ⟨_, hC_NoCount, kit_no sS_NoText p_NoCount q_NoCount r_NoText_NoCount⟩
    · exact isb_to (b := false) (by decide +kernel) ⟨_, hC_NotRound, kit_no sS_NoText p_NotRound q_NotRound r_NoText_NotRound⟩
    · exact isb_to (b := false) (by decide +kernel) ⟨_, hC_NoTree, kit_no sS_NoText p_NoTree q_NoTree r_NoText_NoTree⟩
    · exact isb_to (b := false) (by decide +kernel) ⟨_, hC_NoSign, kit_no sS_NoText p_NoSign q_NoSign r_NoText_NoSign⟩
    · exact isb_to (b := false) (by decide +kernel) ⟨_, hC_NotLike, kit_no sS_NoText p_NotLike q_NotLike r_NoText_NotLike⟩
    · exact isb_to (b := false) (by decide +kernel) ⟨_, hC_NoPlace, kit_no sS_NoText p_NoPlace q_NoPlace r_NoText_NoPlace⟩
    · exact isb_to (b := false) (by decide +kernel) ⟨_, hC_NoCounts, kit_no sS_NoText p_NoCounts q_NoCounts r_NoText_NoCounts⟩
    · exact isb_to (b := false) (by decide +kernel) ⟨_, hC_NoWord, kit_no sS_NoText p_NoWord q_NoWord r_NoText_NoWord⟩
    · exact isb_to (b := false) (by decide +kernel) ⟨_, hC_Nothing, kit_no sS_NoText p_Nothing q_Nothing r_NoText_Nothing⟩
    · exact isb_to (b := false) (by decide +kernel) ⟨_, hC_NoLog, kit_no sS_NoText p_NoLog q_NoLog r_NoText_NoLog⟩
    · exact isb_to (b := false) (by decide +kernel) ⟨_, hC_NoRow, kit_no sS_NoText p_NoRow q_NoRow r_NoText_NoRow⟩⟩
  refine ⟨PySem.W.fnOf "law" "law" (defArgs s_law) (defBody s_law) (defScope s_law) .none kV_law dc_law pm_law an_law cd_law ct_law, fun s v => .of_eq rfl, fun base _ _ => ?_⟩
  have E_is_whole := mkCal (P := l.prog) (w := w) (base := base) F_is_whole g_is_whole b_is_whole (ok_whole F_is_whole w_isinstance w_int w_bool)
  have E_is_within := mkCal (P := l.prog) (w := w) (base := base) F_is_within g_is_within b_is_within (ok_within F_is_within E_is_whole)
  have E_is_coder := mkCal (P := l.prog) (w := w) (base := base) F_is_coder g_is_coder b_is_coder (ok_isCoder F_is_coder E_is_whole E_is_within w_isinstance w_tuple w_len w_all h_MOST_PLACES)
  have E_read_number := mkCal (P := l.prog) (w := w) (base := base) F_read_number g_read_number b_read_number (ok_readN F_read_number h_MOST_FIGURES w_len w_all w_int)
  have E_read_coder := mkCalN (P := l.prog) (w := w) (base := base) F_read_coder g_read_coder b_read_coder (ok_readX F_read_coder E_read_number E_is_coder TE_NoText w_isinstance w_str w_len w_tuple)
  have E__law_pail := mkCal (P := l.prog) (w := w) (base := base) F__law_pail g__law_pail b__law_pail (ok_pail F__law_pail w_max w_len)
  have E__law_dip := mkCal (P := l.prog) (w := w) (base := base) F__law_dip g__law_dip b__law_dip (ok_dip F__law_dip)
  have E__law_same := mkCal (P := l.prog) (w := w) (base := base) F__law_same g__law_same b__law_same (ok_same0 F__law_same)
  have E__law_same := mkCal (P := l.prog) (w := w) (base := base) F__law_same g__law_same b__law_same (ok_same F__law_same E__law_same w_isinstance w_list w_tuple w_bool w_len w_range w_all)
  have E__law_same := mkCal (P := l.prog) (w := w) (base := base) F__law_same g__law_same b__law_same (ok_same F__law_same E__law_same w_isinstance w_list w_tuple w_bool w_len w_range w_all)
  have E__law_same := mkCal (P := l.prog) (w := w) (base := base) F__law_same g__law_same b__law_same (ok_same F__law_same E__law_same w_isinstance w_list w_tuple w_bool w_len w_range w_all)
  have E__law_same := mkCal (P := l.prog) (w := w) (base := base) F__law_same g__law_same b__law_same (ok_same F__law_same E__law_same w_isinstance w_list w_tuple w_bool w_len w_range w_all)
  have E__law_kind := (⟨_, _, fun q hq => (by
    rw [List.mem_singleton.mp hq]
    exact ok_kindE F__law_kind (by show ("NoText" : Str) ∈ ernL; decide +kernel) TX_NoText w_len), g__law_kind, F__law_kind.kp, b__law_kind⟩ : CalE l.prog w K mg base 1 "_law_kind" "caught" toldK [(A_NoText, ("NoText" : Str))])
  have E__law_read := mkCal (P := l.prog) (w := w) (base := base) F__law_read g__law_read b__law_read (ok_read F__law_read w_isinstance w_str w_len w_tuple w_int)
  have E__law_bent := mkCal (P := l.prog) (w := w) (base := base) F__law_bent g__law_bent b__law_bent (ok_bent F__law_bent E__law_dip w_len w_range)
  have E__law_caught := mkCal (P := l.prog) (w := w) (base := base) F__law_caught g__law_caught b__law_caught (ok_caught F__law_caught E_read_coder E__law_kind hC_LearnError te_NoText)
  exact ok_law F_law ⟨E__law_pail, E__law_dip, E__law_bent, E__law_read, E__law_caught, E__law_same, w_range, w_len, w_max, w_min, w_str, w_tuple⟩
end Lk
end
open PySem PySem.W PyProof.Rows
set_option maxRecDepth 100000 in
set_option maxHeartbeats 0 in
theorem PySem.Challenge.cw_looplearn_k60_texts_of_no_coder_holds : PySem.Challenge.rw_looplearn_k60_texts_of_no_coder.Holds := by
  w_on; o_law; k_head; (case hw => w_witness2)
  k_fill
  refine L2.walk_of (l := PySem.Challenge.rw_looplearn_k60_texts_of_no_coder) (n := 63) (k := 8) (x := "script") (CX := fun _ => L2.CX0) (sp := fun w => Lk.spLaw _) rfl (by decide) rfl ⟨rfl, by decide, by decide⟩ (fun w h Y => PySem.W.kIn_of Y) ?F (fun _ _ a ns hl _ hS => ⟨a, ns, rfl, hS, hl, fun _ => rfl⟩) (fun _ _ _ _ _ h => h)
  case F =>
    intro w mg fa h KX G hmg
    refine' Lk.all_mk KX G hmg ?a_is_whole ?l_is_whole ?c_is_whole ?k_is_whole ?a_is_within ?l_is_within ?c_is_within ?k_is_within ?a_is_coder ?l_is_coder ?c_is_coder ?k_is_coder ?a_read_number ?l_read_number ?c_read_number ?k_read_number ?a_read_coder ?l_read_coder ?c_read_coder ?k_read_coder ?a__law_pail ?l__law_pail ?c__law_pail ?k__law_pail ?a__law_dip ?l__law_dip ?c__law_dip ?k__law_dip ?a__law_same ?l__law_same ?c__law_same ?k__law_same ?a__law_kind ?l__law_kind ?c__law_kind ?k__law_kind ?a__law_read ?l__law_read ?c__law_read ?k__law_read ?a__law_bent ?l__law_bent ?c__law_bent ?k__law_bent ?a__law_caught ?l__law_caught ?c__law_caught ?k__law_caught ?a_law ?l_law ?c_law ?k_law ?z_isinstance ?z_int ?z_bool ?z_tuple ?z_len ?z_all ?z_str ?z_max ?z_list ?z_range ?z_min ?z_ValueError ?m_MOST_PLACES ?m_MOST_FIGURES ?gC_LearnError ?gC_NoCoder ?gC_NoCount ?gC_NoCounts ?gC_NoKnown ?gC_NoLog ?gC_NoLoop ?gC_NoPairs ?gC_NoPlace ?gC_NoRow ?gC_NoSign ?gC_NoText ?gC_NoTree ?gC_NoWord ?gC_NotLike ?gC_NotRound ?gC_Nothing ?kC_NoText ?xC_NoText ?bC_NoText ?tC_NoText ?bE ?dE ?tE ?p_NoKnown ?q_NoKnown ?p_NoText ?q_NoText ?p_NoPairs ?q_NoPairs ?p_NoLoop ?q_NoLoop ?p_NoCoder ?q_NoCoder ?p_NoCount ?q_NoCount ?p_NotRound ?q_NotRound ?p_NoCounts ?q_NoCounts ?p_NoLog ?q_NoLog ?p_NoPlace ?q_NoPlace ?p_NoRow ?q_NoRow ?p_NoSign ?q_NoSign ?p_NoTree ?q_NoTree ?p_NoWord ?q_NoWord ?p_NotLike ?q_NotLike ?p_Nothing ?q_Nothing ?sE_NoText ?xg_NoText ?xk_NoText ?xd_NoText ?xa_NoText ?xm_NoText ?ve_NoText ?sS_NoText ?r_NoText_NoKnown ?r_NoText_NoPairs ?r_NoText_NoLoop ?r_NoText_NoCoder ?r_NoText_NoCount ?r_NoText_NotRound ?r_NoText_NoCounts ?r_NoText_NoLog ?r_NoText_NoPlace ?r_NoText_NoRow ?r_NoText_NoSign ?r_NoText_NoTree ?r_NoText_NoWord ?r_NoText_NotLike ?r_NoText_Nothing ?xn ?xt
    (case a_is_whole => k_is)
    (case l_is_whole => k_is)
    (case c_is_whole => k_is)
    (case k_is_whole => k_is)
    (case a_is_within => k_is)
    (case l_is_within => k_is)
    (case c_is_within => k_is)
    (case k_is_within => k_is)
    (case a_is_coder => k_is)
    (case l_is_coder => k_is)
    (case c_is_coder => k_is)
    (case k_is_coder => k_is)
    (case a_read_number => k_is)
    (case l_read_number => k_is)
    (case c_read_number => k_is)
    (case k_read_number => k_is)
    (case a_read_coder => k_is)
    (case l_read_coder => k_is)
    (case c_read_coder => k_is)
    (case k_read_coder => k_is)
    (case a__law_pail => k_is)
    (case l__law_pail => k_is)
    (case c__law_pail => k_is)
    (case k__law_pail => k_is)
    (case a__law_dip => k_is)
    (case l__law_dip => k_is)
    (case c__law_dip => k_is)
    (case k__law_dip => k_is)
    (case a__law_same => k_is)
    (case l__law_same => k_is)
    (case c__law_same => k_is)
    (case k__law_same => k_is)
    (case a__law_kind => k_is)
    (case l__law_kind => k_is)
    (case c__law_kind => k_is)
    (case k__law_kind => k_is)
    (case a__law_read => k_is)
    (case l__law_read => k_is)
    (case c__law_read => k_is)
    (case k__law_read => k_is)
    (case a__law_bent => k_is)
    (case l__law_bent => k_is)
    (case c__law_bent => k_is)
    (case k__law_bent => k_is)
    (case a__law_caught => k_is)
    (case l__law_caught => k_is)
    (case c__law_caught => k_is)
    (case k__law_caught => k_is)
    (case a_law => k_is)
    (case l_law => k_is)
    (case c_law => k_is)
    (case k_law => k_is)
    (case z_isinstance => k_is)
    (case z_int => k_is)
    (case z_bool => k_is)
    (case z_tuple => k_is)
    (case z_len => k_is)
    (case z_all => k_is)
    (case z_str => k_is)
    (case z_max => k_is)
    (case z_list => k_is)
    (case z_range => k_is)
    (case z_min => k_is)
    (case z_ValueError => k_is)
    (case m_MOST_PLACES => k_is)
    (case m_MOST_FIGURES => k_is)
    (case gC_LearnError => k_is)
    (case gC_NoCoder => k_is)
    (case gC_NoCount => k_is)
    (case gC_NoCounts => k_is)
    (case gC_NoKnown => k_is)
    (case gC_NoLog => k_is)
    (case gC_NoLoop => k_is)
    (case gC_NoPairs => k_is)
    (case gC_NoPlace => k_is)
    (case gC_NoRow => k_is)
    (case gC_NoSign => k_is)
    (case gC_NoText => k_is)
    (case gC_NoTree => k_is)
    (case gC_NoWord => k_is)
    (case gC_NotLike => k_is)
    (case gC_NotRound => k_is)
    (case gC_Nothing => k_is)
    (case kC_NoText => k_is)
    (case xC_NoText => k_exc)
    (case bC_NoText => k_is)
    (case tC_NoText => k_is)
    (case bE => k_is)
    (case dE => k_is)
    (case tE => k_is)
    (case p_NoKnown => k_is)
    (case q_NoKnown => k_is)
    (case p_NoText => k_is)
    (case q_NoText => k_is)
    (case p_NoPairs => k_is)
    (case q_NoPairs => k_is)
    (case p_NoLoop => k_is)
    (case q_NoLoop => k_is)
    (case p_NoCoder => k_is)
    (case q_NoCoder => k_is)
    (case p_NoCount => k_is)
    (case q_NoCount => k_is)
    (case p_NotRound => k_is)
    (case q_NotRound => k_is)
    (case p_NoCounts => k_is)
    (case q_NoCounts => k_is)
    (case p_NoLog => k_is)
    (case q_NoLog => k_is)
    (case p_NoPlace => k_is)
    (case q_NoPlace => k_is)
    (case p_NoRow => k_is)
    (case q_NoRow => k_is)
    (case p_NoSign => k_is)
    (case q_NoSign => k_is)
    (case p_NoTree => k_is)
    (case q_NoTree => k_is)
    (case p_NoWord => k_is)
    (case q_NoWord => k_is)
    (case p_NotLike => k_is)
    (case q_NotLike => k_is)
    (case p_Nothing => k_is)
    (case q_Nothing => k_is)
    (case sE_NoText => k_is)
    (case xg_NoText => k_is)
    (case xk_NoText => k_is)
    (case xd_NoText => k_is)
    (case xa_NoText => k_is)
    (case xm_NoText => k_is)
    (case ve_NoText => k_is)
    (case sS_NoText => first | rfl | k_is)
    (case r_NoText_NoKnown => k_is)
    (case r_NoText_NoPairs => k_is)
    (case r_NoText_NoLoop => k_is)
    (case r_NoText_NoCoder => k_is)
    (case r_NoText_NoCount => k_is)
    (case r_NoText_NotRound => k_is)
    (case r_NoText_NoCounts => k_is)
    (case r_NoText_NoLog => k_is)
    (case r_NoText_NoPlace => k_is)
    (case r_NoText_NoRow => k_is)
    (case r_NoText_NoSign => k_is)
    (case r_NoText_NoTree => k_is)
    (case r_NoText_NoWord => k_is)
    (case r_NoText_NotLike => k_is)
    (case r_NoText_Nothing => k_is)
    (case xn => k_is)
    (case xt => k_is)
