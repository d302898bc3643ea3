import PyProof.Rows.All
import Wide.All
import OpenK.AllK
import Wide.FinOn
import HandS.ForMost
import HandS.Exc
import HandS.ExcValue
import PyProof.ReprRoads
import PyProof.ReprReads
import HandS.Codes
import HandS.Walk
import KE.GoesEnum
import HandS.Star
import HandS.TupAny
import HandS.IsInst
import HandS.FStr
import HandS.RaiseMore
import HandS.TryOnly
import HandS.ExcOwn
import HandS.WordsExc
import HandS.Flow
import HandS.More
import HandS.ExcIs
import HandS.Deep
import HandS.TupMul
import HandS.SetFor
import HandS.Wide
import HandS.Zip
import HandS.Set
import HandS.SetTxt0
import HandS.Conv
import PyProof.Rows.SortShellAny
import HandS.Nested
import HandS.Style
import KE.GoesEnumKw
import PyProof.Rows.CallKwBuiltin
import PyProof.WalkInts
import PyProof.WalksMore
import HandS.List
import PyProof.Rows.SumAny
import KE.GoesZip
import PyProof.StrLawsRepr
import HandS.MakeKwOnly
import HandS.Defaults
import HandS.Call
import PyProof.EnumMake
import PyProof.Draws
import PyProof.ListStr
import HandS.HotCalls
import HandS.TupSets
import PyProof.Seq
import PyProof.Rows.TupIter
import HandS.StrMore
import PyProof.StrLawsIn
import PyProof.Rows.StrRev
import HandS.Text
import OpenK.KOps
import PyProof.InstNe
import PySem.Challenge.RW_looplearn_k50_words_taught_or_not
set_option Elab.async false
set_option linter.all false
section
set_option maxRecDepth 100000
set_option maxHeartbeats 2000000
/-! repr of lists and tuples at any depth, where nothing is guarded; defs that are called so. -/
namespace Lk
open PySem PySem.Spec PyProof.Rows L2
mutual
/-- as Dp, and a dict with nothing in it -/
inductive Dq (K : PySem.W.Frag) (H : Hp) : V → PyData → Prop
  | non : Dq K H .non .none
  | bl (b : Bool) : Dq K H (.bl b) (.bool b)
  | int (i : Int) : Dq K H (.int i) (.int i)
  | str (x : Str) : Dq K H (.str x) (.str x)
  | lst {a : Addr} {xs : List V} {ds : List PyData} (h : SqL K H a xs) (m : DqAll K H xs ds) : Dq K H (.ref a) (.list ds)
  | tup {a : Addr} {xs : List V} {ds : List PyData} (h : SqT K H a xs) (m : DqAll K H xs ds) : Dq K H (.ref a) (.tuple ds)
  | dct {a : Addr} (h : H a = some (.dK [])) : Dq K H (.ref a) (.dict [])
inductive DqAll (K : PySem.W.Frag) (H : Hp) : List V → List PyData → Prop
  | nil : DqAll K H [] []
  | cons {v : V} {vs : List V} {d : PyData} {ds : List PyData} (h : Dq K H v d) (m : DqAll K H vs ds) : DqAll K H (v :: vs) (d :: ds)
end
section
variable {X : Cx} {pins : List (Addr × Obj)} {σ : L2.St} {H : Hp} {s : Shared}
/-- what is read of data so told, and that it is shown -/
def Sh (X : Cx) (s : Shared) (u : Value) (d : PyData) : Prop :=
  ∃ as bs, PySem.Reads s.heap u d as ∧ ReadAtMost s.heap d.depth bs ∧ ReprK X.prog X.w bs s.heap d.depth u d.shown
def ShAll (X : Cx) (s : Shared) (us : List Value) (ds : List PyData) : Prop :=
  ∃ as bs, PySem.ReadsAll s.heap us ds as ∧ ReadAtMost s.heap (PyData.depthAll ds) bs ∧ ReprAllK X.prog X.w bs s.heap (PyData.depthAll ds) us (PyData.shownAll ds)
theorem sh_flat {u : Value} {d : PyData} {as : List Addr} (r : PySem.Reads s.heap u d as) (h : d.showable = true) (n : d.hasDict = false) (z : d.shown.length ≤ sizeLine) : Sh X s u d := by
  obtain ⟨bs, h1, h2⟩ := ReprK.of_reads (prog := X.prog) (w := X.w) r h (PyData.noDict_hsm n) z
  exact ⟨as, bs, r, h1, h2⟩
mutual
theorem Dq.shows (I : Inv X pins σ H s) : ∀ (d : PyData) (v : V) (u : Value), Dq X.K H v d → RelV v u → d.showable = true → d.shown.length ≤ sizeLine → Sh X s u d
  | .none, _, _, h, r, hs, z => by
    cases h
    cases r
    exact sh_flat .none hs (by simp only [PyData.hasDict]) z
  | .bool b, _, _, h, r, hs, z => by
    cases h
    cases r
    exact sh_flat (.bool b) hs (by simp only [PyData.hasDict]) z
  | .int i, _, _, h, r, hs, z => by
    cases h
    obtain ⟨t, rfl⟩ := r
    exact sh_flat (.int i t) hs (by simp only [PyData.hasDict]) z
  | .str x, _, _, h, r, hs, z => by
    cases h
    obtain ⟨t, rfl⟩ := r
    exact sh_flat (.str x t) hs (by simp only [PyData.hasDict]) z
  | .list ds, _, _, h, r, hs, z => by
    cases h with
    | lst hq m =>
      rename_i a xs
      cases r
      obtain ⟨its, rv, ⟨o, n, ho, hc, _, hd⟩, _⟩ := I.list hq
      have z2 : (listText (PyData.shownAll ds)).length ≤ sizeLine := by simpa only [PyData.shown] using z
      obtain ⟨as, bs, r2, hb, hk⟩ := DqAll.shows I ds xs its m rv (by simpa [PyData.showable] using hs) fun t ht => Nat.le_trans (listText_mem_le ht) z2
      have r3 : PySem.Reads s.heap (.ref a) (.list ds) (a :: as) := .list ho hc hd r2
      have out : a ∉ bs := not_mem_of_deeper (n := PyData.depthAll ds) r3 (by simp only [PyData.depth]; omega) hb
      refine ⟨_, a :: bs, r3, .cons r3 (n := PyData.depthAll ds) (by simp only [PyData.depth]; omega) hb, ?_⟩
      simp only [PyData.depth, PyData.shown]
      cases its with
      | nil =>
        cases r2
        simp only [PyData.shownAll, listText_nil]
        exact ReprK.listEmpty ho hc hd
      | cons y ys => exact ReprK.list ho hc hd out (by simpa using hk.length_eq) fun i y e => hk.item i y (by simpa using e)
  | .tuple ds, _, _, h, r, hs, z => by
    cases h with
    | tup hq m =>
      rename_i a xs
      cases r
      obtain ⟨its, rv, ⟨o, ho, hc, n, hd⟩, _⟩ := I.tuple hq
      have z2 : (tupleText (PyData.shownAll ds)).length ≤ sizeLine := by simpa only [PyData.shown] using z
      obtain ⟨as, bs, r2, hb, hk⟩ := DqAll.shows I ds xs its m rv (by simpa [PyData.showable] using hs) fun t ht => Nat.le_trans (tupleText_mem_le ht) z2
      have r3 : PySem.Reads s.heap (.ref a) (.tuple ds) as := .tuple ho hc hd r2
      have out : a ∉ bs := not_mem_of_deeper (n := PyData.depthAll ds) r3 (by simp only [PyData.depth]; omega) hb
      refine ⟨_, a :: bs, r3, .cons r3 (n := PyData.depthAll ds) (by simp only [PyData.depth]; omega) hb, ?_⟩
      simp only [PyData.depth, PyData.shown]
      exact ReprK.tuple ho hc hd out hk
  | .dict kvs, _, _, h, r, hs, z => by
    cases h with
    | dct hq =>
      rename_i a
      cases r
      obtain ⟨_, far, vs, kv, o, es, ep, ho, ex, hd, _, hp, _⟩ := dk_of I.hok hq
      cases kv
      have e0 : es.toList = [] := List.eq_nil_of_length_eq_zero (by rw [hp.length]; rfl)
      obtain ⟨el⟩ := es
      dsimp only at e0
      subst e0
      have r3 : PySem.Reads s.heap (.ref a) (.dict []) [a] := .dict (as := []) (bs := []) ho ex.1 hd .nil .nil
      refine ⟨_, [a], r3, .cons r3 (n := 0) (Nat.zero_le _) (fun _ q => nomatch q), ?_⟩
      have q := ReprK.dict (prog := X.prog) (w := X.w) (as := []) (d := PyData.depthKv []) ho ex.1 hd far (fun q => nomatch q) .nil
      simpa only [PyData.depth, PyData.shown, PyData.shownKv] using q
theorem DqAll.shows (I : Inv X pins σ H s) : ∀ (ds : List PyData) (vs : List V) (us : List Value), DqAll X.K H vs ds → Vals vs us → PyData.showableAll ds = true → (∀ t ∈ PyData.shownAll ds, t.length ≤ sizeLine) → ShAll X s us ds
  | [], _, _, h, r, _, _ => by
    cases h
    cases r
    exact ⟨[], [], .nil, (fun _ q => nomatch q), .nil⟩
  | d :: ds, _, _, h, r, hs, z => by
    cases h with
    | cons h1 h2 =>
      cases r with
      | cons r1 r2 =>
        have hs2 : d.showable = true ∧ PyData.showableAll ds = true := by simpa [PyData.showableAll] using hs
        obtain ⟨as1, bs1, p1, q1, k1⟩ := Dq.shows I d _ _ h1 r1 hs2.1 (z _ (by simp only [PyData.shownAll]; exact List.mem_cons_self))
        obtain ⟨as2, bs2, p2, q2, k2⟩ := DqAll.shows I ds _ _ h2 r2 hs2.2 fun t ht => z t (by simp only [PyData.shownAll]; exact List.mem_cons_of_mem _ ht)
        refine ⟨_, bs1 ++ bs2, .cons p1 p2, ?_, ?_⟩
        · simp only [PyData.depthAll]
          exact (q1.mono (Nat.le_max_left _ _)).append (q2.mono (Nat.le_max_right _ _))
        · simp only [PyData.depthAll, PyData.shownAll]
          exact .cons ((k1.more fun b hb => List.mem_append_left _ hb).level_le (Nat.le_max_left _ _)) (k2.more_le (fun b hb => List.mem_append_right bs1 hb) (Nat.le_max_right _ _))
end
/-- repr of data, where nothing is guarded -/
def rRep (K : PySem.W.Frag) : List V → Hp → VK → Prop := fun xs H Q => ∃ v d, xs = [v] ∧ Dq K H v d ∧ (∀ kvs, d ≠ .dict kvs) ∧ d.showable = true ∧ d.depth ≤ 64 ∧ d.shown.length ≤ sizeLine ∧ Q (.str d.shown) H
theorem call_rep (hg : X.A.guards = some []) (hu : X.A.units + 100 < cLine) : CallR X (.builtin "repr") (rRep X.K) := by
  intro pins s σ H xs us Q I ru h
  obtain ⟨v, d, rfl, hd, nd, hs, dp, z, q⟩ := h
  obtain ⟨u, rfl, r⟩ := vals1 ru
  clear ru
  cases hd with
  | non =>
    cases r
    simp only [PyData.shown] at q
    exact PySem.P.repr_of_none ⟨.str _, H, I.tok _, ⟨_, rfl⟩, q⟩
  | bl b =>
    cases r
    simp only [PyData.shown] at q
    exact PySem.P.repr_of_bool ⟨.str _, H, I.tok _, ⟨_, rfl⟩, q⟩
  | int i =>
    obtain ⟨t, rfl⟩ := r
    simp only [PyData.shown] at q
    exact PySem.P.repr_of_int (by simpa [PyData.showable] using hs) ⟨.str _, H, I.tok _, ⟨_, rfl⟩, q⟩
  | str x =>
    obtain ⟨t, rfl⟩ := r
    simp only [PyData.shown] at q z
    exact PySem.P.repr_of_str ⟨.str _, H, I.tok _, ⟨_, rfl⟩, q⟩ z
  | dct e => exact absurd rfl (nd [])
  | lst hq m =>
    rename_i a xs ds
    cases r
    obtain ⟨its, rv, ⟨o, n, ho, hc, _, hd⟩, _⟩ := I.list hq
    simp only [PyData.shown, PyData.depth] at q z dp
    obtain ⟨as, bs, r2, hb, hk⟩ := DqAll.shows I ds xs its m rv (by simpa [PyData.showable] using hs) fun t ht => Nat.le_trans (listText_mem_le ht) z
    have out : a ∉ bs := not_mem_of_deeper (n := PyData.depthAll ds) (PySem.Reads.list ho hc hd r2) (by simp only [PyData.depth]; omega) hb
    have ty : s.TypeIs (.ref a) "list" := ⟨o, ho, hc⟩
    refine call_repr_slot (by omega) ty PySem.F.slot_list_repr.toG ?_
    cases its with
    | nil =>
      cases r2
      simp only [PyData.shownAll, listText_nil] at q
      exact call_list_repr_empty ty ho hd ⟨_, _, rfl, ⟨.str _, H, I.tok _, ⟨_, rfl⟩, q⟩⟩
    | cons y ys =>
      refine call_list_reprK ho hc hd out (by simpa using hk.length_eq) (fun i y e => hk.item i y (by simpa using e)) hg (fun b _ => Clear.nil b) (by show X.A.units + 1 + _ < cLine; omega) (fun _ _ e => e) (fun h2 u tk k => ?_) z
      exact ⟨_, _, rfl, ⟨.str _, H, I.kept k, ⟨_, rfl⟩, q⟩⟩
  | tup hq m =>
    rename_i a xs ds
    cases r
    obtain ⟨its, rv, ⟨o, ho, hc, n, hd⟩, _⟩ := I.tuple hq
    simp only [PyData.shown, PyData.depth] at q z dp
    obtain ⟨as, bs, r2, hb, hk⟩ := DqAll.shows I ds xs its m rv (by simpa [PyData.showable] using hs) fun t ht => Nat.le_trans (tupleText_mem_le ht) z
    have out : a ∉ bs := not_mem_of_deeper (n := PyData.depthAll ds) (PySem.Reads.tuple ho hc hd r2) (by simp only [PyData.depth]; omega) hb
    have ty : s.TypeIs (.ref a) "tuple" := ⟨o, ho, hc⟩
    refine call_repr_slot (by omega) ty PySem.F.slot_tuple_repr ?_
    refine call_tuple_reprK ho hc hd out hk hg (fun b _ => Clear.nil b) (by show X.A.units + 1 + _ < cLine; omega) (fun _ _ e => e) (fun h2 u tk k => ?_) z
    exact ⟨_, _, rfl, ⟨.str _, H, I.kept k, ⟨_, rfl⟩, q⟩⟩
end
end Lk
end
section
set_option maxRecDepth 100000
set_option maxHeartbeats 2000000
/-! Defs that are called where nothing is guarded. -/
namespace Lk
open PySem PySem.Spec PyProof.Rows L2
structure FnG (P : Program) (w : World) (K : PySem.W.Frag) (mg : Str → Option Value) (base : Heap) (T : CXT) (k : Nat) (f : Addr) (fd : FuncData) (ps : List Str) (sp : Sp) : Prop where
  many : ∀ {vs H Q E}, sp vs H Q E → vs.length = ps.length
  go : ∀ {A : Around} {outer : List Env} {s : Shared} {H : Hp} {args : Args} {us : List Value} {vs : List V} {Q : VK} {E : XK}, A.guards = some [] → Room k A → Env0 P w K mg base A outer s H →
    BindsTo s fd args (ps.zip us) → Vals vs us → sp vs H Q E → codeAny (model P w) A (.call (.ref f) args) (CR T outer P w H s Q E) s
section
variable {P : Program} {w : World} {K : PySem.W.Frag} {mg : Str → Option Value} {base : Heap}
theorem fnG {x qual : Str} {st : Stmt} {f : Addr} {fd : FuncData} {N ps : List Str} {k : Nat} {sp : Sp} (F : Fun K x qual st f fd) (S : FnScope N ps (defScope st)) (many : ∀ {vs H Q E}, sp vs H Q E → vs.length = ps.length)
    (body : ∀ (cdv : Value) (A : Around) (outer : List Env) (s : Shared) (H : Hp) (vs : List V) (Q : VK) (E : XK), (A.deeper (envOfC qual (defScope st) s.heap.objs.size f cdv)).guards = some [] →
      Room k (A.deeper (envOfC qual (defScope st) s.heap.objs.size f cdv)) → sp vs H Q E →
      ∃ t, PSs (cxOf CX0 P w K mg base N qual (defScope st) f cdv A outer s H E).nox (defBody st) t ∧ t { nx := fun _ H2 => Q .non H2, rt := Q } (start N vs) H) : FnG P w K mg base CX0 (k + 1) f fd ps sp := by
  obtain ⟨oc, od, kV, doc, pm, an, cdv, ct, osl, rfl, lk, code⟩ := F.ex
  refine ⟨many, fun {A outer s H args us vs Q E} gA hr e0 hb r h => ?_⟩
  have len := many h
  have inK : K.In s.heap := e0.mod.kin.keeps fun b o q => (e0.bs b o q).1
  have free : s.heap.NoLimit := e0.mod.nolimit.keeps fun b o q => (e0.bs b o q).1
  refine codeAny_call_function hr.depth (inK _ _ lk) rfl S.co S.gen rfl (PySem.W.codeRec_of inK code) (hb _ _ _ _ (wpAny_newFunctionEnv_cells S.kind (fun ⟨n, v⟩ hy => ?_) fun env he s1 x1 => ?_))
  · exact (S.par n (List.of_mem_zip hy).1).imp id fun q => ⟨q, PySem.W.cellsFrom_some _ _ _ (.inl q)⟩
  · subst he
    obtain ⟨t, ht, q⟩ := body cdv A outer s H vs Q E gA (hr.deeper _) h
    have I0 : Inv (cxOf CX0 P w K mg base N qual (defScope st) f cdv A outer s H E) [] (start N vs) H s1 := inv_start S hr.hd e0 len r x1
    refine ⟨free.keeps x1.toInCall.keep, codeAny_func (wpAny_mono (ht.nox.run [] s1 (start N vs) H _ I0 q) (fun fl s2 z => ?_) fun _ _ z => z)⟩
    match fl, z with
    | .ret u, ⟨v, _, H2, J, rv, q2⟩ => exact ⟨v, H2, J.os, J.bare, J.base, J.hok, rv, q2⟩
    | .next, ⟨_, H2, J, q2⟩ => exact ⟨V.non, H2, J.os, J.bare, J.base, J.hok, (rfl : RelV .non Value.none), q2⟩
    | .brk, ⟨_, _, _, no⟩ => exact no.elim
    | .cont, ⟨_, _, _, no⟩ => exact no.elim
end
/-- a def that is called by its name where nothing is guarded -/
structure CalG (P : Program) (w : World) (K : PySem.W.Frag) (mg : Str → Option Value) (base : Heap) (k : Nat) (x : Str) (sp : Sp) : Prop where
  ex : ∃ (f : Addr) (fd : FuncData) (ps : List Str), FnG P w K mg base CX0 k f fd ps sp ∧ mg x = some (.ref f) ∧ PySem.W.keepIn K (.ref f) = true ∧ Binds K fd ps []
section
variable {X : Cx} {k j : Nat} {x : Str} {sp : Sp} {p pos : Pos} {e : Expr} {es : List Expr} {t : TA}
theorem pe_cG (c : CalG X.prog X.w X.K X.mg X.base k x sp) (gX : X.A.guards = some []) (hr : Room j X.A) (hk : k ≤ j) (hg : Gl X x) (ha : PA X (e :: es) t)
    (hdb : (x == ("__debug__" : Str)) = false := by decide) (he : starEach (e :: es) X.env = (false, eval e X.env) :: starEach es X.env := by rfl) (hpl : (backTo pos (starEach es X.env)).any (·.1) = false := by rfl) :
    PE X (.Call (.Name x p) (e :: es) [] pos) (tCall sp [] E0 t) := by
  obtain ⟨f, fd, ps, F, hm, kp, b⟩ := c.ex
  refine ⟨fun pins s σ H Q I h => wpAny_Call_Name_kw (ld_glob I hg hm ?_ hdb)⟩
  refine PySem.W.callWith_K (h₀ := X.base) I.ok.mod.kin kp (thn (ha.run pos pins s σ H _ I h) fun us s1 ⟨vs, H1, I1, r, q⟩ => ⟨I1.kIn, ?_⟩) he hpl
  dsimp only at q
  rw [List.append_nil] at q
  have hl : (us ++ []).length = ps.length := by rw [List.append_nil, ← r.length]; exact F.many q
  have b1 := b s1 us I1.kIn hl
  rw [List.append_nil] at b1
  refine wpAny_call (codeAny_mono (F.go gX (hr.mono hk) I1.env0 b1 r q) fun r2 s2 z => ?_)
  match r2, z with
  | .ok (.ret u), z => exact I1.after z
  | .ok .next, z => exact z.elim
  | .ok .brk, z => exact z.elim
  | .ok .cont, z => exact z.elim
  | .error _, z => exact z.elim
end
/-- the law's call -/
theorem lawG {P : Program} {w : World} {K : PySem.W.Frag} {mg mb : Str → Option Value} {k : Nat} {fa a : Addr} {fd : FuncData} {x : Str} {sp : Sp} {s1 : Shared} {vs : List Value} {ns : List Int}
    (inK : K.In s1.heap) (gl : s1.heap.Ns mainGlobals mg) (bl : s1.heap.Ns builtinsNs mb) (bb : ∀ x : Str, x ≠ "__name__" → mb x = bootBuiltins x) (free : s1.heap.NoLimit) (g0 : s1.gens = #[])
    (ha : s1.heap.get? a = some { cls := .type "list", data := .seq vs.toArray }) (hi : IntsAre vs ns) (hl : ns.length ≤ sizeLine) (hr : Room k callerA)
    (F : ∀ base : Heap, K.In base → base.Ns mainGlobals mg → FnG P w K mg base CX0 k fa fd [x] sp) (bind : ∀ (s : Shared) (u : Value), BindsTo s fd ⟨[u], []⟩ [(x, u)])
    (hsp : ∀ H : Hp, SqL K H a (ns.map V.int) → sp [.ref a] H (fun v _ => v = .bl true) fun _ _ _ => False) :
    codeAny (model P w) callerA (.call (.ref fa) ⟨[.ref a], []⟩) (fun r s2 => r = .ok (.ret (.bool true)) ∧ OldK s1.heap s2.heap ∧ s2.os = s1.os ∧ AllBare s2.gens) s1 := by
  have rv := vals_ints hi
  -- what is tracked: the script alone, as it was, or nothing
  have main : ∀ H : Hp, SqL K H a (ns.map V.int) → HOk P w H s1.heap → (∀ b u, H b = some u → b = a ∧ K.lookup a = none ∧ ∃ o xs, u = .frz o (.lst xs)) →
      codeAny (model P w) callerA (.call (.ref fa) ⟨[.ref a], []⟩) (fun r s2 => r = .ok (.ret (.bool true)) ∧ OldK s1.heap s2.heap ∧ s2.os = s1.os ∧ AllBare s2.gens) s1 := by
    intro H hS hok only
    have off : ∀ {b : Addr} {o : Obj} {es : Array DictEntry} {ep : Nat}, s1.heap.get? b = some o → o.data = .dict es ep → H b = none := fun {b o es ep} e d => by
      rcases q : H b with _ | u
      · rfl
      · obtain ⟨rfl, _, _⟩ := only b u q
        rw [ha] at e
        cases e
        cases (show Data.seq vs.toArray _ = Data.dict es ep from d)
    have hid : ∀ {b : Addr} {m : Str → Option Value}, s1.heap.Ns b m → (hidT s1.heap H).Ns b m := fun ⟨o, es, ep, e, d, r⟩ => ⟨o, es, ep, hidT_get e (off e d), d, r⟩
    have inB : K.In (hidT s1.heap H) := fun b o e => hidT_get (inK b o e) (by
      rcases q : H b with _ | u
      · rfl
      · obtain ⟨rfl, no, _⟩ := only b u q
        rw [no] at e
        cases e)
    have md : Mod K mg (hidT s1.heap H) := ⟨inB, hid gl, ⟨mb, hid bl, bb⟩, free.imp fun mc z => ⟨hid z.1, z.2⟩⟩
    have ev : Env0 P w K mg (hidT s1.heap H) callerA [] s1 H := ⟨rfl, md, fun _ _ e => of_hidT e, Nat.le_of_eq (hidT_size _ _), trivial, (fun _ z => nomatch z), hok, .of_eq g0⟩
    refine codeAny_mono ((F _ inB (hid gl)).go (us := [.ref a]) (vs := [.ref a]) rfl hr ev (bind s1 (.ref a)) (.cons rfl .nil) (hsp H hS)) fun r s2 z => ?_
    match r, z with
    | .ok (.ret u), ⟨v, H2, os, bare, un, hok2, rel, q⟩ =>
      cases (show v = V.bl true from q)
      cases (show u = Value.bool true from rel)
      refine ⟨rfl, OldK.of_keep fun b o e => ?_, os, bare⟩
      rcases q2 : H b with _ | u2
      · exact un.keep b o e q2 (fun z => nomatch z) (fun z => nomatch z)
      · obtain ⟨_, _, ob, xs, rfl⟩ := only b u2 q2
        obtain ⟨e1, _⟩ := hok b _ q2
        obtain ⟨e2, _⟩ := hok2 b _ (un.frzs b ob _ q2)
        rw [e] at e1
        cases e1
        exact e2
    | .ok .next, z => exact z.elim
    | .ok .brk, z => exact z.elim
    | .ok .cont, z => exact z.elim
    | .error _, z => exact z.elim
  rcases hk : K.lookup a with _ | o
  · refine main (upd (fun _ => none) a (.frz { cls := .type "list", data := .seq vs.toArray } (.lst (ns.map V.int)))) (.inl (.inr ⟨_, upd_same⟩)) (fun b u z => ?_) fun b u z => ?_
    · by_cases e : b = a
      · subst e
        rw [upd_same] at z
        cases z
        exact ⟨ha, by rw [List.length_map]; exact hl, vs, _, rv, ha⟩
      · rw [upd_ne e] at z
        cases z
    · by_cases e : b = a
      · subst e
        rw [upd_same] at z
        cases z
        exact ⟨rfl, hk, _, _, rfl⟩
      · rw [upd_ne e] at z
        cases z
  · have e := inK a o hk
    rw [ha] at e
    cases e
    refine main (fun _ => none) (.inr ⟨_, vs.toArray, _, hk, rfl, rfl, rfl, ?_, by simpa using rv⟩) (fun _ _ z => nomatch z) fun _ _ z => nomatch z
    rw [List.size_toArray, hi.length]
    exact hl
/-- what the head leaves, from the law's def -/
theorem walkG {l : PySem.W.OpenLaw} {n k : Nat} {q : Program} {loose : List Str} {XP : (Str → Option Value) → Heap → Prop} {YP : World → Heap → Prop} {d : DefRec} {K : Params → PySem.W.Frag} {sp : World → Sp} {x : Str}
    (hn : l.most = some n) (hn2 : n ≤ sizeLine) (hdf : d.params.defaults = []) (hr : Room k callerA) (hY : ∀ (w : World) (h : Heap), YP w h → (K w.params).In h)
    (F : ∀ (w : World) (mg : Str → Option Value) (fa : Addr) (h : Heap), (K w.params).In h → h.Ns mainGlobals mg → mg d.name = some (.ref fa) →
      ∃ fd : FuncData, (∀ (s : Shared) (u : Value), BindsTo s fd ⟨[u], []⟩ [(x, u)]) ∧ ∀ base : Heap, (K w.params).In base → base.Ns mainGlobals mg → FnG l.prog w (K w.params) mg base CX0 k fa fd [x] (sp w))
    (hsp : ∀ (w : World) (H : Hp) (a : Addr) (ns : List Int), ns.length ≤ n → SqL (K w.params) H a (ns.map V.int) → sp w [.ref a] H (fun v _ => v = .bl true) fun _ _ _ => False) :
    PySem.W.WalkO q loose XP YP l.row.toRowW d [] (fun f vs => PySem.call f vs) := by
  refine Att.attach_call hn hdf fun w s0 s1 mg mb fa o pm cd doc a vs ns G Y ho hd hcd hmg hobj hints hlen hg => ?_
  obtain ⟨fd, b, z⟩ := F w mg fa _ (hY w _ Y) G.T.g hmg
  exact lawG (hY w _ Y) G.T.g G.T.b G.T.builtins G.T.nolimit hg hobj hints (Nat.le_trans hlen hn2) hr z b fun H hS => hsp w H a ns hlen hS
end Lk
end
section
set_option maxRecDepth 100000
set_option maxHeartbeats 2000000
/-! enumerate of a tuple. -/
namespace Lk
open PySem PySem.Spec PyProof.Rows L2
/-- the tuple at a, its items in new pairs behind their numbers from c on -/
def IteT (K : PySem.W.Frag) (a : Addr) (c : Int) : It :=
  ⟨fun i H => ∃ (xs : List V) (x : V), SqT K H a xs ∧ xs[i]? = some x,
   fun i H v H2 => ∃ T x, v = .ref T ∧ H T = none ∧ H2 = upd H T (.tup [.int (c + (i : Int)), x]) ∧ ∀ xs, SqT K H a xs → xs[i]? = some x,
   fun i H => ∃ xs : List V, SqT K H a xs ∧ xs.length ≤ i⟩
theorem walk_enumT {K : PySem.W.Frag} {a : Addr} {c : Int} {xs : List V} : Walk (IteT K a c) xs.length (fun H => SqT K H a xs) (YPair (fun i => some (.int (c + (i : Int)))) (fun i => xs[i]?)) := by
  refine ⟨fun i _ hi q => ⟨xs, xs[i], q, by simp [hi]⟩, fun _ q => ⟨xs, q, Nat.le_refl _⟩, fun i H v H2 _ q ⟨T, x, h1, h2, h3, h4⟩ => ?_⟩
  exact ⟨T, .int (c + (i : Int)), x, h1, h2, h3, rfl, h4 xs q⟩
theorem turn_enumT {P : Program} {w : World} {K : PySem.W.Frag} {elts : List Expr} {kk : Nat} {tpos : Pos} {c : Int} (a e it : Addr) :
    Turn P w K (.Tuple elts kk tpos) (IteT K a c) [e, it] e (fun i h => (∃ old, IsEnum h e it (c + (i : Int)) old) ∧ h.IsTupleIter it a i ∧ e ≠ it) where
  mem := by simp
  obj := fun i h st b hb => by
    obtain ⟨⟨old, he⟩, ⟨o, ho, hc, hd⟩, _⟩ := st
    rcases List.mem_cons.mp hb with z | z
    · rw [z]
      exact ⟨_, he, fun v q => nomatch q⟩
    · rw [List.mem_singleton.mp z]
      exact ⟨o, ho, fun v q => by rw [hd] at q; cases q⟩
  keep := fun i h h2 st k => ⟨st.1.imp fun old he => k e (by simp) _ he, st.2.1.at fun o q => k it (by simp) o q, st.2.2⟩
  item := by
    intro X hP hw hK hc i pins s σ H E I hf st hg
    subst hP hw hK
    obtain ⟨⟨old, he⟩, hit, hne⟩ := st
    obtain ⟨xs, x, hq, hx⟩ := hg
    obtain ⟨its, rv, tp, hz⟩ := I.tuple hq
    obtain ⟨u, hu, ru⟩ := rv.get hx
    have hel : e < s.heap.objs.size := Heap.lt_size he
    have hil : it < s.heap.objs.size := by obtain ⟨_, q, _⟩ := hit; exact Heap.lt_size q
    have tp2 : s.heap.IsTuple a its.toArray := tp
    obtain ⟨o, ho, oc, _⟩ := id tp
    have ea : e ≠ a := fun z => by
      rw [← z, show s.heap.get? e = some _ from he] at ho
      cases ho
      exact absurd (Value.type.inj oc) (by decide)
    have ia : it ≠ a := fun z => by
      obtain ⟨o2, ho2, oc2, _⟩ := id hit
      rw [← z, ho2] at ho
      cases ho
      rw [oc2] at oc
      exact absurd (Value.type.inj oc) (by decide)
    have hi : i < its.toArray.size := by
      rw [List.size_toArray]
      exact (List.getElem?_eq_some_iff.mp hu).1
    refine wpAny_pyNext_enum_itemC (Draws.tuple (show X.A.in1.handled = none from I.ok.hd hc) it a (Ne.symm ia) its.toArray) he ⟨hit, tp2⟩ hi hne (fun z => ?_) fun y h1 tk hy ho1 hs1 hT hsz hk => ?_
    · rcases List.mem_cons.mp z with z | z
      · exact hne z
      · exact ea (List.mem_singleton.mp z)
    · have yu : y = u := by
        have q : its.toArray[i]? = some y := hy
        rw [List.getElem?_toArray, hu] at q
        exact (Option.some.inj q).symm
      subst yu
      refine ⟨_, rfl, wpAny_letOwnedTupleGo_enum (s := { s with heap := h1, toks := tk + 1 }) ho1 fun h2 he2 sb => ?_⟩
      have sb2 : Heap.SameBut e h1 h2 := sb
      have hT2 : h2.get? s.heap.objs.size = some { cls := .type "tuple", data := .seq #[.int (c + (i : Int)) tk, y] } := (sb2.2 _ (Nat.ne_of_gt hel)).trans hT
      have new : ObjOk X.prog X.w (upd H s.heap.objs.size (.tup [.int (c + (i : Int)), x])) h2 s.heap.objs.size (.tup [.int (c + (i : Int)), x]) :=
        ⟨by show 2 ≤ sizeLine; decide, [.int (c + (i : Int)) tk, y], .cons ⟨_, rfl⟩ (.cons ru .nil), ⟨_, hT2, rfl, _, rfl⟩⟩
      have I1 : Inv X pins σ (upd H s.heap.objs.size (.tup [.int (c + (i : Int)), x])) { s with heap := h2, toks := tk + 1 } :=
        I.turnedNew (ch := [e, it]) (fun b ob hb q => (sb2.2 b (fun z => hb (by simp [z]))).trans (hk b ob (fun z => hb (by simp [z])) (fun z => hb (by simp [z])) q)) hf (Nat.le_refl _) new
      refine ⟨.ref s.heap.objs.size, _, I1, rfl, ⟨_, x, rfl, I.hok.fresh (Nat.le_refl _), rfl, fun ys hy => by rw [I.tuple_inj hy hq]; exact hx⟩, ⟨⟨y, ?_⟩, hs1.1.at fun o q => (sb2.2 it (Ne.symm hne)).trans q, hne⟩, fun b hb => ?_⟩
      · rw [show c + ((i + 1 : Nat) : Int) = c + (i : Int) + 1 by omega]
        exact he2
      · have lt : b < s.heap.objs.size := by
          rcases List.mem_cons.mp hb with z | z
          · rw [z]; exact hel
          · rw [List.mem_singleton.mp z]; exact hil
        rw [upd_ne (Nat.ne_of_lt lt)]
        exact (hf b hb).1
  done := by
    intro X hP hw hK hc i pins s σ H E I hf st hg
    subst hP hw hK
    obtain ⟨⟨old, he⟩, hit, hne⟩ := st
    obtain ⟨xs, hq, hx⟩ := hg
    obtain ⟨its, rv, tp, hz⟩ := I.tuple hq
    obtain ⟨f0, f1, f2, f3, f4, f5⟩ := hf it (by simp)
    have len := rv.length
    have hT : s.TypeIs (.ref e) "enumerate" := ⟨_, he, rfl⟩
    have last : its.toArray[i]? = none := by
      rw [List.getElem?_toArray, List.getElem?_eq_none (by omega)]
    unfold pyNext
    refine wpAny_bind (wpAny_attempt (wpAny_callSpecial?_slot (name := Str.ofString "__next__") hT PySem.F.slot_enumerate_next
      (wpAny_call_entry PySem.F.slot_enumerate_next hT PySem.F.entry_enumerate_next ?_ (PySem.F.args_enumerate_next_1 _))))
    show wpAny _ _ (field (.ref e) 2 >>= _) _ _ _
    refine wpAny_bind (wpAny_field he rfl (x := .ref it) rfl (wpAny_bind (wpAny_nextOf_tuple_end (I.ok.hd hc) hit (show s.heap.IsTuple a its.toArray from tp) last fun h1 y kept ⟨o, ho, oc⟩ => ?_)))
    refine wpAny_bind (wpAny_isInstance (T := "StopIteration") (b := true) ⟨o, ho, oc⟩ isSubtype_stop (wpAny_pure ⟨rfl, ?_⟩))
    exact I.turned (t' := s.toks) (fun b o hb q => kept b o hb q) f0 f1 f3 f4 f5
  self := fun A i s Q E st h => by
    obtain ⟨⟨_, he⟩, _⟩ := st
    exact wpAny_pyIter_enum he h
set_option maxHeartbeats 4000000 in
/-- enumerate(v), v told by how it begins -/
theorem meets_enum1 {v : Value} {o : Obj} {G : Heap → Prop} (B : Begins v o G) : Meets (Builtin.«enumerate.__new__» ⟨[.type "enumerate", v], []⟩) (fun _ R s => G s.heap ∧
    R (.ok (.ret (.ref (s.heap.push o).objs.size))) { s with heap := (s.heap.push o).push { cls := .type "enumerate", data := .fields #[.none, .bool false, .ref s.heap.objs.size, rawInt 0, .none, .none] } }) :=
  .of_wp fun prog w A R ⟨hp, g, d, tk, os⟩ ⟨h1, h⟩ => by
    have sub := sub_enumerate
    have iter : ∀ {A2 : Around} {E2 : Value → Shared → Prop} {Q2 : Value → Shared → Prop}, Q2 (.ref hp.objs.size) ⟨hp.push o, g, d, tk, os⟩ → wpAny (model prog w) A2 (pyIter v) Q2 E2 ⟨hp, g, d, tk, os⟩ := fun q => B.iter prog w _ _ ⟨hp, g, d, tk, os⟩ _ h1 q
    wp_walk using iter
    refine wpAny_stack_any fun st => wpAny_pure ?_
    split
    · rename_i c _ _ _ _ _
      by_cases z : (c == Value.type "enumerate") = true
      · rw [z]
        wp_walk using iter
        exact ⟨_, rfl, h⟩
      · rw [Bool.eq_false_iff.mpr z]
        wp_walk using iter
        exact ⟨_, rfl, h⟩
    · wp_walk using iter
      exact ⟨_, rfl, h⟩
theorem enum1 {prog : Program} {w : World} {A : Around} {E : Value → Shared → Prop} {s : Shared} {v : Value} {o : Obj} {G : Heap → Prop} {Q : Value → Shared → Prop} (B : Begins v o G) (h1 : G s.heap)
    (h : ∀ h2, IsEnum h2 (s.heap.objs.size + 1) s.heap.objs.size 0 .none → h2.get? s.heap.objs.size = some o → (∀ b x, s.heap.get? b = some x → h2.get? b = some x) → Q (.ref (s.heap.objs.size + 1)) { s with heap := h2 }) :
    wpAny (model prog w) A (call (.type "enumerate") [v]) Q E s := by
  have z : (s.heap.push o).objs.size = s.heap.objs.size + 1 := Heap.size_push ..
  have he : IsEnum ((s.heap.push o).push { cls := .type "enumerate", data := .fields #[.none, .bool false, .ref s.heap.objs.size, rawInt 0, .none, .none] }) (s.heap.objs.size + 1) s.heap.objs.size 0 .none := by
    have q := Heap.get?_push_size (s.heap.push o) (o := { cls := .type "enumerate", data := .fields #[.none, .bool false, .ref s.heap.objs.size, rawInt 0, .none, .none] }) rfl
    rwa [z] at q
  refine callType_new PySem.F.called_enumerate (by decide) (PySem.F.typeCall_enumerate_1 _) (PySem.F.newCall_enumerate_1 _) (fun obj => PySem.F.args_object_init_2 obj _) PySem.F.entry_enumerate_new (meets_enum1 B) ⟨h1, ?_⟩
  show _ ∧ _
  rw [z]
  exact ⟨⟨_, he, rfl⟩, h _ he (Heap.get?_push_of_some _ (Heap.get?_push_size _ B.free)) fun b x e => Heap.get?_push_of_some _ (Heap.get?_push_of_some _ e)⟩
def iEnumT (K : PySem.W.Frag) (ta : TA) : TI := fun σ H R => ta σ H fun vs H1 => ∃ a xs, vs = [.ref a] ∧ SqT K H1 a xs ∧ R (IteT K a 0) H1
theorem pi_enumT {X : Cx} {e : Expr} {ta : TA} {p pos tpos : Pos} {elts : List Expr} {kk : Nat} (hg : Gl X "enumerate") (hm : X.mg "enumerate" = none) (ha : PA X [e] ta) (hs : starEach [e] X.env = [(false, eval e X.env)] := by rfl) :
    PI X (.Tuple elts kk tpos) (.Call (.Name "enumerate" p) [e] [] pos) (iEnumT X.K ta) := by
  refine ⟨fun pins s σ H R I h => Call_ (ld_blt I hg hm boot_enumerate (PyProof.Rows.callWith_type1 (thn (ha.run pos pins s σ H _ I h) fun us s1 ⟨vs, H1, I1, r1, a, xs, ex, hq, q⟩ => ?_) hs rfl))⟩
  subst ex
  cases r1 with
  | cons r rr =>
    cases rr
    cases r
    obtain ⟨its, rv, tp, hz⟩ := I1.tuple hq
    refine enum1 (begins_tuple a its.toArray) tp fun h2 he hit hk => wpAny_pyIter_enum he ?_
    have I2 : Inv X pins σ H1 { s1 with heap := h2 } := I1.kept (t' := s1.toks) hk
    refine ⟨s1.heap.objs.size + 1, [s1.heap.objs.size + 1, s1.heap.objs.size], _, _, H1, rfl, I2, turn_enumT a (s1.heap.objs.size + 1) s1.heap.objs.size, ⟨⟨.none, he⟩, ⟨_, hit, rfl, rfl⟩, Nat.succ_ne_self _⟩, fun b hb => ?_, q⟩
    have hle : s1.heap.objs.size ≤ b := by
      rcases List.mem_cons.mp hb with z | z
      · rw [z]; exact Nat.le_add_right _ _
      · rw [List.mem_singleton.mp z]; exact Nat.le_refl _
    exact I1.fpOk hle (I1.hok.fresh hle)
end Lk
end
section
/-! Coders, their steps, last goings, rings, rounds: mathematics. -/
namespace Lk
abbrev Cd := Nat × List Nat
def COk (c : Cd) : Prop := c.1 < c.2.length
def len (c : Cd) (i : Nat) : Nat := c.2.getD i 0
def nx (c : Cd) : Cd := ((c.1 + (len c c.1 + 1)) % c.2.length, c.2.set c.1 (len c c.1 + 1))
def it : Nat → Cd → Cd
  | 0, c => c
  | n + 1, c => it n (nx c)
def go (c : Cd) (i : Nat) : Nat := (i + len c i) % c.2.length
def gon (c : Cd) : Nat → Nat → Nat
  | 0, i => i
  | n + 1, i => gon c n (go c i)
theorem nx_len {c : Cd} : (nx c).2.length = c.2.length := List.length_set
theorem it_len : ∀ (n : Nat) {c : Cd}, (it n c).2.length = c.2.length
  | 0, _ => rfl
  | n + 1, c => (it_len n).trans nx_len
theorem nx_ok {c : Cd} (h : COk c) : COk (nx c) := by
  have h0 : 0 < c.2.length := Nat.lt_of_le_of_lt (Nat.zero_le _) h
  show _ % _ < (nx c).2.length
  rw [nx_len]
  exact Nat.mod_lt _ h0
theorem it_ok : ∀ (n : Nat) {c : Cd}, COk c → COk (it n c)
  | 0, _, h => h
  | n + 1, _, h => it_ok n (nx_ok h)
theorem it_add : ∀ (n m : Nat) (c : Cd), it (n + m) c = it m (it n c)
  | 0, m, c => by rw [Nat.zero_add]; rfl
  | n + 1, m, c => by
    rw [show n + 1 + m = (n + m) + 1 by omega]
    exact it_add n m (nx c)
theorem it_succ (n : Nat) (c : Cd) : it (n + 1) c = nx (it n c) := it_add n 1 c
theorem gon_add (c : Cd) : ∀ (n m i : Nat), gon c (n + m) i = gon c m (gon c n i)
  | 0, m, i => by rw [Nat.zero_add]; rfl
  | n + 1, m, i => by
    rw [show n + 1 + m = (n + m) + 1 by omega]
    exact gon_add c n m (go c i)
theorem gon_succ (c : Cd) (n i : Nat) : gon c (n + 1) i = go c (gon c n i) := gon_add c n 1 i
theorem len_nx_same {c : Cd} (h : COk c) : len (nx c) c.1 = len c c.1 + 1 := by
  show (c.2.set c.1 _).getD c.1 0 = _
  rw [List.getD_eq_getElem?_getD, List.getElem?_set_self h]
  rfl
theorem len_nx_ne {c : Cd} {i : Nat} (h : i ≠ c.1) : len (nx c) i = len c i := by
  show (c.2.set c.1 _).getD i 0 = c.2.getD i 0
  rw [List.getD_eq_getElem?_getD, List.getD_eq_getElem?_getD, List.getElem?_set_ne (Ne.symm h)]
theorem go_nx_ne {c : Cd} {i : Nat} (h : i ≠ c.1) : go (nx c) i = go c i := by
  unfold go
  rw [len_nx_ne h, nx_len]
theorem go_nx_same {c : Cd} (h : COk c) : go (nx c) c.1 = (nx c).1 := by
  unfold go
  rw [len_nx_same h, nx_len]
  rfl
/-- last goings lead from i to the coder's own place -/
def Rch (c : Cd) (i : Nat) : Prop := ∃ k, gon c k i = c.1
def Free (c : Cd) : Prop := ∀ i, i < c.2.length → Rch c i
theorem rch_nx {c : Cd} (h : COk c) {i : Nat} : Rch c i → Rch (nx c) i := by
  rintro ⟨k, e⟩
  induction k generalizing i with
  | zero =>
    refine ⟨1, ?_⟩
    show go (nx c) i = _
    rw [show i = c.1 from e]
    exact go_nx_same h
  | succ k ih =>
    by_cases g : i = c.1
    · refine ⟨1, ?_⟩
      show go (nx c) i = _
      rw [g]
      exact go_nx_same h
    · obtain ⟨m, q⟩ := ih e
      refine ⟨m + 1, ?_⟩
      show gon (nx c) m (go (nx c) i) = _
      rw [go_nx_ne g]
      exact q
theorem rch_it : ∀ (n : Nat) {c : Cd}, COk c → ∀ {i}, Rch c i → Rch (it n c) i
  | 0, _, _, _, r => r
  | n + 1, _, h, _, r => rch_it n (nx_ok h) (rch_nx h r)
theorem free_nx {c : Cd} (h : COk c) (f : Free c) : Free (nx c) := fun i hi => rch_nx h (f i (by rw [nx_len] at hi; exact hi))
theorem free_it : ∀ (n : Nat) {c : Cd}, COk c → Free c → Free (it n c)
  | 0, _, _, f => f
  | n + 1, _, h, f => free_it n (nx_ok h) (free_nx h f)
/-- where the coder has been is led to where it is -/
theorem rch_been {c : Cd} (h : COk c) {n t : Nat} (ht : t ≤ n) : Rch (it n c) (it t c).1 := by
  obtain ⟨m, rfl⟩ := Nat.exists_eq_add_of_le ht
  rw [it_add]
  exact rch_it m (it_ok t h) ⟨0, rfl⟩
theorem len_mono1 {c : Cd} (i : Nat) (h : COk c) : len c i ≤ len (nx c) i := by
  by_cases g : i = c.1
  · rw [g, len_nx_same h]; omega
  · rw [len_nx_ne g]; exact Nat.le_refl _
theorem len_mono : ∀ (n : Nat) {c : Cd} (i : Nat), COk c → len c i ≤ len (it n c) i
  | 0, _, _, _ => Nat.le_refl _
  | n + 1, _, i, h => Nat.le_trans (len_mono1 i h) (len_mono n i (nx_ok h))
/-- each length that a place came to was a step -/
theorem step_of : ∀ (n : Nat) {c : Cd} (i v : Nat), COk c → len c i < v → v ≤ len (it n c) i → ∃ t, t < n ∧ (it t c).1 = i ∧ (it (t + 1) c).1 = (i + v) % c.2.length
  | 0, _, _, _, _, h1, h2 => absurd (Nat.lt_of_lt_of_le h1 h2) (Nat.lt_irrefl _)
  | n + 1, c, i, v, h, h1, h2 => by
    by_cases g : v ≤ len (nx c) i
    · have gi : i = c.1 := by
        refine Classical.byContradiction fun z => ?_
        rw [len_nx_ne z] at g
        omega
      refine ⟨0, Nat.succ_pos _, gi.symm, ?_⟩
      show (nx c).1 = _
      rw [gi, len_nx_same h] at g
      have e : v = len c c.1 + 1 := by rw [gi] at h1; omega
      rw [gi, e]
      rfl
    · obtain ⟨t, a, b, d⟩ := step_of n i v (nx_ok h) (by omega) h2
      refine ⟨t + 1, by omega, b, ?_⟩
      rw [nx_len] at d
      exact d
theorem sum_set : ∀ (l : List Nat) (i v : Nat), i < l.length → (l.set i v).sum + l.getD i 0 = l.sum + v
  | a :: r, 0, v, _ => by
    show v + r.sum + a = a + r.sum + v
    omega
  | a :: r, i + 1, v, h => by
    have ih := sum_set r i v (by simpa using h)
    show a + (r.set i v).sum + r.getD i 0 = a + r.sum + v
    omega
theorem sum_nx {c : Cd} (h : COk c) : (nx c).2.sum = c.2.sum + 1 := by
  have z := sum_set c.2 c.1 (len c c.1 + 1) h
  have e : c.2.getD c.1 0 = len c c.1 := rfl
  show (c.2.set c.1 _).sum = _
  omega
theorem sum_it : ∀ (n : Nat) {c : Cd}, COk c → (it n c).2.sum = c.2.sum + n
  | 0, _, _ => rfl
  | n + 1, c, h => by
    show (it n (nx c)).2.sum = _
    rw [sum_it n (nx_ok h), sum_nx h]
    omega
theorem sum_le : ∀ {a b : List Nat}, a.length = b.length → (∀ i, i < b.length → a.getD i 0 ≤ b.getD i 0) → a.sum ≤ b.sum
  | [], [], _, _ => Nat.le_refl _
  | x :: a, y :: b, hl, h => by
    have h0 : x ≤ y := h 0 (by simp)
    have h1 : a.sum ≤ b.sum := sum_le (by simpa using hl) fun i hi => h (i + 1) (by simpa using hi)
    show x + a.sum ≤ y + b.sum
    omega
theorem sum_map_add (k : Nat) : ∀ l : List Nat, (l.map (· + k)).sum = l.sum + l.length * k
  | [] => by simp
  | a :: r => by
    have ih := sum_map_add k r
    show a + k + (r.map (· + k)).sum = a + r.sum + (r.length + 1) * k
    rw [ih, Nat.add_mul]
    omega
theorem getD_map_add (k : Nat) (l : List Nat) {i : Nat} (h : i < l.length) : (l.map (· + k)).getD i 0 = l.getD i 0 + k := by
  rw [List.getD_eq_getElem?_getD, List.getD_eq_getElem?_getD, List.getElem?_map, List.getElem?_eq_getElem h]
  rfl
/-- among p lengths in a row one leads to q -/
theorem some_to {p : Nat} (i a q : Nat) (hq : q < p) : ∃ v, a < v ∧ v ≤ a + p ∧ (i + v) % p = q := by
  have hp : 0 < p := by omega
  have hr := Nat.mod_lt (i + a + 1) hp
  by_cases g : (i + a + 1) % p ≤ q
  · refine ⟨a + 1 + (q - (i + a + 1) % p), by omega, by omega, ?_⟩
    rw [show i + (a + 1 + (q - (i + a + 1) % p)) = (i + a + 1) + (q - (i + a + 1) % p) by omega, Nat.add_mod, Nat.mod_eq_of_lt (show q - (i + a + 1) % p < p by omega),
      show (i + a + 1) % p + (q - (i + a + 1) % p) = q by omega, Nat.mod_eq_of_lt hq]
  · refine ⟨a + 1 + (p + q - (i + a + 1) % p), by omega, by omega, ?_⟩
    rw [show i + (a + 1 + (p + q - (i + a + 1) % p)) = (i + a + 1) + (p + q - (i + a + 1) % p) by omega, Nat.add_mod, Nat.mod_eq_of_lt (show p + q - (i + a + 1) % p < p by omega),
      show (i + a + 1) % p + (p + q - (i + a + 1) % p) = q + p by omega, Nat.add_mod_right, Nat.mod_eq_of_lt hq]
/-- behind so many steps every place has been come to -/
theorem been_all {c : Cd} (h : COk c) {n : Nat} (hn : (c.2.length - 1) * (c.2.length - 1) + 1 ≤ n) {q : Nat} (hq : q < c.2.length) : ∃ t, t ≤ n ∧ (it t c).1 = q := by
  refine Classical.byContradiction fun no => ?_
  have no' : ∀ t, t ≤ n → (it t c).1 ≠ q := fun t ht e => no ⟨t, ht, e⟩
  have lim : ∀ i, len (it n c) i < len c i + c.2.length := fun i => by
    refine Classical.byContradiction fun g => ?_
    obtain ⟨v, v1, v2, v3⟩ := some_to i (len c i) q hq
    obtain ⟨t, t1, _, t3⟩ := step_of n i v h v1 (by omega)
    exact no' (t + 1) (by omega) (t3.trans v3)
  have stay : len (it n c) q ≤ len c q := by
    refine Classical.byContradiction fun g => ?_
    obtain ⟨t, t1, t2, _⟩ := step_of n q (len c q + 1) h (by omega) (by omega)
    exact no' t (by omega) t2
  have hs := sum_it n h
  have hB : (it n c).2.sum ≤ ((c.2.map (· + (c.2.length - 1))).set q (len c q)).sum := by
    refine sum_le (by rw [it_len, List.length_set, List.length_map]) fun i hi => ?_
    rw [List.length_set, List.length_map] at hi
    by_cases g : i = q
    · rw [g, List.getD_eq_getElem?_getD (l := List.set _ _ _), List.getElem?_set_self (by rw [List.length_map]; exact hq)]
      exact stay
    · rw [List.getD_eq_getElem?_getD (l := List.set _ _ _), List.getElem?_set_ne (Ne.symm g), ← List.getD_eq_getElem?_getD, getD_map_add _ _ hi]
      have z := lim i
      show len (it n c) i ≤ len c i + (c.2.length - 1)
      omega
  have e1 := sum_set (c.2.map (· + (c.2.length - 1))) q (len c q) (by rw [List.length_map]; exact hq)
  rw [getD_map_add _ _ hq, sum_map_add] at e1
  have e2 : c.2.getD q 0 = len c q := rfl
  have e3 : c.2.length * (c.2.length - 1) = (c.2.length - 1) * (c.2.length - 1) + (c.2.length - 1) := by
    obtain ⟨m, hm⟩ : ∃ m, c.2.length = m + 1 := ⟨c.2.length - 1, by omega⟩
    rw [hm, Nat.add_sub_cancel, Nat.add_mul, Nat.one_mul]
  omega
theorem free_late {c : Cd} (h : COk c) {n : Nat} (hn : (c.2.length - 1) * (c.2.length - 1) + 1 ≤ n) : Free (it n c) := fun i hi => by
  rw [it_len] at hi
  obtain ⟨t, ht, e⟩ := been_all h hn hi
  rw [← e]
  exact rch_been h ht
end Lk
end
section
/-! Rounds come again; rings. -/
namespace Lk
def S : Nat → (Nat → Nat) → Nat
  | 0, _ => 0
  | n + 1, f => S n f + f n
theorem S_congr : ∀ (p : Nat) {f g : Nat → Nat}, (∀ i, i < p → f i = g i) → S p f = S p g
  | 0, _, _, _ => rfl
  | n + 1, f, g, h => by
    show S n f + f n = S n g + g n
    rw [S_congr n fun i hi => h i (by omega), h n (by omega)]
theorem S_upd : ∀ (p : Nat) {f g : Nat → Nat} (j : Nat), j < p → (∀ i, i < p → i ≠ j → f i = g i) → S p f + g j = S p g + f j
  | n + 1, f, g, j, hj, h => by
    show S n f + f n + g j = S n g + g n + f j
    by_cases e : j = n
    · subst e
      rw [S_congr j (f := f) (g := g) fun i hi => h i (by omega) (by omega)]
      omega
    · have ih := S_upd n j (by omega) fun i hi => h i (by omega)
      have e2 := h n (by omega) (Ne.symm e)
      omega
theorem S_le : ∀ (p : Nat) {f : Nat → Nat}, (∀ i, i < p → f i ≤ 1) → S p f ≤ p
  | 0, _, _ => Nat.le_refl _
  | n + 1, f, h => by
    have ih := S_le n fun i hi => h i (by omega)
    have z := h n (by omega)
    show S n f + f n ≤ n + 1
    omega
theorem S_one : ∀ (p : Nat) {f : Nat → Nat}, (∀ i, i < p → f i ≤ 1) → S p f = p → ∀ i, i < p → f i = 1
  | n + 1, f, h, e, i, hi => by
    have ih := S_le n fun i hi => h i (by omega)
    have z := h n (by omega)
    have e' : S n f + f n = n + 1 := e
    by_cases g : i = n
    · rw [g]; omega
    · exact S_one n (fun i hi => h i (by omega)) (by omega) i (by omega)
theorem S_add : ∀ (p : Nat) (f g : Nat → Nat), S p (fun i => f i + g i) = S p f + S p g
  | 0, _, _ => rfl
  | n + 1, f, g => by
    show S n (fun i => f i + g i) + (f n + g n) = S n f + f n + (S n g + g n)
    rw [S_add n]
    omega
theorem S_zero : ∀ (p : Nat) {f : Nat → Nat}, (∀ i, i < p → f i = 0) → S p f = 0
  | 0, _, _ => rfl
  | n + 1, f, h => by
    show S n f + f n = 0
    rw [S_zero n fun i hi => h i (by omega), h n (by omega)]
theorem mod_ne {p m d : Nat} (h : (m + d) % p = m % p) (h0 : 0 < d) : p ≤ d := by
  have z := Nat.sub_mod_eq_zero_of_mod_eq h
  rw [Nat.add_sub_cancel_left] at z
  exact Nat.le_of_dvd h0 (Nat.dvd_of_mod_eq_zero z)
/-- how many of the k lengths behind a lead from i to x -/
def cw (p i x a : Nat) : Nat → Nat
  | 0 => 0
  | k + 1 => cw p i x a k + if (i + (a + k + 1)) % p = x then 1 else 0
theorem cw_pos {p i x a : Nat} : ∀ {k : Nat}, 0 < cw p i x a k → ∃ v, v < k ∧ (i + (a + v + 1)) % p = x
  | 0, h => absurd h (Nat.lt_irrefl _)
  | k + 1, h => by
    by_cases g : (i + (a + k + 1)) % p = x
    · exact ⟨k, Nat.lt_succ_self _, g⟩
    · have h' : 0 < cw p i x a k + if (i + (a + k + 1)) % p = x then 1 else 0 := h
      rw [if_neg g] at h'
      obtain ⟨v, a1, a2⟩ := cw_pos (k := k) h'
      exact ⟨v, by omega, a2⟩
theorem cw_of {p i x a v : Nat} : ∀ {k : Nat}, v < k → (i + (a + v + 1)) % p = x → 0 < cw p i x a k
  | k + 1, h, e => by
    show 0 < cw p i x a k + if (i + (a + k + 1)) % p = x then 1 else 0
    by_cases g : v = k
    · rw [← g, if_pos e]; omega
    · have z := cw_of (k := k) (by omega) e
      omega
theorem cw_le {p i x a : Nat} : ∀ {k : Nat}, k ≤ p → cw p i x a k ≤ 1
  | 0, _ => Nat.zero_le _
  | k + 1, h => by
    have ih := cw_le (p := p) (i := i) (x := x) (a := a) (k := k) (by omega)
    show cw p i x a k + (if (i + (a + k + 1)) % p = x then 1 else 0) ≤ 1
    by_cases g : (i + (a + k + 1)) % p = x
    · rw [if_pos g]
      have z : cw p i x a k = 0 := by
        refine Nat.eq_zero_of_not_pos fun q => ?_
        obtain ⟨v, hv, e⟩ := cw_pos q
        have w := mod_ne (p := p) (m := i + (a + v + 1)) (d := k - v) (by rw [show i + (a + v + 1) + (k - v) = i + (a + k + 1) by omega, g, e]) (by omega)
        omega
      omega
    · rw [if_neg g]; omega
/-- who is led to x by its last going and has given one to x has given all -/
theorem cw_last {p i x a k : Nat} (hk : k ≤ p) (h : (i + a) % p = x) (h1 : cw p i x a k = 1) : k = p := by
  obtain ⟨v, hv, e⟩ := cw_pos (p := p) (i := i) (x := x) (a := a) (k := k) (by omega)
  have w := mod_ne (p := p) (m := i + a) (d := v + 1) (by rw [show i + a + (v + 1) = i + (a + v + 1) by omega, e, h]) (by omega)
  omega
def ind (b : Prop) [Decidable b] : Nat := if b then 1 else 0
/-- what comes to a place, what goes from it -/
theorem flow : ∀ (n : Nat) {c : Cd}, COk c → ∀ x, x < c.2.length →
    S c.2.length (fun i => cw c.2.length i x (len c i) (len (it n c) i - len c i)) + ind (x = c.1) = (len (it n c) x - len c x) + ind (x = (it n c).1)
  | 0, c, _, x, _ => by
    rw [S_zero c.2.length fun i _ => by show cw _ i x _ (len c i - len c i) = 0; rw [Nat.sub_self]; rfl]
    show 0 + _ = (len c x - len c x) + _
    rw [Nat.sub_self]
    rfl
  | n + 1, c, h, x, hx => by
    have ih := flow n h x hx
    have ho : COk (it n c) := it_ok n h
    rw [it_succ]
    have hj : (it n c).1 < c.2.length := by have z := ho; unfold COk at z; rw [it_len] at z; exact z
    have m := len_mono n (it n c).1 h
    have e1 := S_upd c.2.length (f := fun i => cw c.2.length i x (len c i) (len (nx (it n c)) i - len c i)) (g := fun i => cw c.2.length i x (len c i) (len (it n c) i - len c i)) (it n c).1 hj fun i _ hne => by
      show cw _ i x _ (len (nx (it n c)) i - len c i) = _
      rw [len_nx_ne hne]
    have e2 : cw c.2.length (it n c).1 x (len c (it n c).1) (len (nx (it n c)) (it n c).1 - len c (it n c).1) = cw c.2.length (it n c).1 x (len c (it n c).1) (len (it n c) (it n c).1 - len c (it n c).1) + ind (x = (nx (it n c)).1) := by
      rw [len_nx_same ho, show len (it n c) (it n c).1 + 1 - len c (it n c).1 = (len (it n c) (it n c).1 - len c (it n c).1) + 1 by omega]
      show cw _ _ _ _ _ + _ = _
      congr 1
      have e : (nx (it n c)).1 = ((it n c).1 + (len c (it n c).1 + (len (it n c) (it n c).1 - len c (it n c).1) + 1)) % c.2.length := by
        show ((it n c).1 + (len (it n c) (it n c).1 + 1)) % (it n c).2.length = _
        rw [it_len]
        congr 1
        omega
      rw [e]
      unfold ind
      by_cases g : ((it n c).1 + (len c (it n c).1 + (len (it n c) (it n c).1 - len c (it n c).1) + 1)) % c.2.length = x
      · rw [if_pos g, if_pos g.symm]
      · rw [if_neg g, if_neg (Ne.symm g)]
    have e3 : len (nx (it n c)) x - len c x = (len (it n c) x - len c x) + ind (x = (it n c).1) := by
      unfold ind
      by_cases g : x = (it n c).1
      · rw [if_pos g, g, len_nx_same ho]
        omega
      · rw [if_neg g, len_nx_ne g]
        omega
    rw [e3]
    omega
/-- no place has begun more than p words -/
def Bd (c : Cd) (n : Nat) : Prop := ∀ i, i < c.2.length → len (it n c) i ≤ len c i + c.2.length
theorem cw_bd {c : Cd} {n : Nat} (b : Bd c n) (x : Nat) : ∀ i, i < c.2.length → cw c.2.length i x (len c i) (len (it n c) i - len c i) ≤ 1 := fun i hi => cw_le (by have z := b i hi; omega)
theorem home_of {c : Cd} (h : COk c) {n : Nat} (b : Bd c n) (e : len (it n c) (it n c).1 = len c (it n c).1 + c.2.length) : (it n c).1 = c.1 := by
  refine Classical.byContradiction fun g => ?_
  have hj : (it n c).1 < c.2.length := by have z := it_ok n h; unfold COk at z; rw [it_len] at z; exact z
  have f := flow n h (it n c).1 hj
  have z := S_le _ (cw_bd b (it n c).1)
  unfold ind at f
  rw [if_neg g, if_pos rfl, e] at f
  omega
theorem full_of {c : Cd} (h : COk c) {n : Nat} (b : Bd c n) (e : (it n c).1 = c.1) {x : Nat} (hx : x < c.2.length) (ex : len (it n c) x = len c x + c.2.length) {i : Nat} (hi : i < c.2.length) (hg : go c i = x) : len (it n c) i = len c i + c.2.length := by
  have f := flow n h x hx
  rw [e, ex] at f
  have z := S_one _ (cw_bd b x) (by omega) i hi
  have m := len_mono n i h
  have w := cw_last (by have z := b i hi; omega) hg z
  omega
theorem all_full {c : Cd} (h : COk c) (fr : Free c) {n : Nat} (b : Bd c n) (e : (it n c).1 = c.1) (eh : len (it n c) c.1 = len c c.1 + c.2.length) : ∀ i, i < c.2.length → len (it n c) i = len c i + c.2.length := by
  have hp : 0 < c.2.length := Nat.lt_of_le_of_lt (Nat.zero_le _) h
  have key : ∀ k i, i < c.2.length → gon c k i = c.1 → len (it n c) i = len c i + c.2.length := by
    intro k
    induction k with
    | zero =>
      intro i _ q
      rw [show i = c.1 from q]
      exact eh
    | succ k ih =>
      intro i hi q
      have hgo : go c i < c.2.length := Nat.mod_lt _ hp
      exact full_of h b e hgo (ih (go c i) hgo q) hi rfl
  intro i hi
  obtain ⟨k, q⟩ := fr i hi
  exact key k i hi q
theorem S_getD : ∀ (l : List Nat), S l.length (fun i => l.getD i 0) = l.sum := by
  intro l
  have key : ∀ (n : Nat), n ≤ l.length → S n (fun i => l.getD i 0) = (l.take n).sum := by
    intro n
    induction n with
    | zero => intro _; rfl
    | succ n ih =>
      intro hn
      show S n _ + l.getD n 0 = _
      rw [ih (by omega), List.take_add_one, List.getD_eq_getElem?_getD, List.getElem?_eq_getElem (by omega), List.sum_append]
      simp
  rw [key _ (Nat.le_refl _), List.take_length]
theorem S_const (k : Nat) : ∀ p, S p (fun _ => k) = p * k
  | 0 => by simp [S]
  | n + 1 => by
    show S n _ + k = _
    rw [S_const k n, Nat.add_mul, Nat.one_mul]
theorem S_mono : ∀ (p : Nat) {f g : Nat → Nat}, (∀ i, i < p → f i ≤ g i) → S p f ≤ S p g
  | 0, _, _, _ => Nat.le_refl _
  | n + 1, f, g, h => by
    have ih := S_mono n fun i hi => h i (by omega)
    have z := h n (by omega)
    show S n f + f n ≤ S n g + g n
    omega
theorem S_eq : ∀ (p : Nat) {f g : Nat → Nat}, (∀ i, i < p → f i ≤ g i) → S p f = S p g → ∀ i, i < p → f i = g i
  | n + 1, f, g, h, e, i, hi => by
    have ih := S_mono n (f := f) (g := g) fun i hi => h i (by omega)
    have z := h n (by omega)
    have e' : S n f + f n = S n g + g n := e
    by_cases w : i = n
    · rw [w]; omega
    · exact S_eq n (fun i hi => h i (by omega)) (by omega) i (by omega)
theorem sum_S {c : Cd} (n : Nat) : (it n c).2.sum = S c.2.length (fun i => len (it n c) i) := by
  rw [← S_getD, it_len]
  rfl
/-- ahead of p * p steps none has begun more than p -/
theorem bd_all {c : Cd} (h : COk c) (fr : Free c) : ∀ n, n ≤ c.2.length * c.2.length → Bd c n
  | 0, _ => fun i _ => by show len c i ≤ _; omega
  | n + 1, hn => by
    have b := bd_all h fr n (by omega)
    have ho := it_ok n h
    intro i hi
    rw [it_succ]
    by_cases g : i = (it n c).1
    · rw [g, len_nx_same ho]
      refine Classical.byContradiction fun z => ?_
      have bj := b i hi
      rw [g] at bj
      have e : len (it n c) (it n c).1 = len c (it n c).1 + c.2.length := by omega
      have e0 := home_of h b e
      have af := all_full h fr b e0 (by rw [e0] at e; exact e)
      have s1 := sum_it n h
      rw [sum_S, S_congr _ af, S_add, S_const] at s1
      have s2 : S c.2.length (len c) = c.2.sum := S_getD c.2
      omega
    · rw [len_nx_ne g]
      exact b i hi
theorem it_round {c : Cd} (h : COk c) (fr : Free c) : it (c.2.length * c.2.length) c = (c.1, c.2.map (· + c.2.length)) := by
  have b := bd_all h fr _ (Nat.le_refl _)
  have s1 := sum_it (c.2.length * c.2.length) h
  have s2 : S c.2.length (len c) = c.2.sum := S_getD c.2
  have all : ∀ i, i < c.2.length → len (it (c.2.length * c.2.length) c) i = len c i + c.2.length := by
    refine S_eq c.2.length (f := fun i => len (it (c.2.length * c.2.length) c) i) (g := fun i => len c i + c.2.length) b ?_
    rw [S_add, S_const, ← sum_S]
    omega
  have hj : (it (c.2.length * c.2.length) c).1 < c.2.length := by have z := it_ok (c.2.length * c.2.length) h; unfold COk at z; rw [it_len] at z; exact z
  have e1 := home_of h b (all _ hj)
  refine Prod.ext e1 ?_
  refine List.ext_getElem? fun i => ?_
  by_cases hi : i < c.2.length
  · have z := all i hi
    unfold len at z
    rw [List.getD_eq_getElem?_getD, List.getD_eq_getElem?_getD, List.getElem?_eq_getElem (by rw [it_len]; exact hi), List.getElem?_eq_getElem hi] at z
    rw [List.getElem?_eq_getElem (by rw [it_len]; exact hi), List.getElem?_map, List.getElem?_eq_getElem hi]
    exact congrArg some z
  · rw [List.getElem?_eq_none (by rw [it_len]; omega), List.getElem?_eq_none (by rw [List.length_map]; omega)]
/-- who comes again is free -/
theorem free_again {c : Cd} (h : COk c) (e : it (c.2.length * c.2.length) c = (c.1, c.2.map (· + c.2.length))) : Free c := by
  have hp : 0 < c.2.length := Nat.lt_of_le_of_lt (Nat.zero_le _) h
  have lenE : ∀ i, i < c.2.length → len (it (c.2.length * c.2.length) c) i = len c i + c.2.length := fun i hi => by
    rw [e]
    exact getD_map_add _ _ hi
  have fr : Free (it (c.2.length * c.2.length) c) := fun i hi => by
    rw [it_len] at hi
    obtain ⟨t, t1, t2, _⟩ := step_of (c.2.length * c.2.length) i (len c i + 1) h (by omega) (by rw [lenE i hi]; omega)
    rw [← t2]
    exact rch_been h (by omega)
  have goE : ∀ i, i < c.2.length → go (it (c.2.length * c.2.length) c) i = go c i := fun i hi => by
    unfold go
    rw [lenE i hi, it_len, ← Nat.add_assoc, Nat.add_mod_right]
  have gonE : ∀ k i, i < c.2.length → gon (it (c.2.length * c.2.length) c) k i = gon c k i := by
    intro k
    induction k with
    | zero => intro i _; rfl
    | succ k ih =>
      intro i hi
      show gon _ k (go _ i) = gon c k (go c i)
      rw [goE i hi]
      exact ih _ (Nat.mod_lt _ hp)
  intro i hi
  obtain ⟨k, q⟩ := fr i (by rw [it_len]; exact hi)
  rw [gonE k i hi] at q
  exact ⟨k, by rw [q, e]⟩
end Lk
end
section
/-! Rings of last goings. -/
namespace Lk
theorem go_lt {c : Cd} (h : COk c) (i : Nat) : go c i < c.2.length := Nat.mod_lt _ (Nat.lt_of_le_of_lt (Nat.zero_le _) h)
theorem gon_lt {c : Cd} (h : COk c) {i : Nat} (hi : i < c.2.length) : ∀ k, gon c k i < c.2.length
  | 0 => hi
  | k + 1 => by rw [gon_succ]; exact go_lt h _
/-- k goings from a lead round it, past places that are greater and not the coder's own -/
structure RingK (c : Cd) (a k : Nat) : Prop where
  pos : 0 < k
  home : ∀ j, j < k → gon c j a ≠ c.1
  least : ∀ j, 0 < j → j < k → a < gon c j a
  back : gon c k a = a
def ringL (c : Cd) (a k : Nat) : List Nat := (List.range k).map fun j => gon c j a
def RingAt (c : Cd) (a : Nat) : Prop := ∃ k, RingK c a k
theorem ringK_never {c : Cd} {a k : Nat} (r : RingK c a k) : ∀ m, gon c m a ≠ c.1 := by
  intro m
  induction m using Nat.strongRecOn with
  | ind m ih =>
    by_cases g : m < k
    · exact r.home m g
    · have e : m = k + (m - k) := by omega
      rw [e, gon_add, r.back]
      exact ih (m - k) (by have := r.pos; omega)
theorem ringK_inj {c : Cd} {a k j : Nat} (r : RingK c a k) (s : RingK c a j) : k = j := by
  have key : ∀ {k j : Nat}, RingK c a k → RingK c a j → ¬ k < j := fun r s g => by
    have z := s.least _ r.pos g
    rw [r.back] at z
    omega
  have h1 := key r s
  have h2 := key s r
  omega
theorem ringL_nodup {c : Cd} {a k : Nat} (r : RingK c a k) : (ringL c a k).Nodup := by
  unfold ringL
  refine List.pairwise_map.mpr (List.Pairwise.imp_of_mem (R := fun i j => i < j) (fun {i j} hi hj hl e => ?_) List.pairwise_lt_range)
  rw [List.mem_range] at hi hj
  have z : gon c (i + (k - j)) a = a := by
    rw [gon_add, e, ← gon_add, show j + (k - j) = k by omega]
    exact r.back
  have w := r.least (i + (k - j)) (by omega) (by omega)
  omega
theorem nodup_below {l : List Nat} {p : Nat} (n : l.Nodup) (h : ∀ x ∈ l, x < p) : l.length ≤ p := by
  have z := List.Nodup.length_le_of_subset n (l₂ := List.range p) fun x hx => List.mem_range.mpr (h x hx)
  rw [List.length_range] at z
  exact z
theorem free_noring {c : Cd} (fr : Free c) {a : Nat} (ha : a < c.2.length) : ¬ RingAt c a := fun ⟨_, r⟩ => by
  obtain ⟨m, q⟩ := fr a ha
  exact ringK_never r m q
/-- the least number with a property -/
theorem least_of {Q : Nat → Prop} {n : Nat} (h : Q n) : ∃ m, Q m ∧ ∀ j, j < m → ¬ Q j := by
  induction n using Nat.strongRecOn with
  | ind n ih =>
    by_cases g : ∃ j, j < n ∧ Q j
    · obtain ⟨j, hj, q⟩ := g
      exact ih j hj q
    · exact ⟨n, h, fun j hj q => g ⟨j, hj, q⟩⟩
theorem repeats {p : Nat} {f : Nat → Nat} (h : ∀ m, f m < p) : ∃ j k, j < k ∧ f j = f k := by
  refine Classical.byContradiction fun no => ?_
  have nd : ((List.range (p + 1)).map f).Nodup :=
    List.pairwise_map.mpr (List.Pairwise.imp (R := fun i j => i < j) (fun {i j} hl e => no ⟨i, j, hl, e⟩) List.pairwise_lt_range)
  have z := nodup_below nd (p := p) fun x hx => by
    obtain ⟨m, _, e⟩ := List.mem_map.mp hx
    rw [← e]
    exact h m
  rw [List.length_map, List.length_range] at z
  omega
theorem ring_of {c : Cd} (h : COk c) {i : Nat} (hi : i < c.2.length) (no : ∀ m, gon c m i ≠ c.1) : ∃ a, a < c.2.length ∧ RingAt c a := by
  obtain ⟨j, k, hjk, e⟩ := repeats (f := fun m => gon c m i) fun m => gon_lt h hi m
  have per : gon c (k - j) (gon c j i) = gon c j i := by
    rw [← gon_add, show j + (k - j) = k by omega]
    exact e.symm
  obtain ⟨v, ⟨m0, e0⟩, hv⟩ := least_of (Q := fun v => ∃ m, gon c m (gon c j i) = v) ⟨0, rfl⟩
  have low : ∀ m, v ≤ gon c m v := fun m => by
    refine Nat.le_of_not_lt fun z => hv _ z ⟨m0 + m, ?_⟩
    rw [gon_add, e0]
  have hper : gon c (k - j) v = v := by
    rw [← e0, ← gon_add, Nat.add_comm, gon_add, per]
  obtain ⟨d, ⟨d0, d1⟩, hd⟩ := least_of (Q := fun d => 0 < d ∧ gon c d v = v) ⟨(by omega : 0 < k - j), hper⟩
  have hvlt : v < c.2.length := by rw [← e0]; exact gon_lt h (gon_lt h hi j) m0
  refine ⟨v, hvlt, d, d0, fun m _ => ?_, fun m m0 md => ?_, d1⟩
  · rw [← e0, ← gon_add, ← gon_add]
    exact no _
  · have z := low m
    have w : gon c m v ≠ v := fun z => hd m md ⟨m0, z⟩
    omega
theorem noring_free {c : Cd} (h : COk c) (no : ∀ a, a < c.2.length → ¬ RingAt c a) : Free c := fun i hi => by
  refine Classical.byContradiction fun z => ?_
  obtain ⟨a, ha, r⟩ := ring_of h hi fun m e => z ⟨m, e⟩
  exact no a ha r
/-- a walk from a, as far as it is told -/
structure PathK (c : Cd) (a : Nat) (k : Nat) : Prop where
  pos : 0 < k
  home : ∀ j, j < k → gon c j a ≠ c.1
  least : ∀ j, 0 < j → j < k → a < gon c j a
  nd : (ringL c a k).Nodup
theorem path_one {c : Cd} {a : Nat} (h : a ≠ c.1) : PathK c a 1 :=
  ⟨Nat.one_pos, fun j hj => by rw [show j = 0 by omega]; exact h, fun j h0 h1 => absurd h1 (by omega), List.pairwise_singleton _ _⟩
theorem ringL_succ {c : Cd} {a k : Nat} : ringL c a (k + 1) = ringL c a k ++ [gon c k a] := by
  unfold ringL
  rw [List.range_succ, List.map_append]
  rfl
theorem path_more {c : Cd} {a k : Nat} (r : PathK c a k) (h1 : a < gon c k a) (h2 : gon c k a ≠ c.1) (h3 : gon c k a ∉ ringL c a k) : PathK c a (k + 1) := by
  refine ⟨Nat.succ_pos _, fun j hj => ?_, fun j h0 hj => ?_, ?_⟩
  · by_cases g : j < k
    · exact r.home j g
    · rw [show j = k by omega]; exact h2
  · by_cases g : j < k
    · exact r.least j h0 g
    · rw [show j = k by omega]; exact h1
  · rw [ringL_succ]
    refine List.nodup_append.mpr ⟨r.nd, List.pairwise_singleton _ _, fun x hx y hy e => ?_⟩
    rw [List.mem_singleton] at hy
    exact h3 (by rw [← hy, ← e]; exact hx)
theorem path_len {c : Cd} (h : COk c) {a k : Nat} (ha : a < c.2.length) (r : PathK c a k) : k ≤ c.2.length := by
  have z := nodup_below r.nd (p := c.2.length) fun x hx => by
    obtain ⟨m, _, e⟩ := List.mem_map.mp hx
    rw [← e]
    exact gon_lt h ha m
  unfold ringL at z
  rw [List.length_map, List.length_range] at z
  exact z
/-- the walk ended: it is a ring just where it came back -/
theorem path_ring {c : Cd} {a k : Nat} (r : PathK c a k) (e : gon c k a = a) : RingK c a k := ⟨r.pos, r.home, r.least, e⟩
theorem path_none {c : Cd} {a k : Nat} (r : PathK c a k) (hend : ¬ (a < gon c k a ∧ gon c k a ≠ c.1 ∧ gon c k a ∉ ringL c a k)) (e : gon c k a ≠ a) : ¬ RingAt c a := fun ⟨d, s⟩ => by
  have hkd : k < d := by
    refine Classical.byContradiction fun g => ?_
    by_cases g2 : d < k
    · have z := r.least d s.pos g2
      rw [s.back] at z
      omega
    · have : d = k := by omega
      rw [← this, s.back] at e
      exact e rfl
  refine hend ⟨s.least k r.pos hkd, s.home k hkd, fun hm => ?_⟩
  have nd := ringL_nodup s
  obtain ⟨j, hj, ej⟩ := List.mem_map.mp hm
  rw [List.mem_range] at hj
  have z : gon c (j + (d - k)) a = a := by
    rw [gon_add, ej, ← gon_add, show k + (d - k) = d by omega]
    exact s.back
  have w := s.least (j + (d - k)) (by omega) (by omega)
  omega
/-- what ring_from tells -/
def RingFrom (c : Cd) (a : Nat) (r : Option (List Nat)) : Prop := (∃ k, RingK c a k ∧ r = some (ringL c a k)) ∨ (¬ RingAt c a ∧ r = none)
/-- what ring tells -/
def RingOf (c : Cd) (r : Option (List Nat)) : Prop := (∃ a k, a < c.2.length ∧ RingK c a k ∧ (∀ b, b < a → ¬ RingAt c b) ∧ r = some (ringL c a k)) ∨ ((∀ a, a < c.2.length → ¬ RingAt c a) ∧ r = none)
theorem ringOf_free {c : Cd} (h : COk c) {r : Option (List Nat)} (q : RingOf c r) : r = none ↔ Free c := by
  rcases q with ⟨a, k, ha, rk, _, rfl⟩ | ⟨no, rfl⟩
  · exact ⟨fun z => (by cases z), fun fr => absurd ⟨k, rk⟩ (free_noring fr ha)⟩
  · exact ⟨fun _ => noring_free h no, fun _ => rfl⟩
/-- how many steps a coder takes at least till it is free -/
def Ahead (c : Cd) (n : Nat) : Prop := Free (it n c) ∧ ∀ m, m < n → ¬ Free (it m c)
theorem ahead_le {c : Cd} (h : COk c) {n : Nat} (a : Ahead c n) : n ≤ (c.2.length - 1) * (c.2.length - 1) + 1 :=
  Nat.le_of_not_lt fun z => a.2 _ z (free_late h (Nat.le_refl _))
theorem ahead_is {c : Cd} (h : COk c) : ∃ n, Ahead c n := least_of (free_late h (Nat.le_refl _))
theorem ahead_one {c : Cd} {n m : Nat} (a : Ahead c n) (b : Ahead c m) : n = m := by
  have h1 : ¬ n < m := fun z => b.2 _ z a.1
  have h2 : ¬ m < n := fun z => a.2 _ z b.1
  omega
end Lk
end
section
/-! Far steps, words. -/
namespace Lk
theorem it_rounds {c : Cd} (h : COk c) (fr : Free c) : ∀ R, it (R * (c.2.length * c.2.length)) c = (c.1, c.2.map (· + R * c.2.length))
  | 0 => by
    rw [Nat.zero_mul]
    refine Prod.ext rfl ?_
    show c.2 = _
    rw [show (fun n : Nat => n + 0 * c.2.length) = id from funext fun n => by simp, List.map_id]
  | R + 1 => by
    have e1 : it ((R + 1) * (c.2.length * c.2.length)) c = it (c.2.length * c.2.length) (it (R * (c.2.length * c.2.length)) c) := by
      rw [Nat.add_mul, Nat.one_mul, it_add]
    have h2 := it_ok (R * (c.2.length * c.2.length)) h
    have f2 := free_it (R * (c.2.length * c.2.length)) h fr
    have r := it_round h2 f2
    rw [it_len] at r
    rw [e1, r, it_rounds h fr R]
    refine Prod.ext rfl ?_
    show (c.2.map _).map _ = _
    rw [List.map_map]
    refine List.map_congr_left fun n _ => ?_
    show n + R * c.2.length + c.2.length = n + (R + 1) * c.2.length
    rw [Nat.add_mul, Nat.one_mul, Nat.add_assoc]
/-- as many whole rounds as may be taken at once -/
def rnds (p n : Nat) : Nat := (n - ((p - 1) * (p - 1) + 1)) / (p * p)
theorem rnds_le (p n : Nat) : rnds p n * (p * p) ≤ n := Nat.le_trans (Nat.div_mul_le_self _ _) (Nat.sub_le _ _)
theorem rnds_left (p n : Nat) (hp : 0 < p) : n - rnds p n * (p * p) < (p - 1) * (p - 1) + 1 + p * p := by
  have hpp : 0 < p * p := Nat.mul_pos hp hp
  have a := Nat.div_add_mod (n - ((p - 1) * (p - 1) + 1)) (p * p)
  have b := Nat.mod_lt (n - ((p - 1) * (p - 1) + 1)) hpp
  unfold rnds
  rw [Nat.mul_comm (p * p)] at a
  omega
theorem far {c : Cd} (h : COk c) (n : Nat) : it n c = ((it (n - rnds c.2.length n * (c.2.length * c.2.length)) c).1, (it (n - rnds c.2.length n * (c.2.length * c.2.length)) c).2.map (· + rnds c.2.length n * c.2.length)) := by
  have hle := rnds_le c.2.length n
  have e : n = (n - rnds c.2.length n * (c.2.length * c.2.length)) + rnds c.2.length n * (c.2.length * c.2.length) := by omega
  by_cases g : rnds c.2.length n = 0
  · rw [g, Nat.zero_mul, Nat.zero_mul, Nat.sub_zero]
    refine Prod.ext rfl ?_
    show _ = List.map _ _
    rw [show (fun n : Nat => n + 0) = id from funext fun n => by simp, List.map_id]
  · have late : (c.2.length - 1) * (c.2.length - 1) + 1 ≤ n - rnds c.2.length n * (c.2.length * c.2.length) := by
      have z := Nat.div_mul_le_self (n - ((c.2.length - 1) * (c.2.length - 1) + 1)) (c.2.length * c.2.length)
      have y : 0 < n - ((c.2.length - 1) * (c.2.length - 1) + 1) := by
        refine Nat.pos_of_ne_zero fun q => g ?_
        unfold rnds
        rw [q, Nat.zero_div]
      unfold rnds
      omega
    have fr := free_late h late
    have r := it_rounds (it_ok (n - rnds c.2.length n * (c.2.length * c.2.length)) h) fr (rnds c.2.length n)
    rw [it_len] at r
    have e2 : it n c = it (rnds c.2.length n * (c.2.length * c.2.length)) (it (n - rnds c.2.length n * (c.2.length * c.2.length)) c) := by
      rw [← it_add, ← e]
    rw [e2, r]
/-- the word of a step -/
def wd (c : Cd) : Nat × Nat := (c.1, len c c.1 + 1)
def wds (n : Nat) (c : Cd) : List (Nat × Nat) := (List.range n).map fun t => wd (it t c)
theorem wds_len (n : Nat) (c : Cd) : (wds n c).length = n := by
  unfold wds
  rw [List.length_map, List.length_range]
theorem wds_succ (n : Nat) (c : Cd) : wds (n + 1) c = wds n c ++ [wd (it n c)] := by
  unfold wds
  rw [List.range_succ, List.map_append]
  rfl
end Lk
end
section
set_option maxRecDepth 100000
set_option maxHeartbeats 2000000
/-! Things as data; heaps; calls by name. -/
namespace Lk
open PySem PySem.Spec PyProof.Rows L2
mutual
/-- v is this data, all of it made in the run -/
inductive Th (H : Hp) : V → PyData → Prop
  | non : Th H .non .none
  | bl (b : Bool) : Th H (.bl b) (.bool b)
  | int (i : Int) : Th H (.int i) (.int i)
  | str (x : Str) : Th H (.str x) (.str x)
  | lst {a : Addr} {xs : List V} {ds : List PyData} (e : H a = some (.lst xs)) (m : ThAll H xs ds) : Th H (.ref a) (.list ds)
  | tup {a : Addr} {xs : List V} {ds : List PyData} (e : H a = some (.tup xs)) (m : ThAll H xs ds) : Th H (.ref a) (.tuple ds)
  | dct {a : Addr} (e : H a = some (.dK [])) : Th H (.ref a) (.dict [])
inductive ThAll (H : Hp) : List V → List PyData → Prop
  | nil : ThAll H [] []
  | cons {v : V} {vs : List V} {d : PyData} {ds : List PyData} (h : Th H v d) (m : ThAll H vs ds) : ThAll H (v :: vs) (d :: ds)
end
/-- what stands at addresses of P is as it was -/
def Keep (P : Addr → Prop) (H H2 : Hp) : Prop := ∀ b o, P b → H b = some o → H2 b = some o
mutual
theorem Th.same {H H2 : Hp} (s : Same H H2) : ∀ (d : PyData) {v : V}, Th H v d → Th H2 v d
  | .none, _, h => by cases h; exact .non
  | .bool b, _, h => by cases h; exact .bl b
  | .int i, _, h => by cases h; exact .int i
  | .str x, _, h => by cases h; exact .str x
  | .list ds, _, h => by
    cases h with
    | lst e m => exact .lst (s _ _ e) (ThAll.same s ds m)
  | .tuple ds, _, h => by
    cases h with
    | tup e m => exact .tup (s _ _ e) (ThAll.same s ds m)
  | .dict kvs, _, h => by
    cases h with
    | dct e => exact .dct (s _ _ e)
theorem ThAll.same {H H2 : Hp} (s : Same H H2) : ∀ (ds : List PyData) {vs : List V}, ThAll H vs ds → ThAll H2 vs ds
  | [], _, h => by cases h; exact .nil
  | d :: ds, _, h => by
    cases h with
    | cons a b => exact .cons (Th.same s d a) (ThAll.same s ds b)
end
mutual
theorem Th.dq {K : PySem.W.Frag} {H : Hp} : ∀ (d : PyData) {v : V}, Th H v d → Dq K H v d
  | .none, _, h => by cases h; exact .non
  | .bool b, _, h => by cases h; exact .bl b
  | .int i, _, h => by cases h; exact .int i
  | .str x, _, h => by cases h; exact .str x
  | .list ds, _, h => by
    cases h with
    | lst e m => exact .lst (SqL.of e) (ThAll.dq ds m)
  | .tuple ds, _, h => by
    cases h with
    | tup e m => exact .tup (SqT.of e) (ThAll.dq ds m)
  | .dict kvs, _, h => by
    cases h with
    | dct e => exact .dct e
theorem ThAll.dq {K : PySem.W.Frag} {H : Hp} : ∀ (ds : List PyData) {vs : List V}, ThAll H vs ds → DqAll K H vs ds
  | [], _, h => by cases h; exact .nil
  | d :: ds, _, h => by
    cases h with
    | cons a b => exact .cons (Th.dq d a) (ThAll.dq ds b)
end
theorem ThAll.length {H : Hp} : ∀ {vs : List V} {ds : List PyData}, ThAll H vs ds → vs.length = ds.length
  | _, _, .nil => rfl
  | _, _, .cons _ m => by rw [List.length_cons, List.length_cons, m.length]
theorem ThAll.get {H : Hp} : ∀ {vs : List V} {ds : List PyData}, ThAll H vs ds → ∀ {i : Nat} {v : V}, vs[i]? = some v → ∃ d, ds[i]? = some d ∧ Th H v d
  | _, _, .nil, i, v, h => by simp at h
  | _, _, .cons a m, 0, v, h => by
    cases h
    exact ⟨_, rfl, a⟩
  | _, _, .cons a m, i + 1, v, h => m.get (i := i) (by simpa using h)
theorem ThAll.get2 {H : Hp} : ∀ {vs : List V} {ds : List PyData}, ThAll H vs ds → ∀ {i : Nat} {d : PyData}, ds[i]? = some d → ∃ v, vs[i]? = some v ∧ Th H v d
  | _, _, .nil, i, v, h => by simp at h
  | _, _, .cons a m, 0, v, h => by
    cases h
    exact ⟨_, rfl, a⟩
  | _, _, .cons a m, i + 1, v, h => m.get2 (i := i) (by simpa using h)
theorem ThAll.append {H : Hp} : ∀ {vs us : List V} {ds es : List PyData}, ThAll H vs ds → ThAll H us es → ThAll H (vs ++ us) (ds ++ es)
  | _, _, _, _, .nil, h => h
  | _, _, _, _, .cons a m, h => .cons a (m.append h)
theorem ThAll.ints {H : Hp} : ∀ ns : List Int, ThAll H (ns.map V.int) (ns.map PyData.int)
  | [] => .nil
  | n :: ns => .cons (.int n) (.ints ns)
def tyN : PyData → String
  | .none => "NoneType"
  | .bool _ => "bool"
  | .int _ => "int"
  | .str _ => "str"
  | .list _ => "list"
  | .tuple _ => "tuple"
  | .dict _ => "dict"
theorem Th.ty {K : PySem.W.Frag} {H : Hp} {v : V} {d : PyData} (h : Th H v d) : TyX K H v (.type (tyN d)) := by
  cases h with
  | non => exact .base .non
  | bl b => exact .base (.bl b)
  | int i => exact .base (.int i)
  | str x => exact .base (.str x)
  | lst e m => exact .base (.lst e)
  | tup e m => exact .base (.tup e)
  | dct e => exact .base (.dK e)
def isT : PyData → Bool
  | .tuple _ => true
  | _ => false
def isL : PyData → Bool
  | .list _ => true
  | _ => false
def isI : PyData → Bool
  | .int _ => true
  | .bool _ => true
  | _ => false
def isB : PyData → Bool
  | .bool _ => true
  | _ => false
theorem kit_tuple {K : PySem.W.Frag} (d : PyData) : PySem.W.kitOne K (.type (tyN d)) (.type "tuple") = some (isT d) := kit_ty (by cases d <;> (simp only [tyN, isT]; decide +kernel))
theorem kit_list {K : PySem.W.Frag} (d : PyData) : PySem.W.kitOne K (.type (tyN d)) (.type "list") = some (isL d) := kit_ty (by cases d <;> (simp only [tyN, isL]; decide +kernel))
theorem kit_int {K : PySem.W.Frag} (d : PyData) : PySem.W.kitOne K (.type (tyN d)) (.type "int") = some (isI d) := kit_ty (by cases d <;> (simp only [tyN, isI]; decide +kernel))
theorem kit_bool {K : PySem.W.Frag} (d : PyData) : PySem.W.kitOne K (.type (tyN d)) (.type "bool") = some (isB d) := kit_ty (by cases d <;> (simp only [tyN, isB]; decide +kernel))
/-! ### heaps -/
/-- all but what stands at a is as it was -/
def SameBut (a : Addr) (H H' : Hp) : Prop := ∀ b o, b ≠ a → H b = some o → H' b = some o
theorem SameBut.trans {a : Addr} {H H1 H2 : Hp} (x : SameBut a H H1) (y : SameBut a H1 H2) : SameBut a H H2 := fun b o n e => y b o n (x b o n e)
theorem SameBut.refl {a : Addr} {H : Hp} : SameBut a H H := fun _ _ _ e => e
theorem sameBut_upd {a : Addr} {H : Hp} {o : HO} : SameBut a H (upd H a o) := fun b u n e => by rw [upd_ne n]; exact e
theorem same_new {p : Addr} {H : Hp} {o : HO} (h : H p = none) : Same H (upd H p o) := fun b u e => by rw [upd_ne (ne_of_none e h)]; exact e
theorem same_push {H H1 : Hp} {D : Addr} {o : HO} (s : Same H H1) (hD : H D = none) : Same H (upd H1 D o) := fun b u e => by
  rw [upd_ne (ne_of_none e hD)]
  exact s b u e
theorem Same.but {a : Addr} {H H' : Hp} (h : Same H H') : SameBut a H H' := fun b o _ e => h b o e
/-! ### a def that may raise, by its name -/
structure CalX (P : Program) (w : World) (K : PySem.W.Frag) (mg : Str → Option Value) (base : Heap) (k : Nat) (x : Str) (sp : Sp) : Prop where
  ex : ∃ (f : Addr) (fd : FuncData) (ps : List Str), FnOk P w K mg base (L2.CX P w) k f fd ps sp ∧ mg x = some (.ref f) ∧ PySem.W.keepIn K (.ref f) = true ∧ Binds K fd ps []
section
variable {X : Cx} {k j : Nat} {x : Str} {sp : Sp} {p pos : Pos} {e : Expr} {es : List Expr} {t : TA} {W : WX}
/-- .. what it raises is taken around -/
theorem pe_cX (c : CalX X.prog X.w X.K X.mg X.base k x sp) (tk : Takes X W) (hr : Room j X.A) (hk : k ≤ j) (hg : Gl X x) (ha : PA X (e :: es) t)
    (hdb : (x == ("__debug__" : Str)) = false := by decide) (he : starEach (e :: es) X.env = (false, eval e X.env) :: starEach es X.env := by rfl) (hpl : (backTo pos (starEach es X.env)).any (·.1) = false := by rfl) :
    PE X (.Call (.Name x p) (e :: es) [] pos) (tCallS sp (WE W) t) := by
  obtain ⟨f, fd, ps, F, hm, kp, b⟩ := c.ex
  exact pe_callS F (hr.mono hk) hg hm kp b (fun σ => passAt tk σ) ha hdb he hpl
/-- .. where it raises nothing -/
theorem pe_c0 (c : CalX X.prog X.w X.K X.mg X.base k x sp) (hr : Room j X.A) (hk : k ≤ j) (hg : Gl X x) (ha : PA X (e :: es) t)
    (hdb : (x == ("__debug__" : Str)) = false := by decide) (he : starEach (e :: es) X.env = (false, eval e X.env) :: starEach es X.env := by rfl) (hpl : (backTo pos (starEach es X.env)).any (·.1) = false := by rfl) :
    PE X (.Call (.Name x p) (e :: es) [] pos) (tCall sp [] E0 t) := by
  obtain ⟨f, fd, ps, F, hm, kp, b⟩ := c.ex
  exact pe_call F (hr.mono hk) hg hm kp b .nil passL ha hdb he hpl
end
/-- a class of the program's own over ValueError, as the top has written it -/
structure ErrC (K : PySem.W.Frag) (mg : Str → Option Value) (x : Str) (C : Addr) : Prop where
  g : mg x = some (.ref C)
  k : PySem.W.keepIn K (.ref C) = true
  x : PySem.W.excIn K C [.type "ValueError", .type "Exception", .type "BaseException", .type "object"] "ValueError.__new__" = true
  b : PySem.W.subIn K (.ref C) (.type "BaseException") = some true
  t : PySem.W.typeIn K (.ref C) = some (.type "type")
/-! ### rules that name the written part, for use within a comprehension -/
def rLenS (K : PySem.W.Frag) : List V → Hp → VK → Prop := fun xs H Q => ∃ p ys, xs = [.ref p] ∧ (SqL K H p ys ∨ SqT K H p ys) ∧ Q (.int ((ys.length : Nat) : Int)) H
theorem call_lenK {X : Cx} {K : PySem.W.Frag} (h : X.K = K) : CallR X (.builtin "len") (rLenS K) := by
  subst h
  exact call_len_seq
theorem ix_tupK {X : Cx} {K : PySem.W.Frag} (h : X.K = K) : IxR X (rIxT K) := by
  subst h
  exact ix_tup
theorem ix_listK {X : Cx} {K : PySem.W.Frag} (h : X.K = K) : IxR X (rIxL K) := by
  subst h
  exact ix_list
/-- a comprehension that gathers truths, its list at D -/
theorem snoc_bl {H4 : Hp} {D : Addr} {bs : List Bool} {i : Nat} {b : Bool} (e : H4 D = some (.lst ((bs.take i).map V.bl))) (hb : bs[i]? = some b) (hl : bs.length ≤ 100000) :
    ∃ acc, H4 D = some (.lst acc) ∧ acc.length < sizeLine ∧ upd H4 D (.lst (acc ++ [V.bl b])) D = some (.lst ((bs.take (i + 1)).map V.bl)) ∧ acc = (bs.take i).map V.bl := by
  refine ⟨_, e, ?_, ?_, rfl⟩
  · rw [List.length_map, List.length_take]
    exact Nat.lt_of_le_of_lt (show min i bs.length ≤ 100000 by omega) (by decide)
  · rw [upd_same, List.take_add_one, hb, List.map_append]
    rfl
/-- a comprehension that gathers, its list at D -/
theorem snoc_map {α : Type} {f : α → V} {H4 : Hp} {D : Addr} {l : List α} {i : Nat} {x : α} (e : H4 D = some (.lst ((l.take i).map f))) (hx : l[i]? = some x) (hl : l.length ≤ 1000000) :
    ∃ acc, H4 D = some (.lst acc) ∧ acc.length < sizeLine ∧ upd H4 D (.lst (acc ++ [f x])) D = some (.lst ((l.take (i + 1)).map f)) := by
  refine ⟨_, e, ?_, ?_⟩
  · rw [List.length_map, List.length_take]
    exact Nat.lt_of_le_of_lt (show min i l.length ≤ 1000000 by omega) (by decide)
  · rw [upd_same, List.take_add_one, hx, List.map_append]
    rfl
theorem cut_to {xs : List V} {n : Nat} (h : n ≤ xs.length) : cutV xs none (some (n : Int)) = xs.take n := by
  unfold cutV
  rw [HT.sIx_none, HT.sIx_nat]
  show (xs.drop 0).take (min n xs.length - 0) = _
  rw [List.drop_zero, Nat.sub_zero, Nat.min_eq_left h]
theorem cut_from {xs : List V} {n : Nat} : cutV xs (some (n : Int)) none = xs.drop n := by
  unfold cutV
  rw [HT.sIx_none, HT.sIx_nat]
  by_cases h : n ≤ xs.length
  · rw [Nat.min_eq_left h]
    exact List.take_of_length_le (by rw [List.length_drop]; omega)
  · rw [Nat.min_eq_right (by omega), List.drop_length, List.drop_eq_nil_of_le (by omega)]
    exact List.take_nil
end Lk
end
section
set_option maxRecDepth 100000
set_option maxHeartbeats 2000000
/-! kinds, is_coder of anything, next_coder. -/
namespace Lk
open PySem PySem.Spec PyProof.Rows L2
abbrev vN (n : Nat) : V := .int (n : Int)
abbrev dN (n : Nat) : PyData := .int (n : Int)
def isW : PyData → Bool
  | .int _ => true
  | _ => false
def inR : PyData → Int → Int → Bool
  | .int i, a, b => decide (a ≤ i) && decide (i ≤ b)
  | _, _, _ => false
def natD : PyData → Bool
  | .int i => decide (0 ≤ i)
  | _ => false
def isCd : PyData → Bool
  | .tuple [p, .tuple ls] => (decide (1 ≤ ls.length) && decide (ls.length ≤ 12)) && (inR p 0 ((ls.length : Int) - 1) && ls.all natD)
  | _ => false
section
variable {P : Program} {w : World} {K : PySem.W.Frag} {mg : Str → Option Value} {base : Heap}
def spWhole : Sp := fun vs H Q _ => ∃ v d, vs = [v] ∧ Th H v d ∧ Q (.bl (isW d)) H
def spWithin : Sp := fun vs H Q _ => ∃ v d a b, vs = [v, .int a, .int b] ∧ Th H v d ∧ Q (.bl (inR d a b)) H
/-- which bounds are asked -/
def Asked (a b : Int) : Prop := a = 0 ∧ b = 2000 ∨ a = 0 ∧ b = 10 ^ 18 ∨ a = 1 ∧ b = 12 ∨ a = 1 ∧ b = 6 ∨ a = 1 ∧ b = 10 ^ 18 ∨ a = 0 ∧ b = 10 ^ 36
def spCount (C : Addr) : Sp := fun vs H Q E => ∃ v d a b, vs = [v, .int a, .int b] ∧ Asked a b ∧ Th H v d ∧ (inR d a b = true → Q .non H) ∧ (inR d a b = false → E (.ref C) none H)
/-! ### coders -/
/-- the coder c stands at v -/
def Cat (H : Hp) (v : V) (c : Cd) : Prop := ∃ a b, v = .ref a ∧ H a = some (.tup [.int (c.1 : Int), .ref b]) ∧ H b = some (.tup (c.2.map vN))
theorem Cat.same {H H2 : Hp} {v : V} {c : Cd} (s : Same H H2) (h : Cat H v c) : Cat H2 v c := by
  obtain ⟨a, b, e, h1, h2⟩ := h
  exact ⟨a, b, e, s _ _ h1, s _ _ h2⟩
def cdD (c : Cd) : PyData := .tuple [.int (c.1 : Int), .tuple (c.2.map dN)]
def CdOk (c : Cd) : Prop := COk c ∧ c.2.length ≤ 12
theorem CdOk.pos {c : Cd} (h : CdOk c) : 0 < c.2.length := Nat.lt_of_le_of_lt (Nat.zero_le _) h.1
theorem ints_nat {H : Hp} : ∀ ls : List Nat, ThAll H (ls.map vN) (ls.map dN)
  | [] => .nil
  | n :: ls => .cons (.int n) (ints_nat ls)
theorem nat_ints {H : Hp} : ∀ {vs : List V} {ls : List Nat}, ThAll H vs (ls.map dN) → vs = ls.map vN
  | _, [], h => by cases h; rfl
  | _, n :: ls, h => by
    cases h with
    | cons a m =>
      cases a
      rw [nat_ints m]
      rfl
theorem Cat.th {H : Hp} {v : V} {c : Cd} (h : Cat H v c) : Th H v (cdD c) := by
  obtain ⟨a, b, rfl, h1, h2⟩ := h
  exact .tup h1 (.cons (.int _) (.cons (.tup h2 (ints_nat c.2)) .nil))
theorem Th.cat {H : Hp} {v : V} {c : Cd} (h : Th H v (cdD c)) : Cat H v c := by
  unfold cdD at h
  cases h with
  | tup e m =>
    cases m with
    | cons a m =>
      cases m with
      | cons b m =>
        cases m
        cases a
        cases b with
        | tup e2 m2 =>
          rw [nat_ints m2] at e2
          exact ⟨_, _, rfl, e, e2⟩
theorem nats_of : ∀ {ds : List PyData}, ds.all natD = true → ∃ ls : List Nat, ds = ls.map dN
  | [], _ => ⟨[], rfl⟩
  | d :: ds, h => by
    rw [List.all_cons, Bool.and_eq_true] at h
    obtain ⟨ls, rfl⟩ := nats_of h.2
    cases d with
    | int i =>
      have z : 0 ≤ i := of_decide_eq_true h.1
      exact ⟨i.toNat :: ls, by rw [List.map_cons]; show _ = PyData.int _ :: _; rw [Int.toNat_of_nonneg z]⟩
    | _ => cases h.1
theorem isCd_of {d : PyData} (h : isCd d = true) : ∃ c, d = cdD c ∧ CdOk c := by
  unfold isCd at h
  split at h
  · rename_i p ls
    rw [Bool.and_eq_true, Bool.and_eq_true, Bool.and_eq_true, decide_eq_true_eq, decide_eq_true_eq] at h
    obtain ⟨⟨h1, h2⟩, h3, h4⟩ := h
    obtain ⟨ns, rfl⟩ := nats_of h4
    rw [List.length_map] at h1 h2 h3
    cases p with
    | int i =>
      have z : (decide (0 ≤ i) && decide (i ≤ (ns.length : Int) - 1)) = true := h3
      rw [Bool.and_eq_true, decide_eq_true_eq, decide_eq_true_eq] at z
      exact ⟨(i.toNat, ns), by unfold cdD; rw [Int.toNat_of_nonneg z.1], by show i.toNat < ns.length; omega, h2⟩
    | _ => cases h3
  · cases h
theorem natD_all : ∀ ls : List Nat, (ls.map dN).all natD = true
  | [] => rfl
  | n :: ls => by
    rw [List.map_cons, List.all_cons, natD_all ls, Bool.and_true]
    exact decide_eq_true (show (0 : Int) ≤ (n : Int) by omega)
theorem isCd_cdD {c : Cd} (h : CdOk c) : isCd (cdD c) = true := by
  have h1 : c.1 < c.2.length := h.1
  have h2 := h.2
  show ((decide (1 ≤ _) && decide (_ ≤ 12)) && (inR (.int (c.1 : Int)) 0 _ && List.all _ natD)) = true
  rw [List.length_map, natD_all, Bool.and_true, decide_eq_true (show 1 ≤ c.2.length by omega), decide_eq_true h2]
  show ((true && true) && (decide ((0 : Int) ≤ (c.1 : Int)) && decide ((c.1 : Int) ≤ (c.2.length : Int) - 1))) = true
  rw [decide_eq_true (by omega), decide_eq_true (by omega)]
  rfl
def spIsCoder : Sp := fun vs H Q _ => ∃ v d, vs = [v] ∧ Th H v d ∧ ∀ H', Same H H' → Q (.bl (isCd d)) H'
theorem isCd_two {ds : List PyData} (h : ds.length ≠ 2) : isCd (.tuple ds) = false := by
  unfold isCd
  split
  · rename_i e
    cases e
    exact absurd rfl h
  · rfl
theorem isCd_no {p l : PyData} (h : isT l = false) : isCd (.tuple [p, l]) = false := by
  cases l <;> first | rfl | (cases h)
end
end Lk
end
section
set_option maxRecDepth 100000
set_option maxHeartbeats 2000000
/-! refuse_no_coder, next_coder, step, words_of, behind. -/
namespace Lk
open PySem PySem.Spec PyProof.Rows L2
/-- a slice of a tuple, new or not -/
def rCut (K : PySem.W.Frag) : V → Option Int → Option Int → Hp → VK → Prop := fun x lo hi H Q => ∃ a xs, x = .ref a ∧ SqT K H a xs ∧ ∀ b H', Same H H' → SqT K H' b (cutV xs lo hi) → (H' b = none ∨ H' b = some (.tup (cutV xs lo hi)) ∨ True) → Q (.ref b) H'
theorem sl_cut {X : Cx} : SlR X (rCut X.K) := by
  intro pins s σ H x v vl vu lo hi sl Q I rx hs pl pu h
  obtain ⟨a, xs, rfl, hx, q⟩ := h
  refine sl_tupA pins s σ H _ v vl vu _ _ sl Q I rx hs pl pu ⟨a, xs, rfl, hx, fun z => ?_, fun z p hp => ?_⟩
  · refine q a H (Same.refl H) ?_ (.inr (.inr trivial))
    have e : cutV xs lo hi = xs := by
      unfold cutV
      rw [z.1, z.2, List.drop_zero, Nat.sub_zero, List.take_length]
    rw [e]
    exact hx
  · exact q p _ (same_new hp) (.inl (.inl upd_same)) (.inr (.inr trivial))
theorem set_cut (l : List Nat) (i v : Nat) (h : i < l.length) : l.take i ++ v :: l.drop (i + 1) = l.set i v := by
  rw [List.set_eq_take_append_cons_drop, if_pos h]
theorem nat_at {l : List Nat} {i : Nat} (h : i < l.length) : (l.map vN)[i]? = some (V.int ((l.getD i 0 : Nat) : Int)) := by
  rw [List.getElem?_map, List.getD_eq_getElem?_getD, List.getElem?_eq_getElem h]
  rfl
/-- no list, no dict in it -/
def noL : PyData → Bool
  | .list _ => false
  | .dict _ => false
  | .tuple ds => noLs ds
  | _ => true
where noLs : List PyData → Bool
  | [] => true
  | d :: ds => noL d && noLs ds
mutual
theorem Th.but {H H2 : Hp} {W : Addr} {ws : List V} (hW : H W = some (.lst ws)) (s : SameBut W H H2) : ∀ (d : PyData) {v : V}, noL d = true → Th H v d → Th H2 v d
  | .none, _, _, h => by cases h; exact .non
  | .bool b, _, _, h => by cases h; exact .bl b
  | .int i, _, _, h => by cases h; exact .int i
  | .str x, _, _, h => by cases h; exact .str x
  | .list ds, _, n, _ => by cases n
  | .tuple ds, _, n, h => by
    cases h with
    | tup e m => exact .tup (s _ _ (fun z => by rw [z, hW] at e; cases e) e) (ThAll.but hW s ds n m)
  | .dict kvs, _, n, h => by cases n
theorem ThAll.but {H H2 : Hp} {W : Addr} {ws : List V} (hW : H W = some (.lst ws)) (s : SameBut W H H2) : ∀ (ds : List PyData) {vs : List V}, noL.noLs ds = true → ThAll H vs ds → ThAll H2 vs ds
  | [], _, _, h => by cases h; exact .nil
  | d :: ds, _, n, h => by
    have n2 : (noL d && noL.noLs ds) = true := n
    rw [Bool.and_eq_true] at n2
    cases h with
    | cons a b => exact .cons (Th.but hW s d n2.1 a) (ThAll.but hW s ds n2.2 b)
end
theorem noLs_append {ds es : List PyData} (a : noL.noLs ds = true) (b : noL.noLs es = true) : noL.noLs (ds ++ es) = true := by
  induction ds with
  | nil => exact b
  | cons d ds ih =>
    have n2 : (noL d && noL.noLs ds) = true := a
    rw [Bool.and_eq_true] at n2
    show (noL d && noL.noLs (ds ++ es)) = true
    rw [n2.1, ih n2.2]
    rfl
theorem noLs_map {α : Type} {f : α → PyData} (h : ∀ x, noL (f x) = true) : ∀ l : List α, noL.noLs (l.map f) = true
  | [] => rfl
  | x :: l => by
    show (noL (f x) && noL.noLs (l.map f)) = true
    rw [h, noLs_map h l]
    rfl
theorem noL_cdD (c : Cd) : noL (cdD c) = true := by
  show (true && (noL.noLs _ && true)) = true
  rw [noLs_map (f := dN) (fun _ => rfl) c.2]
  rfl
theorem Cat.but {H H2 : Hp} {W : Addr} {ws : List V} {v : V} {c : Cd} (hW : H W = some (.lst ws)) (s : SameBut W H H2) (h : Cat H v c) : Cat H2 v c := (Th.but hW s (cdD c) (noL_cdD c) h.th).cat
def dW (w : Nat × Nat) : PyData := .tuple [dN w.1, dN w.2]
theorem noL_dW (w : Nat × Nat) : noL (dW w) = true := rfl
section
variable {P : Program} {w : World} {K : PySem.W.Frag} {mg : Str → Option Value} {base : Heap}
def spRefCoder (C : Addr) : Sp := fun vs H Q E => ∃ v d, vs = [v] ∧ Th H v d ∧ (isCd d = true → ∀ H', Same H H' → Q .non H') ∧ (isCd d = false → ∀ H', Same H H' → E (.ref C) none H')
/-- the lengths with one word more at a place -/
def spLonger : Sp := fun vs H Q _ => ∃ (b : Addr) (ls : List Nat) (p : Nat), vs = [.ref b, .int (p : Int)] ∧ H b = some (.tup (ls.map vN)) ∧ p < ls.length ∧ ls.length ≤ 12 ∧ ∀ b' H', Same H H' → H' b' = some (.tup ((ls.set p (ls.getD p 0 + 1)).map vN)) → Q (.ref b') H'
/-- so many rounds later: the lengths are as much more -/
def spLater : Sp := fun vs H Q _ => ∃ v c m, vs = [v, .int ((m : Nat) : Int)] ∧ Cat H v c ∧ CdOk c ∧ ∀ v' H', Same H H' → Cat H' v' (c.1, c.2.map (· + m * c.2.length)) → Q v' H'
def spTill : Sp := fun vs H Q _ => ∃ p : Nat, vs = [.int (p : Int)] ∧ 1 ≤ p ∧ p ≤ 12 ∧ Q (.int (((p - 1) * (p - 1) + 1 : Nat) : Int)) H
def spNext : Sp := fun vs H Q _ => ∃ v c, vs = [v] ∧ Cat H v c ∧ CdOk c ∧ ∀ v' H', Same H H' → Cat H' v' (nx c) → Q v' H'
end
end Lk
end
section
set_option maxRecDepth 100000
set_option maxHeartbeats 2000000
namespace Lk
open PySem PySem.Spec PyProof.Rows L2
theorem it_cdOk {c : Cd} (n : Nat) (h : CdOk c) : CdOk (it n c) := ⟨it_ok n h.1, by rw [it_len]; exact h.2⟩
theorem nx_cdOk {c : Cd} (h : CdOk c) : CdOk (nx c) := it_cdOk 1 h
theorem dW_at {H : Hp} {t : Addr} {a b : Nat} (e : H t = some (.tup [.int (a : Int), .int (b : Int)])) : Th H (.ref t) (dW (a, b)) := .tup e (.cons (.int _) (.cons (.int _) .nil))
section
variable {P : Program} {w : World} {K : PySem.W.Frag} {mg : Str → Option Value} {base : Heap}
/-- NoCoder, then NoCount of a number beyond m; else what is told of the coder and the number -/
def spOf (C1 C2 : Addr) (m : Nat) (told : Cd → Nat → VK → Hp → Prop) : Sp := fun vs H Q E => ∃ v u d e, vs = [v, u] ∧ Th H v d ∧ Th H u e ∧ (isCd d = false → ∀ H', Same H H' → E (.ref C1) none H') ∧
  (isCd d = true → inR e 0 m = false → ∀ H', Same H H' → E (.ref C2) none H') ∧ (∀ c (n : Nat), d = cdD c → CdOk c → e = .int n → n ≤ m → told c n Q H)
def toldWords (c : Cd) (n : Nat) (Q : VK) (H : Hp) : Prop := ∀ p H' ws, H p = none → Same H H' → H' p = some (.lst ws) → ThAll H' ws ((wds n c).map dW) → Q (.ref p) H'
def toldCoder (c : Cd) (n : Nat) (Q : VK) (H : Hp) : Prop := ∀ v H', Same H H' → Cat H' v (it n c) → Q v H'
theorem count_of {e : PyData} {m : Nat} (h : inR e 0 m = true) : ∃ n : Nat, e = .int n ∧ n ≤ m := by
  cases e with
  | int i =>
    have z : (decide ((0 : Int) ≤ i) && decide (i ≤ (m : Int))) = true := h
    rw [Bool.and_eq_true, decide_eq_true_eq, decide_eq_true_eq] at z
    exact ⟨i.toNat, by rw [Int.toNat_of_nonneg z.1], by omega⟩
  | _ => cases h
end
end Lk
end
section
set_option maxRecDepth 100000
set_option maxHeartbeats 2000000
/-! last_goings, ring_from, ring. -/
namespace Lk
open PySem PySem.Spec PyProof.Rows L2
def gos (c : Cd) : List Nat := (List.range c.2.length).map (go c)
theorem gos_len (c : Cd) : (gos c).length = c.2.length := by
  unfold gos
  rw [List.length_map, List.length_range]
theorem gos_at {c : Cd} {i : Nat} (h : i < c.2.length) : (gos c)[i]? = some (go c i) := by
  unfold gos
  rw [List.getElem?_map, List.getElem?_range h]
  rfl
theorem inV_nat (k : Nat) : ∀ l : List Nat, inV (vN k) (l.map vN) = decide (k ∈ l)
  | [] => rfl
  | x :: l => by
    show ((x : Int) == (k : Int) || inV (vN k) (l.map vN)) = _
    rw [inV_nat k l]
    by_cases e : k = x
    · rw [e, decide_eq_true List.mem_cons_self, beq_self_eq_true, Bool.true_or]
    · have e2 : ((x : Int) == (k : Int)) = false := beq_eq_false_iff_ne.mpr fun z => e (by omega)
      rw [e2, Bool.false_or]
      by_cases m : k ∈ l
      · rw [decide_eq_true m, decide_eq_true (List.mem_cons_of_mem _ m)]
      · rw [decide_eq_false m, decide_eq_false fun z => (List.mem_cons.mp z).elim e m]
theorem flat_nat : ∀ l : List Nat, (l.map vN).all flatV = true
  | [] => rfl
  | x :: l => by
    rw [List.map_cons, List.all_cons, flat_nat l]
    rfl
section
variable {P : Program} {w : World} {K : PySem.W.Frag} {mg : Str → Option Value} {base : Heap}
def spLast : Sp := fun vs H Q _ => ∃ v c, vs = [v] ∧ Cat H v c ∧ CdOk c ∧ ∀ p H', H p = none → Same H H' → H' p = some (.lst ((gos c).map vN)) → Q (.ref p) H'
/-- a list of places, new, or None -/
def ListV (H H' : Hp) (v : V) : Option (List Nat) → Prop
  | none => v = .non
  | some l => ∃ p, v = .ref p ∧ H p = none ∧ H' p = some (.lst (l.map vN))
def spRingFrom : Sp := fun vs H Q _ => ∃ (v : V) (c : Cd) (a : Nat), vs = [v, .int (a : Int)] ∧ Cat H v c ∧ CdOk c ∧ a < c.2.length ∧ ∀ r v' H', RingFrom c a r → Same H H' → ListV H H' v' r → Q v' H'
theorem ringL_one (c : Cd) (a : Nat) : ringL c a 1 = [a] := rfl
theorem ringL_len (c : Cd) (a k : Nat) : (ringL c a k).length = k := by
  unfold ringL
  rw [List.length_map, List.length_range]
end
end Lk
end
section
set_option maxRecDepth 100000
set_option maxHeartbeats 2000000
/-! ring, in_round, enter_round, ahead, round_of. -/
namespace Lk
open PySem PySem.Spec PyProof.Rows L2
theorem bl_iff {b : Bool} {A : Prop} (h : b = true ↔ A) : ∀ {a : Bool}, (a = true ↔ A) → a = b := fun {a} g => by
  cases a with
  | true => exact (h.mpr (g.mp rfl)).symm
  | false =>
    cases b with
    | false => rfl
    | true => exact absurd (g.mpr (h.mp rfl)) Bool.false_ne_true
theorem cdD_inj {x y : Cd} (e : cdD x = cdD y) : x = y := by
  unfold cdD at e
  injection e with e
  injection e with e1 e
  injection e with e2 _
  injection e1 with e1
  injection e2 with e2
  refine Prod.ext (by omega) ?_
  refine List.map_inj_right (f := dN) (fun a b h => ?_) |>.mp e2
  injection h with h
  omega
theorem dW_of {H : Hp} {v : V} {x : Nat × Nat} (h : Th H v (dW x)) : ∃ t, v = .ref t ∧ H t = some (.tup [.int (x.1 : Int), .int (x.2 : Int)]) := by
  cases h with
  | tup e m =>
    cases m with
    | cons a m =>
      cases m with
      | cons b m =>
        cases m
        cases a
        cases b
        exact ⟨_, rfl, e⟩
theorem ListV.at {H H1 H2 : Hp} {v : V} {r : Option (List Nat)} (s : Same H1 H2) (h : ListV H H1 v r) : ListV H H2 v r := by
  cases r with
  | none => exact h
  | some l =>
    obtain ⟨p, e, n, q⟩ := h
    exact ⟨p, e, n, s _ _ q⟩
theorem ListV.from {H H1 H2 : Hp} {v : V} {r : Option (List Nat)} (s : Same H H1) (h : ListV H1 H2 v r) : ListV H H2 v r := by
  cases r with
  | none => exact h
  | some l =>
    obtain ⟨p, e, n, q⟩ := h
    exact ⟨p, e, s.free n, q⟩
section
variable {P : Program} {w : World} {K : PySem.W.Frag} {mg : Str → Option Value} {base : Heap}
/-- NoCoder of what is none; else what is told of the coder -/
def spOne (C : Addr) (told : Cd → VK → Hp → Prop) : Sp := fun vs H Q E => ∃ v d, vs = [v] ∧ Th H v d ∧ (isCd d = false → ∀ H', Same H H' → E (.ref C) none H') ∧ (∀ c, d = cdD c → CdOk c → told c Q H)
def toldRing (c : Cd) (Q : VK) (H : Hp) : Prop := ∀ r v H', RingOf c r → Same H H' → ListV H H' v r → Q v H'
def toldIn (c : Cd) (Q : VK) (H : Hp) : Prop := ∀ b H', (b = true ↔ Free c) → Same H H' → Q (.bl b) H'
def toldEnter (c : Cd) (Q : VK) (H : Hp) : Prop := ∀ n v p H', Ahead c n → Same H H' → Cat H' v (it n c) → H' p = some (.tup [.int (n : Int), v]) → Q (.ref p) H'
def toldAhead (c : Cd) (Q : VK) (H : Hp) : Prop := ∀ (n : Nat) H', Ahead c n → Same H H' → Q (.int (n : Int)) H'
def toldRound (c : Cd) (Q : VK) (H : Hp) : Prop := ∀ n p H' ws, Ahead c n → H p = none → Same H H' → H' p = some (.lst ws) → ThAll H' ws ((wds (c.2.length * c.2.length) (it n c)).map fun x => dW (x.1, x.2 % c.2.length)) → Q (.ref p) H'
end
end Lk
end
section
namespace Lk
open PySem PySem.Spec PyProof.Rows L2
def top (i : Nat) : Stmt := PySem.Challenge.pw_looplearn_k50_words_taught_or_not.main.body.getD i (.Pass ⟨0, 0, 0, 0⟩)
abbrev s_NoPairs_init : Stmt := inClass (top 4) 0
abbrev s_is_letters : Stmt := top 19
abbrev s_is_whole : Stmt := top 20
abbrev s_is_within : Stmt := top 21
abbrev s_refuse_no_count : Stmt := top 22
abbrev s_is_loop : Stmt := top 25
abbrev s_refuse_no_loop : Stmt := top 26
abbrev s_is_plain : Stmt := top 27
abbrev s_refuse_not_plain : Stmt := top 28
abbrev s_is_word : Stmt := top 30
abbrev s_is_known : Stmt := top 31
abbrev s_refuse_unknown : Stmt := top 32
abbrev s_numbered : Stmt := top 33
abbrev s_longest_end : Stmt := top 34
abbrev s_is_coder : Stmt := top 37
abbrev s_refuse_no_coder : Stmt := top 38
abbrev s_one_longer : Stmt := top 39
abbrev s_next_coder : Stmt := top 40
abbrev s_rounds_later : Stmt := top 41
abbrev s_words_till_round : Stmt := top 42
abbrev s_behind : Stmt := top 43
abbrev s_known_lengths : Stmt := top 44
abbrev s_coder_on : Stmt := top 45
abbrev s_refuse_no_place : Stmt := top 47
abbrev s_word_at : Stmt := top 48
abbrev s_text_from : Stmt := top 50
abbrev s_place_of : Stmt := top 51
abbrev s_Learner_init : Stmt := inClass (top 52) 0
abbrev s_Learner_learn : Stmt := inClass (top 52) 1
abbrev s_Learner_teach : Stmt := inClass (top 52) 2
abbrev s_Learner_keep : Stmt := inClass (top 52) 3
abbrev s_Learner_back : Stmt := inClass (top 52) 4
abbrev s_Learner_coder : Stmt := inClass (top 52) 5
abbrev s_Learner_count : Stmt := inClass (top 52) 6
abbrev s_Learner_word : Stmt := inClass (top 52) 7
abbrev s_Learner_letters : Stmt := inClass (top 52) 8
abbrev s_Learner_knows : Stmt := inClass (top 52) 9
abbrev s_Learner_log : Stmt := inClass (top 52) 10
abbrev s_Learner_len : Stmt := inClass (top 52) 11
abbrev s_Learner_eq : Stmt := inClass (top 52) 12
abbrev s_law_pail : Stmt := top 54
abbrev s_law_dip : Stmt := top 55
abbrev s_law_loop : Stmt := top 56
abbrev s_law_letters : Stmt := top 57
abbrev s_law_rays : Stmt := top 58
abbrev s_law_begun : Stmt := top 59
abbrev s_law_same : Stmt := top 60
abbrev s_law_kind : Stmt := top 61
abbrev s_law_length : Stmt := top 62
abbrev s_law_taught : Stmt := top 63
abbrev s_law_things : Stmt := top 64
abbrev s_law_long_right : Stmt := top 65
abbrev s_law : Stmt := top 66
end Lk
end
section
set_option maxRecDepth 100000
set_option maxHeartbeats 2000000
/-! A caught error that a name keeps behind its suite; isinstance of it. -/
namespace Lk
open PySem PySem.Spec PyProof.Rows L2
/-- an error's object of the class cls, its own dict at d, caught before -/
def ExT (cls : Value) (d : Option Addr) (a : Addr) : HO := .ext fun h => ∃ (oe : Obj) (vs : Array Value), h.get? a = some oe ∧ Zc cls d oe ∧ oe.data = .fields vs
theorem exT_ok {P : Program} {w : World} {H : Hp} {h : Heap} {a : Addr} {cls : Value} {d : Option Addr} {oe : Obj} {vs : Array Value} (e : h.get? a = some oe) (z : Zc cls d oe) (hd : oe.data = .fields vs) : ObjOk P w H h a (ExT cls d a) :=
  ⟨⟨oe, vs, e, z, hd⟩, ⟨oe, e⟩, fun _ _ ⟨o, v, q, r⟩ k => ⟨o, v, k o q, r⟩⟩
section
variable {X : Cx} {pins : List (Addr × Obj)} {σ : L2.St} {H : Hp} {s : Shared}
/-- what is pinned and was made since the entry may be tracked -/
theorem tracked {a : Addr} {oe : Obj} {o : HO} (I : Inv X ((a, oe) :: pins) σ H s) (h0 : X.s_0.heap.get? a = none) (hp : ∀ p ∈ X.pn ++ pins, p.1 ≠ a) (new : ObjOk X.prog X.w (upd H a o) s.heap a o) : Inv X pins σ (upd H a o) s := by
  obtain ⟨ha, hn, nL, nF, nc⟩ := I.pin (a, oe) (List.mem_append.mpr (.inr List.mem_cons_self))
  refine ⟨I.ok, I.os, I.bare, ⟨I.base.keep, I.base.slot, fun b u e n hx => ?_, I.base.there, fun b xs e => ?_, fun b u xs e => ?_, fun b ps e => ?_⟩, I.loc, I.cell, ?_, fun x c e => ?_, fun p h => ?_, I.hok.laidN (fun _ _ e => e) hn new, I.len⟩
  · rw [upd_ne (fun z => by rw [z, h0] at e; cases e)]
    exact I.base.free b u e n hx
  · rw [upd_ne (ne_of_none (I.base.tups b xs e) hn)]
    exact I.base.tups b xs e
  · rw [upd_ne (ne_of_none (I.base.frzs b u xs e) hn)]
    exact I.base.frzs b u xs e
  · obtain ⟨m, q⟩ := I.base.tbls b ps e
    exact ⟨m, by rw [upd_ne (ne_of_none q hn)]; exact q⟩
  · rw [upd_ne nL.symm]
    exact I.free
  · rw [upd_ne (fun z => ?_)]
    · exact I.freeC x c e
    · obtain ⟨v, o', q1, q2⟩ := I.cell x c e
      have q3 : s.heap.get? a = some o' := by rw [← z]; exact q1
      rw [show s.heap.get? a = some oe from ha] at q3
      cases q3
      exact nc v q2
  · have hm : p ∈ X.pn ++ ((a, oe) :: pins) := by
      rcases List.mem_append.mp h with h | h
      · exact List.mem_append.mpr (.inl h)
      · exact List.mem_append.mpr (.inr (List.mem_cons_of_mem _ h))
    obtain ⟨q1, q2, q3⟩ := I.pin p hm
    exact ⟨q1, by rw [upd_ne (hp p h)]; exact q2, q3⟩
theorem unsuiteP {a : Addr} {q : Addr × Obj} (I : Inv (X.suite a (q :: (X.pn ++ pins))) [] σ H s) (ok : X.Ok) : Inv X (q :: pins) σ H s :=
  ⟨ok, I.os, I.bare, I.base, I.loc, I.cell, I.free, I.freeC, fun p hp => I.pin p (by
    rw [List.append_nil]
    show p ∈ q :: (X.pn ++ pins)
    rcases List.mem_append.mp hp with h | h
    · exact List.mem_cons_of_mem _ (List.mem_append.mpr (.inl h))
    · rcases List.mem_cons.mp h with e | h
      · rw [e]; exact List.mem_cons_self
      · exact List.mem_cons_of_mem _ (List.mem_append.mpr (.inr h))), I.hok, I.len⟩
end
/-- the wish of a clause that takes whatever comes, and behind which the error is kept -/
def wKeep (K : PySem.W.Frag) (c : Value) (i : Nat) (ts : Addr → Value → Option Addr → TS) (D : Ends) : WX := fun cls d σ H =>
  PySem.W.exmOne K cls c = some true ∧ ∀ a, H a = none → ts a cls d { nx := fun σ' H' => H' a = none → D.nx (σ'.set i none) (upd H' a (ExT cls d a)), rt := fun _ _ => False, bk := fun _ _ => False, ct := fun _ _ => False } (σ.set i (some (.ref a))) H
section
variable {X : Cx} {x n : Str} {c : Value} {i : Nat} {body suite : List Stmt} {b₀ : Stmt} {np pos pos' : Pos} {tb : WX → TS} {ts : Addr → Value → Option Addr → TS}
/-- what is known of an error that came down: its object where it landed, that it is new, that the frame's state stands -/
structure Down (X : Cx) (pins : List (Addr × Obj)) (a : Addr) (cls : Value) (d : Option Addr) (σ : L2.St) (H : Hp) (s : Shared) : Prop where
  st : Inv X pins σ H s
  ob : ∃ oe vs, s.heap.get? a = some oe ∧ Zc cls d oe ∧ oe.data = .fields vs
  nH : H a = none
  n0 : X.s_0.heap.get? a = none
  nP : ∀ p ∈ X.pn ++ pins, p.1 ≠ a
  nL : a ≠ X.env.locals
  nF : a ∉ X.fs
theorem down {pins : List (Addr × Obj)} {a : Addr} {B : Heap} {cls : Value} {d : Option Addr} {σ : L2.St} {H : Hp} {sI s' : Shared} {h : Heap} (hs : X.stack = X.env :: X.outer) (hf : X.env.frame = some X.env.locals) (hex : X.ex = [])
    (J : Inv X pins σ H sI) (nb : ∀ b o, sI.heap.get? b = some o → b ∉ frs X.stack → B.get? b = some o) (up : sI.heap.UpToSlots h) (os : s'.os = sI.os) (ag : AllBare s'.gens) (na : H a = none)
    (fl : HandSPX.FlyingZ B (X.env :: X.outer) a (Zc cls d) h) : Down X pins a cls d σ H { s' with heap := h } := by
  obtain ⟨oe, vs, he, hz, hd⟩ := fl.there
  have off : a ∉ frs (X.env :: X.outer) := fun hm => by
    obtain ⟨_, o, e, q⟩ := fl.2.2.1.mem hm
    have z : oe = o := Option.some.inj (he.symm.trans e)
    exact q vs (by rw [← z]; exact hd)
  have gone : sI.heap.get? a = none := by
    rcases e : sI.heap.get? a with _ | o
    · rfl
    · have z := nb a o e (by rw [hs]; exact off)
      rw [fl.2.1] at z
      cases z
  refine ⟨J.landed nb fl.1 up os ag, ⟨oe, vs, he, hz, hd⟩, na, ?_, fun p hp z => ?_, fun z => off ?_, fun hm => off ?_⟩
  · rcases e : X.s_0.heap.get? a with _ | o
    · rfl
    · obtain ⟨u, z⟩ := J.base.there a o e (by rw [hex]; exact fun z => nomatch z)
      rw [gone] at z
      cases z
  · have q := (J.pin p hp).1
    rw [z, gone] at q
    cases q
  · exact List.mem_filterMap.mpr ⟨X.env, List.mem_cons_self, by rw [hf, z]⟩
  · obtain ⟨e, he, q⟩ := List.mem_filterMap.mp hm
    exact List.mem_filterMap.mpr ⟨e, List.mem_cons_of_mem _ he, q⟩
/-- a body that ran through a try ran -/
theorem through {pins : List (Addr × Obj)} {xe : Value → Shared → Prop} {D : Ends} {s1 : Shared} (ok : X.Ok) : ∀ {f : Flow}, SP (X.tr (X.pn ++ pins) xe) [] D f s1 → SP X pins D f s1
  | .next, ⟨σ, H, J, q⟩ => ⟨σ, H, J.ofTry ok, q⟩
  | .brk, ⟨σ, H, J, q⟩ => ⟨σ, H, J.ofTry ok, q⟩
  | .cont, ⟨σ, H, J, q⟩ => ⟨σ, H, J.ofTry ok, q⟩
  | .ret _, ⟨v, σ, H, J, r, q⟩ => ⟨v, σ, H, J.ofTry ok, r, q⟩
/-- the suite runs, its name goes, the error is tracked from then on -/
theorem kept {pins : List (Addr × Obj)} {a : Addr} {cls : Value} {d : Option Addr} {σ : L2.St} {H : Hp} {s : Shared} {D : Ends} (ok : X.Ok) (hN : X.N.Nodup) (hi : X.N[i]? = some n) (hln : X.env.kindOf n = some .local)
    (hsu : ∀ (oe : Obj) (pn : List (Addr × Obj)), Zc cls d oe → (∃ vs, oe.data = .fields vs) → PSs (X.suite a ((a, oe) :: pn)) (b₀ :: suite) (ts a cls d)) (W : Down X pins a cls d σ H s)
    (h : ts a cls d { nx := fun σ' H' => H' a = none → D.nx (σ'.set i none) (upd H' a (ExT cls d a)), rt := fun _ _ => False, bk := fun _ _ => False, ct := fun _ _ => False } (σ.set i (some (.ref a))) H)
    {R : Flow → Shared → Prop} {E1 E2 : Value → Shared → Prop} (hR : ∀ s6, wpAny (model X.prog X.w) X.A (do bindName X.env n .none; unbindBehindTheSuite X.env n pos') (fun _ s7 => SP X pins D .next s7) X.xe s6 → R .next s6) :
    wpAny (model X.prog X.w) (X.A.mark (some (.ref a))) (storeName X.env n (.ref a)) (fun _ s5 => wpAny (model X.prog X.w) (X.A.mark (some (.ref a))) (execs (b₀ :: suite) X.env) R E2 s5) E1 s := by
  obtain ⟨oe, vs, he, hz, hd⟩ := W.ob
  have S := W.st.suite he hd W.nH W.nL W.nF
  refine store_ok (X := X.suite a ((a, oe) :: (X.pn ++ pins))) (v := .ref a) S hN hi (.inl hln) rfl (fun s5 S5 => ?_) (.inr hln)
  refine wpAny_mono ((hsu oe (X.pn ++ pins) hz ⟨_, hd⟩).run [] s5 _ H _ S5 h) (fun f s6 z => ?_) fun _ _ z => z.elim
  match f, z with
  | .next, ⟨σ6, H6, S6, q6⟩ =>
    refine hR s6 (gone_ok (unsuiteP S6 ok) hN hi hln fun s7 J7 => ?_)
    obtain ⟨p1, p2, _⟩ := J7.pin (a, oe) (List.mem_append.mpr (.inr List.mem_cons_self))
    exact ⟨_, _, tracked J7 W.n0 W.nP (exT_ok p1 hz hd), q6 p2⟩
  | .brk, ⟨_, _, _, q⟩ => exact q.elim
  | .cont, ⟨_, _, _, q⟩ => exact q.elim
  | .ret _, ⟨_, _, _, _, _, q⟩ => exact q.elim
theorem ps_try_keep (hs : X.stack = X.env :: X.outer) (hf : X.env.frame = some X.env.locals) (hex : X.ex = []) (hN : X.N.Nodup) (hi : X.N[i]? = some n) (hln : X.env.kindOf n = some .local) (hc : Names X x c)
    (hb : ∀ (W : WX) (pn : List (Addr × Obj)) (xe : Value → Shared → Prop), Takes (X.tr pn xe) W → PassesOwn (model X.prog X.w) X.A X.env xe → PSs (X.tr pn xe) body (tb W))
    (hsu : ∀ (a : Addr) (oe : Obj) (cls : Value) (d : Option Addr) (pn : List (Addr × Obj)), Zc cls d oe → (∃ vs, oe.data = .fields vs) → PSs (X.suite a ((a, oe) :: pn)) (b₀ :: suite) (ts a cls d)) :
    PS X (.Try body [.ExceptHandler (some (.Name x np)) (some n) (b₀ :: suite) pos'] [] [] pos) (fun D σ H => tb (wKeep X.K c i ts D) D σ H) := by
  refine ⟨fun pins s σ H D I h => wpAny_Try_except ?_⟩
  have hfr : X.A.frames = some (X.env :: X.outer) := I.ok.frames.trans (by rw [hs])
  refine wpAny_mono ((hb (wKeep X.K c i ts D) (X.pn ++ pins) _ (fun u s' xx => ?_) PassesOwn.looking).run [] s σ H D (I.toTry _) h) (fun f s1 z => ?_) (fun _ _ z => z)
  rotate_left
  · have z' := through I.ok z
    match f, z' with
    | .next, ⟨_, _, J, q⟩ => exact wpAny_execs_nil ⟨_, _, J, q⟩
    | .brk, z' => exact z'
    | .cont, z' => exact z'
    | .ret _, z' => exact z'
  · obtain ⟨a, B, sI, _, σ', H', cls, d, rfl, J', nb, up, sky, na, os, ag, hex1, hyes⟩ := xx
    have J : Inv X pins σ' H' sI := J'.ofTry I.ok
    rw [show (X.tr (X.pn ++ pins) _).stack = X.env :: X.outer from hs] at sky
    refine Sky.land Zc.steady hfr hf sky fun h3 fl3 up3 => ?_
    have W3 := down hs hf hex J nb (up.trans up3) os ag na fl3
    obtain ⟨oe, vs, he, hz, hd⟩ := W3.ob
    have S3 := W3.st.suite he hd na W3.nL W3.nF
    refine wpAny_handleBy_cons (codeAny_handlers_test ?_) fun q => nomatch q
    have look : PySem.W.Looks (model X.prog X.w) h3 (typeOf (.ref a)) cls := fun A Q E s k q => wpAny_typeOf_ref (k _ _ he) (by rw [hz.1]; exact q)
    have name : ∀ {Q : Value → Shared → Prop} {E : Value → Shared → Prop}, Q c { s' with heap := h3 } → wpAny (model X.prog X.w) (X.A.mark (some (.ref a))) (eval (.Name x np) X.env) Q E { s' with heap := h3 } := fun q => by
      rcases hc with ⟨k1, k2, k3 | ⟨k3, k4, k5⟩⟩
      · exact ld_glob S3 k1 k3 q k2
      · exact ld_blt S3 k1 k3 k4 q k5 k2
    refine name ((PySem.W.exm_one W3.st.kIn look hex1).here (codeAny_handlers_suite_as (HandSPX.lands_againZ fl3 fun h4 fl4 up4 => ?_)))
    exact kept I.ok hN hi hln (hsu a · cls d ·) (down hs hf hex J nb ((up.trans up3).trans up4) os ag na fl4) (hyes a na) (fun _ z => z)
end
/-! ### isinstance of such -/
section
variable {X : Cx}
/-- the class of such an error is known to be read rightly -/
theorem exT_at {pins : List (Addr × Obj)} {σ : L2.St} {H : Hp} {s : Shared} {a D : Addr} (I : Inv X pins σ H s) (ha : H a = some (ExT (.ref D) none a)) : ∃ oe, PySem.W.InstAt s.heap a oe D none := by
  obtain ⟨⟨oe, vs, he, hz, hd⟩, _⟩ := I.hok a _ ha
  refine ⟨oe, ?_⟩
  obtain ⟨oc, od, oda, osl⟩ := oe
  obtain ⟨h1, h2⟩ := hz
  dsimp only at h1 h2 hd
  subst h1 h2 hd
  exact ⟨he, rfl, rfl, trivial⟩
def rIsX (K : PySem.W.Frag) : List V → Hp → VK → Prop := fun xs H Q => ∃ (a D : Addr) (c : V) (u : Value) (b : Bool), xs = [.ref a, c] ∧ ExcC K D ∧ H a = some (ExT (.ref D) none a) ∧ ClsV c u ∧ PySem.W.kitOne K (.ref D) u = some b ∧ Q (.bl b) H
theorem call_isX : CallR X (.builtin "isinstance") (rIsX X.K) := by
  intro pins s σ H xs us Q I r h
  obtain ⟨a, D, c, u, b, rfl, C, ha, k, e, q⟩ := h
  obtain ⟨u1, u2, rfl, r1, r2⟩ := vals2 r
  have e2 := k.eq r2
  subst e2
  cases (show u1 = Value.ref a from r1)
  obtain ⟨oe, J⟩ := exT_at I ha
  exact PySem.W.kia_one (PySem.W.handS_kitx_exc C.hg C.hk C.hs C.hd C.ha C.hn C.ht C.hm) I.kIn J e (fun z => nomatch z) fun tk => ⟨.bl b, H, I.tok tk, rfl, q⟩
def rIsXT (K : PySem.W.Frag) : List V → Hp → VK → Prop := fun xs H Q => ∃ (a D tp : Addr) (cs : List V) (us : List Value) (b : Bool), xs = [.ref a, .ref tp] ∧ ExcC K D ∧ H a = some (ExT (.ref D) none a) ∧ H tp = some (.tup cs) ∧ Paired ClsV cs us ∧ PySem.W.kitAny K (.ref D) us = some b ∧ Q (.bl b) H
theorem call_isXT : CallR X (.builtin "isinstance") (rIsXT X.K) := by
  intro pins s σ H xs us Q I r h
  obtain ⟨a, D, tp, cs, ws, b, rfl, C, ha, hT, k, e, q⟩ := h
  obtain ⟨u1, u2, rfl, r1, r2⟩ := vals2 r
  cases (show u2 = Value.ref tp from r2)
  cases (show u1 = Value.ref a from r1)
  obtain ⟨oe, J⟩ := exT_at I ha
  obtain ⟨_, its, rv, o, h1, h2, n, h3⟩ := (show ObjOk X.prog X.w H s.heap tp (.tup cs) from I.hok tp _ hT)
  have e3 := ClsV.all k rv
  subst e3
  obtain ⟨oc, od, dt, sl⟩ := o
  simp only at h2 h3
  subst h2 h3
  exact PySem.W.kia_tup (PySem.W.handS_kitx_exc C.hg C.hk C.hs C.hd C.ha C.hn C.ht C.hm) I.kIn J h1 e (fun z => nomatch z) fun tk => ⟨.bl b, H, I.tok tk, rfl, q⟩
end
end Lk
end
section
set_option maxRecDepth 100000
set_option maxHeartbeats 2000000
/-! is_ring of anything, befores, before: what is told. -/
namespace Lk
open PySem PySem.Spec PyProof.Rows L2
theorem depthAll_ints : ∀ l : List Nat, PyData.depthAll (l.map dN) = 0
  | [] => by simp [PyData.depthAll]
  | n :: l => by simp [PyData.depthAll, PyData.depth, depthAll_ints l]
theorem layAll_ints : ∀ l : List Nat, PyData.canLayAll0 (l.map dN) = true
  | [] => by simp [PyData.canLayAll0]
  | n :: l => by simp [PyData.canLayAll0, PyData.canLay0, layAll_ints l]
theorem shaped_ints (l : List Nat) : SeqAt.shaped (.list (l.map dN)) = true := by
  unfold SeqAt.shaped
  rw [Bool.and_eq_true]
  refine ⟨by simp [PyData.canLay0, layAll_ints l], decide_eq_true ?_⟩
  simp only [PyData.depth, depthAll_ints]
  decide
theorem shaped_none : SeqAt.shaped .none = true := by
  unfold SeqAt.shaped
  rw [Bool.and_eq_true]
  exact ⟨by simp [PyData.canLay0], decide_eq_true (by simp [PyData.depth])⟩
theorem eqv_list_none (ds : List PyData) : PyData.eqv (.list ds) .none = false := by simp [PyData.eqv]
theorem eqv_ints (l m : List Nat) : PyData.eqv (.list (l.map dN)) (.list (m.map dN)) = decide (l = m) := by
  have key : ∀ l m : List Nat, PyData.eqvAll (l.map dN) (m.map dN) = decide (l = m) := by
    intro l
    induction l with
    | nil => intro m; cases m <;> simp [PyData.eqvAll]
    | cons a l ih =>
      intro m
      cases m with
      | nil => simp [PyData.eqvAll]
      | cons b m =>
        simp only [List.map_cons, PyData.eqvAll, PyData.eqv, ih]
        by_cases e : a = b
        · subst e
          simp
        · have e2 : ¬ ((a : Int) = (b : Int)) := by omega
          simp [e, e2]
  simp only [PyData.eqv, key]
mutual
/-- data without dicts, as the hand layer tells it -/
theorem Th.dp {K : PySem.W.Frag} {H : Hp} : ∀ (d : PyData) {v : V}, d.canLay0 = true → Th H v d → Dp K H v d
  | .none, _, _, h => by cases h; exact .non
  | .bool b, _, _, h => by cases h; exact .bl b
  | .int i, _, _, h => by cases h; exact .int i
  | .str x, _, _, h => by cases h; exact .str x
  | .list ds, _, n, h => by
    cases h with
    | lst e m => exact .lst (SqL.of e) (ThAll.dp ds (by simpa [PyData.canLay0] using n) m)
  | .tuple ds, _, n, h => by
    cases h with
    | tup e m => exact .tup (SqT.of e) (ThAll.dp ds (by simpa [PyData.canLay0] using n) m)
  | .dict kvs, _, n, _ => by simp [PyData.canLay0] at n
theorem ThAll.dp {K : PySem.W.Frag} {H : Hp} : ∀ (ds : List PyData) {vs : List V}, PyData.canLayAll0 ds = true → ThAll H vs ds → DpAll K H vs ds
  | [], _, _, h => by cases h; exact .nil
  | d :: ds, _, n, h => by
    have n2 : d.canLay0 = true ∧ PyData.canLayAll0 ds = true := by simpa [PyData.canLayAll0] using n
    cases h with
    | cons a b => exact .cons (Th.dp d n2.1 a) (ThAll.dp ds n2.2 b)
end
theorem dp_ints {K : PySem.W.Frag} {H : Hp} {p : Addr} {l : List Nat} (e : H p = some (.lst (l.map vN))) : Dp K H (.ref p) (.list (l.map dN)) :=
  .lst (SqL.of e) (ThAll.dp _ (layAll_ints l) (ints_nat l))
def ringD (c : Cd) (e : PyData) : Prop := ∃ a k, a < c.2.length ∧ RingK c a k ∧ e = .list ((ringL c a k).map dN)
def spIsRing (C : Addr) : Sp := fun vs H Q E => ∃ v u d e, vs = [v, u] ∧ Th H v d ∧ Th H u e ∧ (∀ ds, e = .list ds → ds.length ≤ 100000) ∧ (isCd d = false → ∀ H', Same H H' → E (.ref C) none H') ∧
  (∀ c, d = cdD c → CdOk c → ∀ b H', (b = true ↔ ringD c e) → Same H H' → Q (.bl b) H')
/-- the coder ahead of whose step at k its word wasn't known -/
def prv (c : Cd) (k : Nat) : Cd := (k, c.2.set k (len c k - 1))
def bef (c : Cd) : List Nat := (List.range c.2.length).filter fun i => decide (go c i = c.1) && decide (0 < len c i)
theorem bef_le (c : Cd) : (bef c).length ≤ c.2.length := by
  unfold bef
  exact Nat.le_trans (List.length_filter_le _ _) (by rw [List.length_range]; exact Nat.le_refl _)
theorem bef_mem {c : Cd} {k : Nat} : k ∈ bef c ↔ k < c.2.length ∧ go c k = c.1 ∧ 0 < len c k := by
  unfold bef
  rw [List.mem_filter, List.mem_range, Bool.and_eq_true, decide_eq_true_eq, decide_eq_true_eq]
theorem prv_ok {c : Cd} (h : CdOk c) {k : Nat} (hk : k < c.2.length) : CdOk (prv c k) := by
  refine ⟨?_, ?_⟩
  · show k < (c.2.set k _).length
    rw [List.length_set]
    exact hk
  · show (c.2.set k _).length ≤ 12
    rw [List.length_set]
    exact h.2
def spTaken : Sp := fun vs H Q _ => ∃ (v : V) (c : Cd) (k : Nat), vs = [v, .int (k : Int)] ∧ Cat H v c ∧ CdOk c ∧ k < c.2.length ∧ 0 < len c k ∧ ∀ v' H', Same H H' → Cat H' v' (prv c k) → Q v' H'
def toldBefores (c : Cd) (Q : VK) (H : Hp) : Prop := ∀ p H' ws, H p = none → Same H H' → H' p = some (.lst ws) → ThAll H' ws ((bef c).map fun k => cdD (prv c k)) → Q (.ref p) H'
/-- the first of these that is free, or None -/
def BefV (c : Cd) (H' : Hp) (v : V) : Prop := (v = .non ∧ ∀ k, k ∈ bef c → ¬ Free (prv c k)) ∨ ∃ (i k : Nat), (bef c)[i]? = some k ∧ Free (prv c k) ∧ (∀ (j m : Nat), j < i → (bef c)[j]? = some m → ¬ Free (prv c m)) ∧ Cat H' v (prv c k)
def spBefore (C1 C2 : Addr) : Sp := fun vs H Q E => ∃ v d, vs = [v] ∧ Th H v d ∧ (isCd d = false → ∀ H', Same H H' → E (.ref C1) none H') ∧
  (∀ c, d = cdD c → CdOk c → (¬ Free c → ∀ H', Same H H' → E (.ref C2) none H') ∧ (Free c → ∀ v' H', Same H H' → BefV c H' v' → Q v' H'))
end Lk
end
section
set_option maxRecDepth 100000
set_option maxHeartbeats 4000000
/-! tuple * int, of any small number. -/
namespace Lk
open PySem PySem.Spec PyProof.Rows L2
theorem tup_mul_one (l : Addr) (items : Array Value) (n : Nat) (dd : Option Addr) (sl : Array (Option Value)) (u : Tok) :
    Meets (Builtin.«tuple.__mul__» ⟨[.ref l, .int 1 u], []⟩) (fun _ R s => s.heap.get? l = some { cls := .type "tuple", dict := dd, data := .seq items n, slots := sl } ∧ R (.ok (.ret (Value.ref l))) s) :=
  .of_wp fun prog w A R s h => by
    obtain ⟨hp, g, d, tk, os⟩ := s
    obtain ⟨hl, h⟩ := h
    have f1 := AutoSeq1.idx_int
    wp_walk using wpAny_loadPart' hl
    repeat (first
      | (refine wpAny_ite_false (decide_eq_false (by decide)) ?_; wp_walk using wpAny_loadPart' hl)
      | (refine wpAny_ite_true (decide_eq_true (by simp)) ?_; wp_walk using wpAny_loadPart' hl))
    exact ⟨_, rfl, h⟩
theorem tup_mul_none (l : Addr) (items : Array Value) (n : Nat) (dd : Option Addr) (sl : Array (Option Value)) (x : Int) (u : Tok) (h0 : x ≤ 0) (hb : -(2 ^ 63) ≤ x) (hi : items.isEmpty = false) :
    Meets (Builtin.«tuple.__mul__» ⟨[.ref l, .int x u], []⟩) (fun _ R s => s.heap.get? l = some { cls := .type "tuple", dict := dd, data := .seq items n, slots := sl } ∧
      R (.ok (.ret (Value.ref s.heap.objs.size))) { s with heap := s.heap.push { cls := Value.type "tuple", data := Data.seq #[] } }) :=
  .of_wp fun prog w A R s h => by
    obtain ⟨hp, g, d, tk, os⟩ := s
    obtain ⟨hl, h⟩ := h
    have f1 := AutoSeq1.idx_int
    have c0 : (decide (x < -(2 ^ 63)) || decide (x ≥ 2 ^ 63)) = false := by
      rw [decide_eq_false (by omega), decide_eq_false (by omega)]
      rfl
    have c1 : (items.isEmpty || x == 1) = false := by
      rw [hi, Bool.false_or]
      exact beq_eq_false_iff_ne.mpr (by omega)
    have c2 : (decide (x ≤ 0) || items.isEmpty) = true := by
      rw [decide_eq_true h0]
      rfl
    wp_walk using wpAny_loadPart' hl
    repeat (first
      | (refine wpAny_ite_false (decide_eq_false (by rw [c0]; exact Bool.false_ne_true)) ?_; wp_walk using wpAny_loadPart' hl)
      | (refine wpAny_ite_false (decide_eq_false (by rw [c1]; exact Bool.false_ne_true)) ?_; wp_walk using wpAny_loadPart' hl)
      | (refine wpAny_ite_true (decide_eq_true (by rw [c2])) ?_; wp_walk using wpAny_loadPart' hl))
    exact ⟨_, rfl, h⟩
/-- xs * k, new or not -/
def rMulT (K : PySem.W.Frag) : R2 := fun x y H Q => ∃ l k xs, x = .ref l ∧ y = .int k ∧ SqT K H l xs ∧ xs ≠ [] ∧ -1000 ≤ k ∧ k ≤ 1000 ∧ xs.length ≤ 1000 ∧ ∀ p H', Same H H' → (SqT K H' p (List.replicate k.toNat xs).flatten) → (H' p = some (.tup (List.replicate k.toNat xs).flatten) ∨ k = 1 ∧ p = l) → Q (.ref p) H'
theorem op_mulT {X : Cx} : OpR X (binaryOp .Mult) (rMulT X.K) := by
  intro pins s σ H x y v u Q I rx ry h
  obtain ⟨l, k, xs, rfl, rfl, hT, hne, h1, h2, hz, q⟩ := h
  by_cases g2 : 2 ≤ k
  · exact op_repT pins s σ H _ _ v u Q I rx ry ⟨l, k, xs, rfl, rfl, hT, hne, g2, h2, hz, fun p hp => q p _ (same_new hp) (.inl (.inl upd_same)) (.inl upd_same)⟩
  · cases rx
    obtain ⟨t, rfl⟩ := ry
    obtain ⟨its, r, ⟨⟨cls, dd, data, sl⟩, ho, hc, n, hd⟩, hs⟩ := I.tuple hT
    simp only at hc hd
    subst hc hd
    have hi : its.toArray.isEmpty = false := by
      cases its with
      | nil =>
        cases r
        exact absurd rfl hne
      | cons a b => rfl
    by_cases g1 : k = 1
    · subst g1
      refine wpAny_binaryOp_repeat_ref (T := "tuple") (U := "int") (by decide) ⟨_, ho, rfl⟩ (fun s' => typeIs_int s' 1 t) noFill_tuple_mul PySem.F.fills_int_mul PySem.F.slot_int_rmul repeat_tuple PySem.F.slot_int_index.lookup
        (call_meets PySem.F.slot_int_rmul (typeIs_int s 1 t) PySem.F.entry_int_rmul (PySem.F.args_int_rmul_2 _ _) (int_rmul_tuple 1 t l its.toArray n dd sl)
          ⟨ho, rfl, ⟨_, ho, rfl⟩, call_meets PySem.F.slot_tuple_mul ⟨_, ho, rfl⟩ PySem.F.entry_tuple_mul (PySem.F.args_tuple_mul_2 _ _) (tup_mul_one l its.toArray n dd sl t) ⟨ho, ?_⟩⟩)
      refine ⟨.ref l, H, I, rfl, q l H (Same.refl H) ?_ (.inr ⟨rfl, rfl⟩)⟩
      rw [show (List.replicate (1 : Int).toNat xs).flatten = xs by simp]
      exact hT
    · have g0 : k ≤ 0 := by omega
      refine wpAny_binaryOp_repeat_ref (T := "tuple") (U := "int") (by decide) ⟨_, ho, rfl⟩ (fun s' => typeIs_int s' k t) noFill_tuple_mul PySem.F.fills_int_mul PySem.F.slot_int_rmul repeat_tuple PySem.F.slot_int_index.lookup
        (call_meets PySem.F.slot_int_rmul (typeIs_int s k t) PySem.F.entry_int_rmul (PySem.F.args_int_rmul_2 _ _) (int_rmul_tuple k t l its.toArray n dd sl)
          ⟨ho, rfl, ⟨_, ho, rfl⟩, call_meets PySem.F.slot_tuple_mul ⟨_, ho, rfl⟩ PySem.F.entry_tuple_mul (PySem.F.args_tuple_mul_2 _ _) (tup_mul_none l its.toArray n dd sl k t g0 (by omega) hi) ⟨ho, ?_⟩⟩)
      have e0 : (List.replicate k.toNat xs).flatten = [] := by rw [show k.toNat = 0 by omega]; rfl
      have hf : H s.heap.objs.size = none := I.hok.fresh (Nat.le_refl _)
      refine ⟨.ref s.heap.objs.size, upd H s.heap.objs.size (.tup []), I.laid (t' := s.toks) (o := .tup []) (fun b ob q => Heap.get?_push_of_some _ q) (Nat.le_refl _) ?_, rfl, q _ _ (same_new hf) ?_ ?_⟩
      · exact ⟨by show 0 ≤ sizeLine; exact Nat.zero_le _, [], .nil, IsTup.new _ _⟩
      · rw [e0]
        exact .inl (.inl upd_same)
      · rw [e0]
        exact .inl upd_same
/-! ### tuples that were made in the run -/
def rCutT : V → Option Int → Option Int → Hp → VK → Prop := fun x lo hi H Q => ∃ a xs, x = .ref a ∧ H a = some (.tup xs) ∧ ∀ b H', Same H H' → H' b = some (.tup (cutV xs lo hi)) → Q (.ref b) H'
theorem sl_cutT {X : Cx} : SlR X rCutT := by
  intro pins s σ H x v vl vu lo hi sl Q I rx hs pl pu h
  obtain ⟨a, xs, rfl, hx, q⟩ := h
  refine sl_tupA pins s σ H _ v vl vu _ _ sl Q I rx hs pl pu ⟨a, xs, rfl, SqT.of hx, fun z => ?_, fun z p hp => ?_⟩
  · refine q a H (Same.refl H) ?_
    have e : cutV xs lo hi = xs := by
      unfold cutV
      rw [z.1, z.2, List.drop_zero, Nat.sub_zero, List.take_length]
    rw [e]
    exact hx
  · exact q p _ (same_new hp) upd_same
def rAddT : R2 := fun x y H Q => ∃ a b xs ys, x = .ref a ∧ y = .ref b ∧ H a = some (.tup xs) ∧ H b = some (.tup ys) ∧ xs.length + ys.length ≤ sizeLine ∧ ∀ p H', Same H H' → H' p = some (.tup (xs ++ ys)) → Q (.ref p) H'
theorem op_addT {X : Cx} : OpR X (binaryOp .Add) rAddT := by
  intro pins s σ H x y v u Q I rx ry h
  obtain ⟨a, b, xs, ys, rfl, rfl, ha, hb, hl, q⟩ := h
  refine op_catA pins s σ H _ _ v u Q I rx ry ⟨a, b, xs, ys, rfl, rfl, SqT.of ha, SqT.of hb, hl, fun e => ?_, fun _ e => ?_, fun _ _ p hp => q p _ (same_new hp) upd_same⟩
  · subst e
    exact q b H (Same.refl H) hb
  · subst e
    exact q a H (Same.refl H) (by rw [List.append_nil]; exact ha)
def rRepTT : R2 := fun x y H Q => ∃ l k xs, x = .ref l ∧ y = .int k ∧ H l = some (.tup xs) ∧ xs ≠ [] ∧ -1000 ≤ k ∧ k ≤ 1000 ∧ xs.length ≤ 1000 ∧ ∀ p H', Same H H' → H' p = some (.tup (List.replicate k.toNat xs).flatten) → Q (.ref p) H'
theorem op_repTT {X : Cx} : OpR X (binaryOp .Mult) rRepTT := by
  intro pins s σ H x y v u Q I rx ry h
  obtain ⟨l, k, xs, rfl, rfl, hT, hne, h1, h2, hz, q⟩ := h
  refine op_mulT pins s σ H _ _ v u Q I rx ry ⟨l, k, xs, rfl, rfl, SqT.of hT, hne, h1, h2, hz, fun p H' s1 _ z => q p H' s1 ?_⟩
  rcases z with z | ⟨rfl, rfl⟩
  · exact z
  · rw [show (List.replicate (1 : Int).toNat xs).flatten = xs by simp]
    exact s1 _ _ hT
end Lk
end
section
set_option maxRecDepth 100000
set_option maxHeartbeats 2000000
namespace Lk
open PySem PySem.Spec PyProof.Rows L2
/-! ### xs.count(b), a list of truths -/
def eqB (k : Bool) (v : Value) : Bool := match v with
  | .bool n => n == k
  | _ => false
theorem bools_of : ∀ {bs : List Bool} {us : List Value}, Vals (bs.map V.bl) us → us = bs.map Value.bool
  | [], _, r => by cases r; rfl
  | b :: bs, _, r => by
    cases r with
    | cons r1 r2 =>
      rw [bools_of r2]
      cases (show _ = Value.bool b from r1)
      rfl
theorem eqB_count (k : Bool) : ∀ bs : List Bool, (bs.map Value.bool).countP (eqB k) = bs.count k
  | [] => rfl
  | b :: bs => by
    rw [List.map_cons, List.countP_cons, List.count_cons, eqB_count k bs]
    rfl
section
variable {X : Cx}
def rCntB (K : PySem.W.Frag) : V → List V → Hp → VK → Prop := fun x xs H Q => ∃ (p : Addr) (bs : List Bool) (k : Bool), x = .ref p ∧ xs = [.bl k] ∧ SqL K H p (bs.map V.bl) ∧ Q (.int (bs.count k : Nat)) H
theorem mt_lcountB : MtR X "list.count" (rCntB X.K) := by
  intro pins s σ H x xs v us Q I rx rxs h
  obtain ⟨p, bs, k, rfl, rfl, hs, q⟩ := h
  cases rx
  obtain ⟨u, rfl, ru⟩ := rxs.one
  cases (show u = Value.bool k from ru)
  obtain ⟨its, rv, ⟨⟨cls, dd, data, sl⟩, n, ho, hc, hdn, hd⟩, hlen⟩ := I.list hs
  simp only at hc hd
  subst hc hd
  have hi := bools_of rv
  subst hi
  refine call_meets PySem.F.slot_list_count ⟨_, ho, rfl⟩ PySem.F.entry_list_count (PySem.F.args_list_count_2 _ _)
    (SeqAt.list_countAt p (bs.map Value.bool).toArray n dd sl (.bool k) (eqB k)) ⟨ho, fun y hy => ?_, ?_⟩
  · have hy' : y ∈ bs.map Value.bool := by simpa using hy
    obtain ⟨b, _, rfl⟩ := List.mem_map.mp hy'
    exact SeqAt.EqAt.bool_bool b k
  · refine ⟨.int (bs.count k : Nat), H, I.tok _, ⟨s.toks, ?_⟩, q⟩
    show Value.int (((bs.map Value.bool).toArray.toList.countP (eqB k) : Nat) : Int) s.toks = Value.int ((bs.count k : Nat) : Int) s.toks
    rw [show (bs.map Value.bool).toArray.toList = bs.map Value.bool from rfl, eqB_count]
end
theorem kit_self {K : PySem.W.Frag} (C : Addr) : PySem.W.kitOne K (.ref C) (.ref C) = some true := by
  unfold PySem.W.kitOne
  rw [if_pos (beq_self_eq_true _)]
/-- isinstance(caught, x), x a class of the program's own; caught in slot 0 -/
def tIsG (K : PySem.W.Frag) (C : Addr) : TE := fun σ H Q => ∃ a D b, σ[0]? = some (some (.ref a)) ∧ ExcC K D ∧ H a = some (ExT (.ref D) none a) ∧ PySem.W.kitOne K (.ref D) (.ref C) = some b ∧ Q (.bl b) H
theorem pe_isG {X : Cx} {x : Str} {C : Addr} {p p1 p2 pos : Pos} (mi : X.mg "isinstance" = none) (g : X.mg x = some (.ref C)) (hi : Gl X "isinstance") (hg : Gl X x) (hN : X.N[0]? = some ("caught" : Str)) (hv : Vis X.env.scope ("caught" : Str)) (hd : (x == ("__debug__" : Str)) = false := by decide)
    (hs1 : starEach [Expr.Name "caught" p1, Expr.Name x p2] X.env = (false, eval (.Name "caught" p1) X.env) :: starEach [Expr.Name x p2] X.env := by rfl) (hs2 : starEach [Expr.Name x p2] X.env = (false, eval (.Name x p2) X.env) :: starEach [] X.env := by rfl) :
    PE X (.Call (.Name "isinstance" p) [.Name "caught" p1, .Name x p2] [] pos) (tIsG X.K C) := by
  have h : PE X (.Call (.Name "isinstance" p) [.Name "caught" p1, .Name x p2] [] pos) _ := pe_callB call_isX hi mi (by decide +kernel) (pa_cons (pv 0 hN hv) (pa_cons (pe_glob (v := .ref C) hg g rfl hd) pa_nil))
  refine ⟨fun pins s σ H Q I q => h.run pins s σ H Q I ?_⟩
  obtain ⟨a, D, b, e, c, ha, k, q⟩ := q
  exact ⟨.ref a, e, a, D, .ref C, _, b, rfl, c, ha, .own C, k, q⟩
/-- x names a class that the class at CL is under or not -/
def IsB (K : PySem.W.Frag) (mg : Str → Option Value) (CL : Addr) (x : Str) (b : Bool) : Prop := ∃ C, mg x = some (.ref C) ∧ PySem.W.kitOne K (.ref CL) (.ref C) = some b
/-- the classes of errors, seen from the one at CL -/
structure Errs (K : PySem.W.Frag) (mg : Str → Option Value) (CL : Addr) (b1 b2 b3 b4 b5 b6 b7 : Bool) : Prop where
  C : ExcC K CL
  ve : mg "ValueError" = none
  yes : PySem.W.kitOne K (.ref CL) (.type "ValueError") = some true
  iso : mg "isinstance" = none
  e1 : IsB K mg CL "NoKnown" b1
  e2 : IsB K mg CL "NoText" b2
  e3 : IsB K mg CL "NoPairs" b3
  e4 : IsB K mg CL "NoLoop" b4
  e5 : IsB K mg CL "NoCoder" b5
  e6 : IsB K mg CL "NoCount" b6
  e7 : IsB K mg CL "NotRound" b7
  f1 : IsB K mg CL "NoCounts" false
  f2 : IsB K mg CL "NoLog" false
  f3 : IsB K mg CL "NoPlace" false
  f4 : IsB K mg CL "NoRow" false
  f5 : IsB K mg CL "NoSign" false
  f6 : IsB K mg CL "NoTree" false
  f7 : IsB K mg CL "NoWord" false
  f8 : IsB K mg CL "NotLike" false
  f9 : IsB K mg CL "Nothing" false
def OneHot (b1 b2 b3 b4 b5 b6 b7 : Bool) : Prop := (b1 = true ∧ b2 = false ∧ b3 = false ∧ b4 = false ∧ b5 = false ∧ b6 = false ∧ b7 = false) ∨ (b1 = false ∧ b2 = true ∧ b3 = false ∧ b4 = false ∧ b5 = false ∧ b6 = false ∧ b7 = false) ∨ (b1 = false ∧ b2 = false ∧ b3 = true ∧ b4 = false ∧ b5 = false ∧ b6 = false ∧ b7 = false) ∨ (b1 = false ∧ b2 = false ∧ b3 = false ∧ b4 = true ∧ b5 = false ∧ b6 = false ∧ b7 = false) ∨ (b1 = false ∧ b2 = false ∧ b3 = false ∧ b4 = false ∧ b5 = true ∧ b6 = false ∧ b7 = false) ∨ (b1 = false ∧ b2 = false ∧ b3 = false ∧ b4 = false ∧ b5 = false ∧ b6 = true ∧ b7 = false) ∨ (b1 = false ∧ b2 = false ∧ b3 = false ∧ b4 = false ∧ b5 = false ∧ b6 = false ∧ b7 = true)
/-- the name by which the law knows it -/
def clsName (b1 b2 b3 b4 b5 b6 b7 : Bool) : Str := if b1 then "NoKnown" else if b2 then "NoText" else if b3 then "NoPairs" else if b4 then "NoLoop" else if b5 then "NoCoder" else if b6 then "NoCount" else if b7 then "NotRound" else "odd"
def spClass (CL : Addr) (nm : Str) : Sp := fun vs H Q _ => ∃ a, vs = [.ref a] ∧ H a = some (ExT (.ref CL) none a) ∧ ∀ H', Same H H' → Q (.str nm) H'
end Lk
end
section
set_option maxRecDepth 100000
set_option maxHeartbeats 2000000
/-! The law's bag and what it draws: what is promised. -/
namespace Lk
open PySem PySem.Spec PyProof.Rows L2
theorem but_of {a : Addr} {H H' : Hp} (h : Same H H') : SameBut a H H' := fun b o _ e => h b o e
def bagO (b : Int × Int × Int) : HO := .lst [.int b.1, .int b.2.1, .int b.2.2]
def Bag (H : Hp) (a : Addr) : Prop := ∃ b, H a = some (bagO b)
def spBag : Sp := fun vs H Q _ => ∃ c : Int, vs = [.int c] ∧ ∀ p b, H p = none → Q (.ref p) (upd H p (bagO b))
def spPick : Sp := fun vs H Q _ => ∃ (a : Addr) (m : Int), vs = [.ref a, .int m] ∧ Bag H a ∧ 0 < m ∧ m ≤ 10 ^ 40 ∧ ∀ v H', 0 ≤ v → v < m → Bag H' a → SameBut a H H' → Q (.int v) H'
theorem pick_div {i j : Int} (h0 : 0 < j) (h1 : j ≤ 10 ^ 40) : CDivW i j := wide_div h0 (b := 200) (by
  have e : (2 : Nat) ^ 200 > 10 ^ 40 := by decide +kernel
  omega) (by decide) (by decide)
def spCoder : Sp := fun vs H Q _ => ∃ (a : Addr) (m : Int), vs = [.ref a, .int m] ∧ Bag H a ∧ 1 ≤ m ∧ m ≤ 12 ∧
  ∀ v c H', CdOk c → (c.2.length : Int) ≤ m → (∀ n ∈ c.2, n < 10 ^ 29) → Bag H' a → SameBut a H H' → Cat H' v c → Q v H'
theorem Bag.ne {H : Hp} {a p : Addr} (h : Bag H a) (n : H p = none) : a ≠ p := by
  obtain ⟨b, e⟩ := h
  exact ne_of_none e n
theorem Bag.same {H H' : Hp} {a : Addr} (h : Bag H a) (s : Same H H') : Bag H' a := by
  obtain ⟨b, e⟩ := h
  exact ⟨b, s _ _ e⟩
/-- the classes that are known by these names -/
def spCls (L : List (Addr × Str)) : Sp := fun vs H Q _ => ∃ a CL nm, vs = [.ref a] ∧ (CL, nm) ∈ L ∧ H a = some (ExT (.ref CL) none a) ∧ ∀ H', Same H H' → Q (.str nm) H'
theorem fnOk_nil {P : Program} {w : World} {K : PySem.W.Frag} {mg : Str → Option Value} {base : Heap} {k : Nat} {f : Addr} {fd : FuncData} : FnOk P w K mg base CX0 k f fd ["caught"] (spCls []) :=
  ⟨fun _ _ _ _ h => (by obtain ⟨_, _, _, _, m, _⟩ := h; cases m), fun _ _ _ _ _ _ _ _ _ _ _ _ _ h => (by obtain ⟨_, _, _, _, m, _⟩ := h; cases m)⟩
theorem fnOk_cls {P : Program} {w : World} {K : PySem.W.Frag} {mg : Str → Option Value} {base : Heap} {k : Nat} {f CL : Addr} {fd : FuncData} {nm : Str} {L : List (Addr × Str)} (h1 : FnOk P w K mg base CX0 k f fd ["caught"] (spClass CL nm)) (h2 : FnOk P w K mg base CX0 k f fd ["caught"] (spCls L)) :
    FnOk P w K mg base CX0 k f fd ["caught"] (spCls ((CL, nm) :: L)) := by
  refine ⟨fun vs H Q E h => ?_, fun A outer s H args us vs Q E hr e0 hb r h => ?_⟩
  · obtain ⟨a, _, _, rfl, _⟩ := h
    rfl
  · obtain ⟨a, C, n, e, m, ha, q⟩ := h
    rcases List.mem_cons.mp m with z | z
    · cases z
      exact h1.run A outer s H args us vs Q E hr e0 hb r ⟨a, e, ha, q⟩
    · exact h2.run A outer s H args us vs Q E hr e0 hb r ⟨a, C, n, e, z, ha, q⟩
end Lk
end
section
set_option maxRecDepth 100000
set_option maxHeartbeats 2000000
namespace Lk
open PySem PySem.Spec PyProof.Rows L2
/-- letters from a to z -/
def Az (l : List Nat) : Prop := ∀ c ∈ l, 97 ≤ c ∧ c ≤ 122
theorem sameBut_new {a p : Addr} {H : Hp} {o : HO} (h : H p = none) : SameBut a H (upd H p o) := fun b u n e => by rw [upd_ne (ne_of_none e h)]; exact e
theorem alpha_at {i : Nat} (h : i < 26) : (Str.ofString "abcdefghijklmnopqrstuvwxyz").cps[i]? = some (97 + i) := by
  have e : ∀ i : Fin 26, (Str.ofString "abcdefghijklmnopqrstuvwxyz").cps[i.val]? = some (97 + i.val) := by decide +kernel
  exact e ⟨i, h⟩
theorem alpha_len : (Str.ofString "abcdefghijklmnopqrstuvwxyz").length = 26 := by decide +kernel
theorem join_ones (l : List Nat) : Txt.join (Str.ofString "") (l.map fun c => SX.S [c]) = SX.S l := by
  have e : ∀ l : List Nat, TL.joinL [] (l.map fun c => [c]) = l := by
    intro l
    induction l with
    | nil => rfl
    | cons c r ih =>
      cases r with
      | nil => rfl
      | cons d r => 
        show [c] ++ ([] ++ TL.joinL [] ((d :: r).map fun c => [c])) = c :: d :: r
        rw [ih]
        rfl
  have h := SX.join_S [] (l.map fun c => [c])
  rw [e, List.map_map] at h
  exact h
section
variable {P : Program} {w : World} {K : PySem.W.Frag} {mg : Str → Option Value} {base : Heap}
def spSomeT : Sp := fun vs H Q _ => ∃ (a : Addr) (m : Int) (b : Int × Int × Int), vs = [.ref a, .int m] ∧ H a = some (bagO b) ∧ 0 ≤ m ∧ m ≤ 1000000 ∧
  ∀ l H', Az l → (l.length : Int) = m → Bag H' a → SameBut a H H' → Q (.str (SX.S l)) H'
end
def azC (c : Nat) : Bool := decide (97 ≤ c) && decide (c ≤ 122)
def isAz (l : List Nat) : Bool := l.all azC
theorem isAz_iff {l : List Nat} : isAz l = true ↔ Az l := by
  unfold isAz Az azC
  rw [List.all_eq_true]
  constructor
  · intro h c hc
    have z := h c hc
    rw [Bool.and_eq_true, decide_eq_true_eq, decide_eq_true_eq] at z
    exact z
  · intro h c hc
    rw [Bool.and_eq_true, decide_eq_true_eq, decide_eq_true_eq]
    exact h c hc
/-- what is no text -/
inductive NoStr (H : Hp) : V → Prop where
  | non : NoStr H .non
  | bl (b : Bool) : NoStr H (.bl b)
  | int (i : Int) : NoStr H (.int i)
  | lst {a : Addr} {xs : List V} (e : H a = some (.lst xs)) : NoStr H (.ref a)
  | tup {a : Addr} {xs : List V} (e : H a = some (.tup xs)) : NoStr H (.ref a)
  | dK {a : Addr} {kvs : List (Key × V)} (e : H a = some (.dK kvs)) : NoStr H (.ref a)
theorem NoStr.same {H H' : Hp} {v : V} (h : NoStr H v) (s : Same H H') : NoStr H' v := by
  cases h with
  | non => exact .non
  | bl b => exact .bl b
  | int i => exact .int i
  | lst e => exact .lst (s _ _ e)
  | tup e => exact .tup (s _ _ e)
  | dK e => exact .dK (s _ _ e)
theorem NoStr.ty {K : PySem.W.Frag} {H : Hp} {v : V} (h : NoStr H v) : ∃ n, TyX K H v (.type n) ∧ kitB n "str" = some false := by
  cases h with
  | non => exact ⟨"NoneType", .base .non, by decide +kernel⟩
  | bl b => exact ⟨"bool", .base (.bl b), by decide +kernel⟩
  | int i => exact ⟨"int", .base (.int i), by decide +kernel⟩
  | lst e => exact ⟨"list", .base (.lst e), by decide +kernel⟩
  | tup e => exact ⟨"tuple", .base (.tup e), by decide +kernel⟩
  | dK e => exact ⟨"dict", .base (.dK e), by decide +kernel⟩
/-- is_letters of v is b -/
inductive LetV (H : Hp) : V → Bool → Prop where
  | str (l : List Nat) (h : l.length ≤ 100000) : LetV H (.str (SX.S l)) (isAz l)
  | oth {v : V} (h : NoStr H v) : LetV H v false
theorem LetV.same {H H' : Hp} {v : V} {b : Bool} (h : LetV H v b) (s : Same H H') : LetV H' v b := by
  cases h with
  | str l z => exact .str l z
  | oth z => exact .oth (z.same s)
theorem lt_one (c d : Nat) : decide (([c] : List Nat) < [d]) = decide (c < d) := by
  by_cases h : c < d
  · rw [decide_eq_true h, decide_eq_true]
    exact List.Lex.rel h
  · rw [decide_eq_false h, decide_eq_false]
    intro z
    cases z with
    | rel z => exact h z
    | cons z => cases z
theorem az_ge (c : Nat) : (!decide (((SX.S [c]).cps.toList : List Nat) < (Str.ofString "a").cps.toList)) = decide (97 ≤ c) := by
  rw [show (Str.ofString "a").cps.toList = [97] from by decide +kernel]
  show (!decide (([c] : List Nat) < [97])) = _
  rw [lt_one]
  by_cases h : c < 97
  · rw [decide_eq_true h, decide_eq_false (by omega)]; rfl
  · rw [decide_eq_false h, decide_eq_true (by omega)]; rfl
theorem az_le (c : Nat) : (!decide ((Str.ofString "z").cps.toList < ((SX.S [c]).cps.toList : List Nat))) = decide (c ≤ 122) := by
  rw [show (Str.ofString "z").cps.toList = [122] from by decide +kernel]
  show (!decide (([122] : List Nat) < [c])) = _
  rw [lt_one]
  by_cases h : 122 < c
  · rw [decide_eq_true h, decide_eq_false (by omega)]; rfl
  · rw [decide_eq_false h, decide_eq_true (by omega)]; rfl
section
variable {P : Program} {w : World} {K : PySem.W.Frag} {mg : Str → Option Value} {base : Heap}
def spLetters : Sp := fun vs H Q _ => ∃ v b, vs = [v] ∧ LetV H v b ∧ ∀ H', Same H H' → Q (.bl b) H'
end

end Lk
end
section
set_option maxRecDepth 100000
set_option maxHeartbeats 2000000
namespace Lk
open PySem PySem.Spec PyProof.Rows L2
def numFrom : Nat → List (List Nat) → List (Key × V)
  | _, [] => []
  | n, w :: r => (.inr (SX.S w), .int (n : Nat)) :: numFrom (n + 1) r
theorem num_len : ∀ (n : Nat) (ws : List (List Nat)), (numFrom n ws).length = ws.length
  | _, [] => rfl
  | n, w :: r => congrArg (· + 1) (num_len (n + 1) r)
theorem num_snoc : ∀ (n : Nat) (ws : List (List Nat)) (w : List Nat), numFrom n (ws ++ [w]) = numFrom n ws ++ [(.inr (SX.S w), .int ((n + ws.length : Nat) : Int))]
  | n, [], w => by simp [numFrom]
  | n, x :: r, w => by
    show _ :: numFrom (n + 1) (r ++ [w]) = _ :: (numFrom (n + 1) r ++ [_])
    rw [num_snoc (n + 1) r w, List.length_cons, show n + 1 + r.length = n + (r.length + 1) by omega]
theorem num_val : ∀ (n : Nat) (ws : List (List Nat)) (w : List Nat), valV (numFrom n ws) (Sum.inr (SX.S w)) = if w ∈ ws then some (V.int ((n + ws.idxOf w : Nat) : Int)) else none
  | n, [], w => by rw [if_neg (by simp)]; rfl
  | n, x :: r, w => by
    by_cases h : x = w
    · subst h
      rw [if_pos List.mem_cons_self]
      have e : valV (numFrom n (x :: r)) (Sum.inr (SX.S x)) = some (V.int (n : Nat)) := valV_pos rfl
      rw [e, List.idxOf_cons_self]
      rfl
    · have e : valV (numFrom n (x :: r)) (Sum.inr (SX.S w)) = valV (numFrom (n + 1) r) (Sum.inr (SX.S w)) := valV_neg fun z => h (SX.S_inj (Sum.inr.inj z))
      rw [e, num_val (n + 1) r w]
      have hm : w ∈ x :: r ↔ w ∈ r := ⟨fun z => (List.mem_cons.mp z).resolve_left fun q => h q.symm, List.mem_cons_of_mem _⟩
      by_cases hr : w ∈ r
      · have ei : (x :: r).idxOf w = r.idxOf w + 1 := by
          rw [List.idxOf_cons, show (x == w) = false from beq_false_of_ne h]
          rfl
        rw [if_pos hr, if_pos (hm.mpr hr), ei, show n + 1 + r.idxOf w = n + (r.idxOf w + 1) by omega]
      · rw [if_neg hr, if_neg fun z => hr (hm.mp z)]
theorem num_is (ws : List (List Nat)) (w : List Nat) : (valV (numFrom 0 ws) (Sum.inr (SX.S w))).isSome = decide (w ∈ ws) := by
  rw [num_val]
  by_cases h : w ∈ ws
  · rw [if_pos h, decide_eq_true h]; rfl
  · rw [if_neg h, decide_eq_false h]; rfl
theorem num_put {ws : List (List Nat)} {w : List Nat} (h : w ∉ ws) : putK (numFrom 0 ws) (Sum.inr (SX.S w)) (.int (ws.length : Nat)) = numFrom 0 (ws ++ [w]) := by
  have z : valV (numFrom 0 ws) (Sum.inr (SX.S w)) = none := by rw [num_val, if_neg h]
  rw [putK_new _ z, num_snoc, Nat.zero_add]
/-- the texts of words, as they stand in a list or tuple -/
abbrev tx (ws : List (List Nat)) : List V := ws.map fun w => V.str (SX.S w)
theorem SqT_same {K : PySem.W.Frag} {H H' : Hp} {a : Addr} {xs : List V} (h : SqT K H a xs) (s : Same H H') : SqT K H' a xs := by
  rcases h with (h | ⟨o, h⟩) | h
  · exact .inl (.inl (s _ _ h))
  · exact .inl (.inr ⟨o, s _ _ h⟩)
  · exact .inr h
theorem SqL_same {K : PySem.W.Frag} {H H' : Hp} {a : Addr} {xs : List V} (h : SqL K H a xs) (s : Same H H') : SqL K H' a xs := by
  rcases h with (h | ⟨o, h⟩) | h
  · exact .inl (.inl (s _ _ h))
  · exact .inl (.inr ⟨o, s _ _ h⟩)
  · exact .inr h
def sub (t : List Nat) (a b : Nat) : List Nat := (t.drop a).take (b - a)
theorem slice_sub {t : List Nat} {i j : Int} (h0 : 0 ≤ i) (h1 : i ≤ j) (h2 : j ≤ t.length) : Txt.slice (SX.S t) (some i) (some j) = SX.S (sub t i.toNat j.toNat) := by
  have e := beq_iff_eq.mp (PyProof.Rows.slice_closesL (x := SX.S t) h0 h1 (by rw [SX.S_len]; exact h2))
  refine e.trans (TL.ext_tl ?_)
  show (t.drop i.toNat).take (j - i).toNat = (t.drop i.toNat).take (j.toNat - i.toNat)
  rw [show (j - i).toNat = j.toNat - i.toNat by omega]
/-- from at on the longest of ws with which t goes on ends at e -/
structure LE (ws : List (List Nat)) (t : List Nat) (at' e : Nat) : Prop where
  ge : at' ≤ e
  le : e ≤ t.length
  all : ∀ j, at' < j → j ≤ e → sub t at' j ∈ ws
  no : e < t.length → sub t at' (e + 1) ∉ ws
section
variable {P : Program} {w : World} {K : PySem.W.Frag} {mg : Str → Option Value} {base : Heap}
def spNumbered (K : PySem.W.Frag) : Sp := fun vs H Q _ => ∃ a ws, vs = [.ref a] ∧ SqT K H a (tx ws) ∧ (([] : List Nat) :: ws).Nodup ∧ ws.length ≤ 100000 ∧
  ∀ p H', H p = none → H' p = some (.dK (numFrom 0 ([] :: ws))) → Same H H' → Q (.ref p) H'
end
theorem sub_len {t : List Nat} {a b : Nat} (h1 : a ≤ b) (h2 : b ≤ t.length) : (sub t a b).length = b - a := by
  unfold sub
  rw [List.length_take, List.length_drop]
  omega
theorem sub_all (t : List Nat) : sub t 0 t.length = t := by
  unfold sub
  rw [List.drop_zero, Nat.sub_zero]
  exact List.take_of_length_le (Nat.le_refl _)
theorem LE.uniq {ws : List (List Nat)} {t : List Nat} {a e e' : Nat} (h : LE ws t a e) (h' : LE ws t a e') : e = e' := by
  rcases Nat.lt_trichotomy e e' with c | c | c
  · have := h'.le
    have := h.ge
    exact absurd (h'.all (e + 1) (by omega) (by omega)) (h.no (by omega))
  · exact c
  · have := h.le
    have := h'.ge
    exact absurd (h.all (e' + 1) (by omega) (by omega)) (h'.no (by omega))
theorem LE.get (ws : List (List Nat)) (t : List Nat) : ∀ (n a b : Nat), a ≤ b → b ≤ t.length → t.length - b = n → (∀ j, a < j → j ≤ b → sub t a j ∈ ws) → ∃ e, LE ws t a e
  | 0, a, b, h1, h2, h3, h => ⟨b, h1, h2, h, fun z => absurd z (by omega)⟩
  | n + 1, a, b, h1, h2, h3, h => by
    by_cases c : sub t a (b + 1) ∈ ws
    · exact LE.get ws t n a (b + 1) (by omega) (by omega) (by omega) fun j j1 j2 => by
        rcases Nat.lt_or_ge b j with z | z
        · rw [show j = b + 1 by omega]; exact c
        · exact h j j1 z
    · exact ⟨b, h1, h2, h, fun _ => c⟩
theorem LE.ex (ws : List (List Nat)) (t : List Nat) (a : Nat) (h : a ≤ t.length) : ∃ e, LE ws t a e := LE.get ws t _ a a (Nat.le_refl _) h rfl fun j j1 j2 => absurd j1 (by omega)
section
variable {P : Program} {w : World} {K : PySem.W.Frag} {mg : Str → Option Value} {base : Heap}
def spLongest : Sp := fun vs H Q _ => ∃ d ws t a, vs = [.ref d, .str (SX.S t), .int ((a : Nat) : Int)] ∧ H d = some (.dK (numFrom 0 ws)) ∧ a ≤ t.length ∧ t.length ≤ 100000 ∧
  ∀ e : Nat, LE ws t a e → Q (.int ((e : Nat) : Int)) H
end
def isWord (l : List Nat) : Bool := isAz l && decide (0 < l.length)
/-- is_word of v is b -/
inductive WordV (H : Hp) : V → Bool → Prop where
  | str (l : List Nat) (h : l.length ≤ 100000) : WordV H (.str (SX.S l)) (isWord l)
  | oth {v : V} (h : NoStr H v) : WordV H v false
theorem WordV.same {H H' : Hp} {v : V} {b : Bool} (h : WordV H v b) (s : Same H H') : WordV H' v b := by
  cases h with
  | str l z => exact .str l z
  | oth z => exact .oth (z.same s)
/-- what is no tuple -/
inductive NoTup (H : Hp) : V → Prop where
  | non : NoTup H .non
  | bl (b : Bool) : NoTup H (.bl b)
  | int (i : Int) : NoTup H (.int i)
  | str (z : Str) : NoTup H (.str z)
  | lst {a : Addr} {xs : List V} (e : H a = some (.lst xs)) : NoTup H (.ref a)
  | dK {a : Addr} {kvs : List (Key × V)} (e : H a = some (.dK kvs)) : NoTup H (.ref a)
theorem NoTup.same {H H' : Hp} {v : V} (h : NoTup H v) (s : Same H H') : NoTup H' v := by
  cases h with
  | non => exact .non
  | bl b => exact .bl b
  | int i => exact .int i
  | str z => exact .str z
  | lst e => exact .lst (s _ _ e)
  | dK e => exact .dK (s _ _ e)
theorem NoTup.ty {K : PySem.W.Frag} {H : Hp} {v : V} (h : NoTup H v) : ∃ n, TyX K H v (.type n) ∧ kitB n "tuple" = some false := by
  cases h with
  | non => exact ⟨"NoneType", .base .non, by decide +kernel⟩
  | bl b => exact ⟨"bool", .base (.bl b), by decide +kernel⟩
  | int i => exact ⟨"int", .base (.int i), by decide +kernel⟩
  | str z => exact ⟨"str", .base (.str z), by decide +kernel⟩
  | lst e => exact ⟨"list", .base (.lst e), by decide +kernel⟩
  | dK e => exact ⟨"dict", .base (.dK e), by decide +kernel⟩
/-- rising, as texts -/
def Rise : List (List Nat) → Bool
  | [] => true
  | [_] => true
  | a :: b :: r => decide (a < b) && Rise (b :: r)
/-- with each word also the word without its last letter -/
def Clos (ws : List (List Nat)) : Bool := ws.all fun l => decide (l.take (l.length - 1) ∈ ([] : List Nat) :: ws)
def isKnown (ws : List (List Nat)) : Bool := ws.all isWord && (Rise ws && Clos ws)
/-- is_known of v is b -/
inductive KnownV (H : Hp) : V → Bool → Prop where
  | no {v : V} (h : NoTup H v) : KnownV H v false
  | bad {a : Addr} {xs : List V} {bs : List Bool} (e : H a = some (.tup xs)) (hl : xs.length ≤ 100000) (h : bs.length = xs.length) (hw : ∀ (i : Nat) (x : V) (b : Bool), xs[i]? = some x → bs[i]? = some b → WordV H x b) (hb : bs.all id = false) : KnownV H (.ref a) false
  | tup {a : Addr} {ws : List (List Nat)} (e : H a = some (.tup (tx ws))) (hl : ws.length ≤ 100000) (h : ∀ x ∈ ws, x.length ≤ 100000) : KnownV H (.ref a) (isKnown ws)
theorem KnownV.same {H H' : Hp} {v : V} {b : Bool} (h : KnownV H v b) (s : Same H H') : KnownV H' v b := by
  cases h with
  | no h => exact .no (h.same s)
  | bad e hl h hw hb => exact .bad (s _ _ e) hl h (fun i x b hx hb => (hw i x b hx hb).same s) hb
  | tup e hl h => exact .tup (s _ _ e) hl h
section
variable {P : Program} {w : World} {K : PySem.W.Frag} {mg : Str → Option Value} {base : Heap}
def spWord : Sp := fun vs H Q _ => ∃ v b, vs = [v] ∧ WordV H v b ∧ ∀ H', Same H H' → Q (.bl b) H'
theorem walk_zipTx {a b : Addr} {xs ys : List V} {n : Nat} (hn : n = min xs.length ys.length) : Walk (RZ.ItzT K a b) n (fun H => SqT K H a xs ∧ SqT K H b ys) (YPair (fun i => xs[i]?) (fun i => ys[i]?)) := by
  subst hn
  refine ⟨fun i _ hi q => ?_, fun _ q => ⟨xs, ys, q.1, q.2, by omega⟩, fun i H v H' _ q y => ?_⟩
  · have h1 : i < xs.length := by omega
    have h2 : i < ys.length := by omega
    exact ⟨xs, ys, xs[i], ys[i], q.1, q.2, by simp [h1], by simp [h2]⟩
  · obtain ⟨T, x, z, h1, h2, h3, h4, h5⟩ := y
    exact ⟨T, x, z, h1, h2, h3, h4 xs q.1, h5 ys q.2⟩
end
/-- t[1:] of a tuple: all but its first, new or not -/
def rTail (K : PySem.W.Frag) : V → Option Int → Option Int → Hp → VK → Prop := fun x lo hi H Q => ∃ a xs, x = .ref a ∧ lo = some 1 ∧ hi = none ∧ SqT K H a xs ∧ ∀ b H', Same H H' → SqT K H' b (xs.drop 1) → Q (.ref b) H'
theorem sl_tail {X : Cx} : SlR X (rTail X.K) := by
  intro pins s σ H x v vl vu lo hi sl Q I rx hs pl pu h
  obtain ⟨a, xs, rfl, rfl, rfl, hx, q⟩ := h
  refine sl_tupA pins s σ H _ v vl vu _ _ sl Q I rx hs pl pu ⟨a, xs, rfl, hx, fun z => ?_, fun z p hp => ?_⟩
  · have e : min 1 xs.length = 0 := z.1
    have e2 : xs = [] := List.eq_nil_of_length_eq_zero (by omega)
    subst e2
    exact q a H (Same.refl H) hx
  · refine q p _ (same_new hp) (.inl (.inl ?_))
    rw [upd_same]
    have e : cutV xs (some 1) none = xs.drop 1 := by
      show (xs.drop (min 1 xs.length)).take (xs.length - min 1 xs.length) = xs.drop 1
      cases xs with
      | nil => rfl
      | cons x r =>
        rw [List.length_cons, show min 1 (r.length + 1) = 1 by omega]
        exact List.take_of_length_le (by rw [List.length_drop, List.length_cons] <;> omega)
    rw [e]
def risebs (ws : List (List Nat)) : List Bool := (ws.zip (ws.drop 1)).map fun p => decide (p.1 < p.2)
theorem riseT_all : ∀ ws : List (List Nat), (risebs ws).all id = Rise ws
  | [] => rfl
  | [_] => rfl
  | a :: b :: r => by
    show (decide (a < b) && (risebs (b :: r)).all id) = (decide (a < b) && Rise (b :: r))
    rw [riseT_all (b :: r)]
theorem rise_pair : ∀ {ws : List (List Nat)}, Rise ws = true → ws.Pairwise (· < ·)
  | [], _ => List.Pairwise.nil
  | [a], _ => List.pairwise_singleton _ a
  | a :: b :: r, h => by
    have h' : (decide (a < b) && Rise (b :: r)) = true := h
    rw [Bool.and_eq_true, decide_eq_true_eq] at h'
    have ih := rise_pair h'.2
    refine List.Pairwise.cons (fun y hy => ?_) ih
    rcases List.mem_cons.mp hy with e | e
    · rw [e]; exact h'.1
    · exact List.lt_trans h'.1 ((List.pairwise_cons.mp ih).1 y e)
theorem rise_nodup {ws : List (List Nat)} (h : Rise ws = true) : ws.Nodup :=
  (rise_pair h).imp (S := fun a b => a ≠ b) fun {a b} hl (e : a = b) => List.lt_irrefl b (by rw [e] at hl; exact hl)
theorem isWord_iff {l : List Nat} : isWord l = true ↔ Az l ∧ 0 < l.length := by
  unfold isWord
  rw [Bool.and_eq_true, decide_eq_true_eq, isAz_iff]
theorem word_ne {l : List Nat} (h : isWord l = true) : l ≠ [] := List.ne_nil_of_length_pos (isWord_iff.mp h).2
theorem nodup0 {ws : List (List Nat)} (hw : ws.all isWord = true) (hr : Rise ws = true) : (([] : List Nat) :: ws).Nodup :=
  List.nodup_cons.mpr ⟨fun z => word_ne (List.all_eq_true.mp hw [] z) rfl, rise_nodup hr⟩
theorem tx_at {ws : List (List Nat)} {i : Nat} {x : V} (h : (tx ws)[i]? = some x) : ∃ l, ws[i]? = some l ∧ x = .str (SX.S l) := by
  rw [List.getElem?_map] at h
  cases e : ws[i]? with
  | none => rw [e] at h; cases h
  | some l => rw [e] at h; exact ⟨l, rfl, (Option.some.inj h).symm⟩
section
variable {P : Program} {w : World} {K : PySem.W.Frag} {mg : Str → Option Value} {base : Heap}
def spIsKnown : Sp := fun vs H Q _ => ∃ v b, vs = [v] ∧ KnownV H v b ∧ ∀ H', Same H H' → Q (.bl b) H'
abbrev nK : List Str := ["thing", "numbers", "word", "later"]
end
theorem KnownV.words {H : Hp} {v : V} {b : Bool} (h : KnownV H v b) (hb : b = true) : ∃ a ws, v = .ref a ∧ H a = some (.tup (tx ws)) ∧ isKnown ws = true ∧ ws.length ≤ 100000 := by
  cases h with
  | no h => cases hb
  | bad e hl h hw hb' => cases hb
  | tup e hl h => exact ⟨_, _, rfl, e, hb, hl⟩
def isText (l : List Nat) : Bool := isAz l && decide (l.length ≤ 2000)
/-- whether v is a text that a learner may read is b -/
inductive TextV (H : Hp) : V → Bool → Prop where
  | str (l : List Nat) (h : l.length ≤ 100000) : TextV H (.str (SX.S l)) (isText l)
  | oth {v : V} (h : NoStr H v) : TextV H v false
theorem TextV.same {H H' : Hp} {v : V} {b : Bool} (h : TextV H v b) (s : Same H H') : TextV H' v b := by
  cases h with
  | str l z => exact .str l z
  | oth z => exact .oth (z.same s)
theorem TextV.text {H : Hp} {v : V} {b : Bool} (h : TextV H v b) (hb : b = true) : ∃ l, v = .str (SX.S l) ∧ isText l = true := by
  cases h with
  | str l z => exact ⟨l, rfl, hb⟩
  | oth z => cases hb
theorem isText_iff {l : List Nat} : isText l = true ↔ Az l ∧ l.length ≤ 2000 := by
  unfold isText
  rw [Bool.and_eq_true, decide_eq_true_eq, isAz_iff]
theorem isKnown_iff {ws : List (List Nat)} : isKnown ws = true ↔ ws.all isWord = true ∧ Rise ws = true ∧ Clos ws = true := by
  unfold isKnown
  rw [Bool.and_eq_true, Bool.and_eq_true]
/-- from at on a text is read into these new words; the rest begins at r -/
inductive Reads : List (List Nat) → List Nat → Nat → List (List Nat) → Nat → Prop where
  | done {ws : List (List Nat)} {t : List Nat} {a : Nat} (h : LE ws t a t.length) : Reads ws t a [] a
  | more {ws : List (List Nat)} {t : List Nat} {a e r : Nat} {ns : List (List Nat)} (h : LE ws t a e) (he : e < t.length) (hr : Reads (ws ++ [sub t a (e + 1)]) t (e + 1) ns r) : Reads ws t a (sub t a (e + 1) :: ns) r
section
variable {P : Program} {w : World} {K : PySem.W.Frag} {mg : Str → Option Value} {base : Heap}
def spRefK (C : Addr) : Sp := fun vs H Q E => ∃ v b, vs = [v] ∧ KnownV H v b ∧ (b = true → ∀ H', Same H H' → Q .non H') ∧ (b = false → ∀ H', Same H H' → E (.ref C) none H')
def spRefT (C : Addr) : Sp := fun vs H Q E => ∃ v b, vs = [v] ∧ TextV H v b ∧ (b = true → ∀ H', Same H H' → Q .non H') ∧ (b = false → ∀ H', Same H H' → E (.ref C) none H')
def spRead (CK CT : Addr) : Sp := fun vs H Q E => ∃ kv tv b1 b2, vs = [kv, tv] ∧ KnownV H kv b1 ∧ TextV H tv b2 ∧ (b1 = false → ∀ H', Same H H' → E (.ref CK) none H') ∧ (b1 = true → b2 = false → ∀ H', Same H H' → E (.ref CT) none H') ∧
  (b1 = true → b2 = true → ∀ a ws t, kv = .ref a → H a = some (.tup (tx ws)) → isKnown ws = true → tv = .str (SX.S t) → ∀ ns r, Reads ([] :: ws) t 0 ns r → r ≤ t.length →
    ∀ d p H', Same H H' → H d = none → H' d = some (.dK (numFrom 0 (([] :: ws) ++ ns))) → H' p = some (.tup [.ref d, .str (SX.S (t.drop r))]) → Q (.ref p) H')
end

end Lk
end
section
set_option maxRecDepth 100000
set_option maxHeartbeats 2000000
/-! Sets of texts of one sign: set(text), its length, sorted. -/
namespace Lk
open PySem PySem.Spec PySem.Calls PySem.Froz PyProof.Rows L2
/-- the payload's table rises, and can be walked -/
def TxR (w : World) (D : SD) : Prop := Ris D.2.2.place.toList ∧ (w.params.followText "set-order" = true ∨ D.2.2.led = true)
theorem tailTx_ris {w : World} {ep : Nat} {es1 : Array (Int × Value)} {t2 : SetTable} {wd : Bool} (r1 : Ris t2.place.toList) (r2 : w.params.followText "set-order" = true ∨ t2.led = true) : TxR w (tailTx ep es1 t2 wd) := by
  unfold tailTx
  by_cases c : (!wd && t2.tooFull) = true
  · rw [if_pos c]
    exact ⟨relayAll_ris _ _ _, by rw [relayAll_led]; exact r2⟩
  · rw [if_neg c]
    exact ⟨r1, r2⟩
theorem addTx_ris {w : World} {D : SD} (h : Int) (v : Value) (r : TxR w D) : TxR w (addTx h v D) := by
  obtain ⟨es, ep, t⟩ := D
  obtain ⟨r1, r2⟩ := r
  have q1 := layNew_ris t es h v r1
  have q2 : (layNew t es h v).2.1.led = t.led := layNew_led t es h v
  have q3 : w.params.followText "set-order" = true ∨ (layNew t es h v).2.1.led = true := r2.imp id fun z => by rw [q2]; exact z
  unfold addTx
  refine tailTx_ris ?_ ?_
  · split
    · exact q1
    · exact q1
  · split
    · exact q3
    · exact q3
section
variable {P : Program} {w : World} {A : Around} {E : Value → Shared → Prop} {s : Shared}
theorem add_in {a : Addr} {T : String} {D : SD} {l : List Str} {k : Str} {u : Tok} {Q : Bool → Shared → Prop} (ho : s.heap.get? a = some (sObj T D)) (F : TxOk P w D l) (hk : k ∈ l) (hb : l.length < scanBound) (h : Q false s) :
    wpAny (model P w) A (setAddHashed a (.str k u) (hashStr w k)) Q E s := by
  have hsz := F.sz
  obtain ⟨j, hj⟩ : ∃ j, List.findIdx? (fun e => (strKind P w).is k e.2) D.1.toList = some j := by
    cases e : List.findIdx? (fun e => (strKind P w).is k e.2) D.1.toList with
    | some j => exact ⟨j, rfl⟩
    | none =>
      obtain ⟨z, hz, q⟩ := (F.mem k).mp hk
      have c := List.findIdx?_eq_none_iff.mp e z hz
      rw [q] at c
      cases c
  unfold setAddHashed setAddHashedIn
  refine wpAny_holding (wpAny_bind (wpAny_setState_of ho rfl F.fit ?_))
  dsimp only
  rw [byScan_of rfl (by omega) F.el]
  simp only [↓reduceIte]
  unfold setAddByScan
  refine wpAny_bind (wpAny_bind (wpAny_rule (wpAny_bind (wpAny_setScan_of (knd := strKind P w) (k := k) (is_str k u) ho rfl F.fit F.el ?_))))
  rw [hj]
  dsimp only
  exact wpAny_pure (wpAny_pure h)
end
section
variable {P : Program} {w : World} {A : Around} {R : Result → Shared → Prop}
theorem sing_inj {c d : Nat} (h : sing c = sing d) : c = d := by
  have q : [c] = [d] := congrArg (fun y : Str => y.cps.toList) h
  exact (List.cons.inj q).1
/-- the rest of a text's signs go into the set -/
theorem upd_all {a it : Addr} (hne : a ≠ it) {x : Str} {u : Tok} (hh : A.handled = none) : ∀ (cs : List Nat) (i : Nat) (D : SD) (l : List Str) (s : Shared), x.cps.toList.drop i = cs →
    s.heap.get? a = some (sObj "set" D) → s.heap.get? it = some (itObj x u i) → TxOk P w D l → TxR w D → l.Nodup → l.length + cs.length < scanBound →
    (∀ h' tk D' l', (∀ b o, b ≠ a → b ≠ it → s.heap.get? b = some o → h'.get? b = some o) → h'.get? a = some (sObj "set" D') → TxOk P w D' l' → TxR w D' → l'.Nodup → (∀ y, y ∈ l' ↔ y ∈ l ∨ ∃ c ∈ cs, y = sing c) →
      l'.length ≤ l.length + cs.length → R (.ok (.ret .none)) { s with heap := h', toks := tk }) → codeAny (model P w) A (.builtin "set.update.loop" ⟨[.ref a, .ref it], []⟩) R s
  | [], i, D, l, s, hd, ha, hit, F, rr, nd, hb, h => by
    refine codeAny_builtin PyProof.Rows.F.entry_set_update_loop ?_
    rw [Around.under_plainId PyProof.Rows.F.plain_set_update_loop _]
    show wpAny _ A.in1 (pyNext (.ref it) >>= _) _ _ s
    refine wpAny_bind (end_x (u := u) (by exact hh) hit (at_end hd) (wpAny_pure ?_))
    have k : ∀ b o, b ≠ it → s.heap.get? b = some o → (endHeap s.heap it i).get? b = some o := fun b o hb e =>
      Heap.get?_push_of_some _ (Heap.get?_push_of_some _ (PySem.Heap.get?_update_of_ne _ (Ne.symm hb) e))
    exact h _ _ D l (fun b o _ hb e => k b o hb e) (k a _ hne ha) F rr nd (fun y => by simp) (Nat.le_refl _)
  | c :: r, i, D, l, s, hd, ha, hit, F, rr, nd, hb, h => by
    obtain ⟨hx, hd2⟩ := Froz.at_of hd
    have hb2 : l.length + (r.length + 1) < scanBound := hb
    refine codeAny_builtin PyProof.Rows.F.entry_set_update_loop ?_
    rw [Around.under_plainId PyProof.Rows.F.plain_set_update_loop _]
    show wpAny _ A.in1 (pyNext (.ref it) >>= _) _ _ s
    refine wpAny_bind (next_x (u := u) hit hx ?_)
    show wpAny _ A.in1 (holding [Value.str (sing c) s.toks] (setAdd a (.str (sing c) s.toks)) >>= _) _ _ _
    refine wpAny_bind (wpAny_holding ?_)
    unfold setAdd
    refine wpAny_holding (wpAny_bind ((strKind P w).pyHash (k := sing c) (is_str _ _) ?_))
    have ha1 : (s.heap.update it (fun _ => itObj x u (i + 1))).get? a = some (sObj "set" D) := PySem.Heap.get?_update_of_ne _ (Ne.symm hne) ha
    have hit1 : (s.heap.update it (fun _ => itObj x u (i + 1))).get? it = some (itObj x u (i + 1)) := get_upd _ hit rfl
    have oth1 : ∀ b o, b ≠ it → s.heap.get? b = some o → (s.heap.update it (fun _ => itObj x u (i + 1))).get? b = some o := fun b o hb e => PySem.Heap.get?_update_of_ne _ (Ne.symm hb) e
    by_cases hm : sing c ∈ l
    · refine add_in (s := { s with heap := s.heap.update it (fun _ => itObj x u (i + 1)), toks := s.toks + 1 + 1 }) ha1 F hm (by omega) ?_
      refine wpAny_pure ⟨plainId_quiet PyProof.Rows.F.plain_set_update_loop _, upd_all hne hh r (i + 1) D l _ hd2 ha1 hit1 F rr nd (by omega) fun h' tk D' l' k ga F' rr' nd' mm ll => ?_⟩
      refine h h' tk D' l' (fun b o na ni e => k b o na ni (oth1 b o ni e)) ga F' rr' nd' (fun y => ?_) (by show l'.length ≤ l.length + (r.length + 1); omega)
      rw [mm y]
      constructor
      · rintro (q | ⟨d, hd, q⟩)
        · exact .inl q
        · exact .inr ⟨d, List.mem_cons_of_mem _ hd, q⟩
      · rintro (q | ⟨d, hd, q⟩)
        · exact .inl q
        · rcases List.mem_cons.mp hd with e | e
          · exact .inl (by rw [q, e]; exact hm)
          · exact .inr ⟨d, e, q⟩
    · refine add_x (l := l) (D := D) (s := { s with heap := s.heap.update it (fun _ => itObj x u (i + 1)), toks := s.toks + 1 + 1 }) ha1 F hm (by omega) ?_
      have ha2 : ((s.heap.update it (fun _ => itObj x u (i + 1))).update a (fun _ => sObj "set" (addTx (hashStr w (sing c)) (.str (sing c) s.toks) D))).get? a = some (sObj "set" (addTx (hashStr w (sing c)) (.str (sing c) s.toks) D)) := get_upd _ ha1 rfl
      have hit2 : ((s.heap.update it (fun _ => itObj x u (i + 1))).update a (fun _ => sObj "set" (addTx (hashStr w (sing c)) (.str (sing c) s.toks) D))).get? it = some (itObj x u (i + 1)) := PySem.Heap.get?_update_of_ne _ hne hit1
      refine wpAny_pure ⟨plainId_quiet PyProof.Rows.F.plain_set_update_loop _, upd_all hne hh r (i + 1) _ (sing c :: l) _ hd2 ha2 hit2 (add_ok s.toks F) (addTx_ris _ _ rr) (List.nodup_cons.mpr ⟨hm, nd⟩) (by show l.length + 1 + r.length < scanBound; omega) fun h' tk D' l' k ga F' rr' nd' mm ll => ?_⟩
      refine h h' tk D' l' (fun b o na ni e => k b o na ni (PySem.Heap.get?_update_of_ne _ (Ne.symm na) (oth1 b o ni e))) ga F' rr' nd' (fun y => ?_) (by have z : l'.length ≤ l.length + 1 + r.length := ll; show l'.length ≤ l.length + (r.length + 1); omega)
      rw [mm y]
      constructor
      · rintro (q | ⟨d, hd, q⟩)
        · rcases List.mem_cons.mp q with e | e
          · exact .inr ⟨c, List.mem_cons_self, e⟩
          · exact .inl e
        · exact .inr ⟨d, List.mem_cons_of_mem _ hd, q⟩
      · rintro (q | ⟨d, hd, q⟩)
        · exact .inl (List.mem_cons_of_mem _ q)
        · rcases List.mem_cons.mp hd with e | e
          · exact .inl (by rw [q, e]; exact List.mem_cons_self)
          · exact .inr ⟨d, e, q⟩
end
end Lk
end
section
set_option maxRecDepth 100000
set_option maxHeartbeats 2000000
namespace Lk
open PySem PySem.Spec PySem.Calls PySem.Froz PyProof.Rows L2
section
variable {P : Program} {w : World} {A : Around} {E : Value → Shared → Prop} {s : Shared}
def newS (w : World) : Obj := sObj "set" (#[], 0, .fresh 0 0 (!w.params.followText "set-order"))
theorem newS_ok {P : Program} {w : World} : TxOk P w ((#[], 0, .fresh 0 0 (!w.params.followText "set-order")) : SD) [] := TxOk.nil (by rfl)
theorem newS_ris {w : World} : TxR w ((#[], 0, .fresh 0 0 (!w.params.followText "set-order")) : SD) := ⟨List.Pairwise.nil, by
  show _ ∨ (!w.params.followText "set-order") = true
  cases w.params.followText "set-order"
  · exact .inr rfl
  · exact .inl rfl⟩
theorem sub_str_set : isSubtype (.type "str") (.type "set") = pure false := by rw [isSubtype_type]; kernel_rfl
theorem sub_str_frozenset : isSubtype (.type "str") (.type "frozenset") = pure false := by rw [isSubtype_type]; kernel_rfl
theorem sub_str_dict : isSubtype (.type "str") (.type "dict") = pure false := by rw [isSubtype_type]; kernel_rfl
set_option maxRecDepth 100000 in
set_option maxHeartbeats 3200000 in
/-- set(text) -/
theorem call_set_text {x : Str} {u : Tok} {Q : Value → Shared → Prop} (hh : A.handled = none) (ha : x.cps.all (· < 128) = true) (hb : x.cps.toList.length < scanBound)
    (h : ∀ (h' : Heap) (tk : Nat) (D : SD) (l : List Str), h'.get? s.heap.objs.size = some (sObj "set" D) → TxOk P w D l → TxR w D → l.Nodup → (∀ y, y ∈ l ↔ ∃ c ∈ x.cps.toList, y = sing c) → l.length ≤ x.cps.toList.length →
      (∀ b o, s.heap.get? b = some o → h'.get? b = some o) → Q (.ref s.heap.objs.size) { s with heap := h', toks := tk }) :
    wpAny (model P w) A (call (.type "set") [.str x u]) Q E s := by
  obtain ⟨c, tl, hmro⟩ := F.called_set.mro
  have hmade := F.called_set.made
  have hsub := F.called_set.sub
  refine wpAny_call (codeAny_of_tree ?_)
  show wpAny _ _ (callAny (.type "set") _) _ _ _
  refine wpAny_pure ⟨Code.quiet_builtin _ (by decide +kernel), codeAny_builtin F.entry_type_call ?_⟩
  rw [Around.under_plain (weight_type_call_type "set" [.str x u] []) rfl]
  have h1 := F.called_set.notType
  have h2 := F.called_set.canCreate
  have hct := F.typeCall_set_1 (.str x u)
  repeat (any_goals (first | assumption | wp_step))
  refine codeAny_mono (code_set_led1 (.str x u) (E := E) (Q₁ := fun obj s₁ => obj = .ref s.heap.objs.size ∧ s₁ = { s with heap := s.heap.push (newS w) }) ⟨rfl, rfl⟩) fun r s₁ hr => ?_
  cases r with
  | error e => exact hr
  | ok fl =>
    cases fl with
    | ret obj =>
      obtain ⟨rfl, rfl⟩ := hr
      have hS : (s.heap.push (newS w)).get? s.heap.objs.size = some (newS w) := Heap.get?_push_size _ rfl
      have hT : Shared.TypeIs { s with heap := s.heap.push (newS w) } (.ref s.heap.objs.size) "set" := ⟨_, hS, rfl⟩
      have hli := F.called_set.init.lookup
      have hbi := F.called_set.init.bind (.ref s.heap.objs.size)
      repeat (any_goals (first | assumption | wp_step))
      refine codeAny_mono (codeAny_call_builtin (R := wants (fun r s₂ => r = .none ∧ ∃ h' tk D l, s₂ = { s with heap := h', toks := tk } ∧ h'.get? s.heap.objs.size = some (sObj "set" D) ∧ TxOk P w D l ∧ TxR w D ∧ l.Nodup ∧ (∀ y, y ∈ l ↔ ∃ c ∈ x.cps.toList, y = sing c) ∧
          l.length ≤ x.cps.toList.length ∧ (∀ b o, s.heap.get? b = some o → h'.get? b = some o)) E) F.called_set.init.plain F.entry_set_init (check_set_init_1 hT ?_)) fun r₂ s₂ hr₂ => ?_
      · have hsls := sub_str_set
        have hslf := sub_str_frozenset
        have hne : (Value.type "str" == Value.type "dict") = false := by decide
        unfold Builtin.«set.__init__» noKeywords Builtin.Frozenset.updateFrom
        generalize hPI : pyIter = PI
        wp_walk
        subst hPI
        refine wpAny_pyIter_ascii ha ?_
        have ho : ((s.heap.push (newS w)).push (itObj x u 0)).get? s.heap.objs.size = some (newS w) := Heap.get?_push_of_some _ hS
        have hi : ((s.heap.push (newS w)).push (itObj x u 0)).get? (s.heap.push (newS w)).objs.size = some (itObj x u 0) := Heap.get?_push_size _ rfl
        have hne : s.heap.objs.size ≠ (s.heap.push (newS w)).objs.size := by rw [Heap.size_push]; exact Nat.ne_of_lt (Nat.lt_succ_self _)
        have hh3 : A.in1.in1.handled = none := by simp [hh]
        refine wpAny_bind (wpAny_runValue ?_)
        refine upd_all (s := { s with heap := (s.heap.push (newS w)).push (itObj x u 0) }) hne hh3 x.cps.toList 0 _ [] rfl ho hi newS_ok newS_ris List.nodup_nil (by simpa using hb) fun h' tk D' l' k ga F' rr' nd' mm ll => ?_
        refine wpAny_pure (wpAny_pure ⟨rfl, h', tk, D', l', rfl, ga, F', rr', nd', fun y => ?_, by simpa using ll, fun b o e => ?_⟩)
        · rw [mm y]
          simp
        · have hlt := Heap.lt_size e
          exact k b o (Nat.ne_of_lt hlt) (by rw [Heap.size_push]; exact Nat.ne_of_lt (Nat.lt_succ_of_lt hlt)) (Heap.get?_push_of_some _ (Heap.get?_push_of_some _ e))
      · cases r₂ with
        | error e => exact hr₂
        | ok fl₂ =>
          cases fl₂ with
          | ret r =>
            obtain ⟨rfl, h', tk, D, l, rfl, q1, q2, q3, q4, q5, q6, q7⟩ := hr₂
            repeat (any_goals (first | assumption | wp_step))
            exact h _ _ _ _ q1 q2 q3 q4 q5 q6 q7
          | _ => exact hr₂.elim
    | _ => exact hr.elim
end
end Lk
end
section
set_option maxRecDepth 100000
set_option maxHeartbeats 2000000
/-! Sets of signs over the tracked heap. -/
namespace Lk
open PySem PySem.Spec PySem.Froz PyProof.Rows L2
/-- a set of texts of one sign at a -/
def SetT (P : Program) (w : World) (a : Addr) (l : List Str) : HO := .ext fun h => ∃ D, h.get? a = some (sObj "set" D) ∧ TxOk P w D l ∧ TxR w D
theorem setT_ok {P : Program} {w : World} {H : Hp} {h : Heap} {a : Addr} {D : SD} {l : List Str} (e : h.get? a = some (sObj "set" D)) (F : TxOk P w D l) (r : TxR w D) : ObjOk P w H h a (SetT P w a l) :=
  ⟨⟨D, e, F, r⟩, ⟨_, e⟩, fun _ _ ⟨D, q, z⟩ k => ⟨D, k _ q, z⟩⟩
section
variable {X : Cx}
def rSetT (P : Program) (w : World) : List V → Hp → VK → Prop := fun xs H Q => ∃ l : List Nat, xs = [.str (SX.S l)] ∧ l.all (· < 128) = true ∧ l.length < 4000 ∧
  ∀ p ks, H p = none → ks.Nodup → (∀ y, y ∈ ks ↔ ∃ c ∈ l, y = sing c) → ks.length ≤ l.length → Q (.ref p) (upd H p (SetT P w p ks))
theorem cr_setT (hc : X.calm = true) : CallR X (.type "set") (rSetT X.prog X.w) := by
  intro pins s σ H xs us Q I r h
  obtain ⟨l, rfl, ha, hb, q⟩ := h
  obtain ⟨u, rfl, t, rfl⟩ := vals1 r
  refine call_set_text (I.ok.hd hc) (by rw [← Array.all_toList]; exact ha) (Nat.lt_trans (show (SX.S l).cps.toList.length < 4000 from hb) (by decide)) fun h' tk D ks g F rr nd mm ll k => ?_
  exact ⟨.ref _, upd H s.heap.objs.size (SetT X.prog X.w s.heap.objs.size ks), I.laid (t' := tk) k (Nat.le_refl _) (setT_ok g F rr), rfl, q _ ks (I.hok.fresh (Nat.le_refl _)) nd mm ll⟩
/-- len of it -/
def rLenT (P : Program) (w : World) : List V → Hp → VK → Prop := fun xs H Q => ∃ a ks, xs = [.ref a] ∧ H a = some (SetT P w a ks) ∧ ks.length < 4096 ∧ Q (.int ks.length) H
theorem call_lenT : CallR X (.builtin "len") (rLenT X.prog X.w) := by
  intro pins s σ H xs us Q I r h
  obtain ⟨a, ks, rfl, ha, hz, q⟩ := h
  obtain ⟨u, rfl, hu⟩ := vals1 r
  cases (show u = Value.ref a from hu)
  obtain ⟨⟨D, g, F, rr⟩, _⟩ := I.hok a _ ha
  have e : D.1.size = ks.length := F.sz
  refine call_len_set (es := D.1) (ep := D.2.1) (t := D.2.2) g ⟨rfl, rfl, rfl⟩ rfl F.fit (by rw [e]; omega) ?_
  exact ⟨.int ks.length, H, I.tok _, ⟨_, by rw [e]⟩, q⟩
end
end Lk
end
section
set_option maxRecDepth 100000
set_option maxHeartbeats 2000000
namespace Lk
open PySem PySem.Spec PyProof.Rows L2
section
variable {X : Cx} {k j : Nat} {x : Str} {sp : Sp} {p pos : Pos} {e : Expr} {es : List Expr} {t : TA} {W : WX}
end
def isLoop (l : List Nat) : Bool := isAz l && (decide (1 ≤ l.length) && decide (l.length ≤ 12))
/-- is_loop of v is b -/
inductive LoopV (H : Hp) : V → Bool → Prop where
  | str (l : List Nat) (h : l.length ≤ 100000) : LoopV H (.str (SX.S l)) (isLoop l)
  | oth {v : V} (h : NoStr H v) : LoopV H v false
theorem LoopV.same {H H' : Hp} {v : V} {b : Bool} (h : LoopV H v b) (s : Same H H') : LoopV H' v b := by
  cases h with
  | str l z => exact .str l z
  | oth z => exact .oth (z.same s)
section
variable {P : Program} {w : World} {K : PySem.W.Frag} {mg : Str → Option Value} {base : Heap}
def spIsLoop : Sp := fun vs H Q _ => ∃ v b, vs = [v] ∧ LoopV H v b ∧ ∀ H', Same H H' → Q (.bl b) H'
/-- nothing, or NoLoop -/
def spRefuse (C : Addr) : Sp := fun vs H Q E => ∃ v b, vs = [v] ∧ LoopV H v b ∧ (b = true → ∀ H', Same H H' → Q .non H') ∧ (b = false → ∀ H', Same H H' → E (.ref C) none H')
end
theorem few_len {α : Type} [DecidableEq α] : ∀ {ks L : List α}, ks.Nodup → (∀ y ∈ ks, y ∈ L) → ks.length ≤ L.length
  | [], _, _, _ => Nat.zero_le _
  | k :: ks, L, nd, h => by
    obtain ⟨h1, h2⟩ := List.nodup_cons.mp nd
    have hk : k ∈ L := h k List.mem_cons_self
    have e : (L.erase k).length = L.length - 1 := List.length_erase_of_mem hk
    have hp : 0 < L.length := List.length_pos_of_mem hk
    have ih := few_len (ks := ks) (L := L.erase k) h2 fun y hy => by
      have ny : y ≠ k := fun z => h1 (by rw [← z]; exact hy)
      exact (List.mem_erase_of_ne ny).mpr (h y (List.mem_cons_of_mem _ hy))
    show ks.length + 1 ≤ L.length
    omega
theorem less_of_dup {α : Type} [DecidableEq α] : ∀ {L : List α}, ¬ L.Nodup → ∃ L' : List α, L'.length < L.length ∧ ∀ y, y ∈ L → y ∈ L'
  | [], h => absurd List.nodup_nil h
  | x :: L, h => by
    by_cases hx : x ∈ L
    · exact ⟨L, Nat.lt_succ_self _, fun y hy => by
        rcases List.mem_cons.mp hy with e | e
        · rw [e]; exact hx
        · exact e⟩
    · have hL : ¬ L.Nodup := fun z => h (List.nodup_cons.mpr ⟨hx, z⟩)
      obtain ⟨L', l1, l2⟩ := less_of_dup hL
      exact ⟨x :: L', Nat.succ_lt_succ l1, fun y hy => by
        rcases List.mem_cons.mp hy with e | e
        · rw [e]; exact List.mem_cons_self
        · exact List.mem_cons_of_mem _ (l2 y e)⟩
theorem map_sing_nodup {l : List Nat} (h : l.Nodup) : (l.map PySem.Froz.sing).Nodup := by
  induction l with
  | nil => exact List.nodup_nil
  | cons c r ih =>
    obtain ⟨h1, h2⟩ := List.nodup_cons.mp h
    refine List.nodup_cons.mpr ⟨fun z => ?_, ih h2⟩
    obtain ⟨d, hd, e⟩ := List.mem_map.mp z
    rw [sing_inj e] at hd
    exact h1 hd
/-- a set of a text's signs has as many as the text just where they are unlike -/
theorem set_len {l : List Nat} {ks : List Str} (nd : ks.Nodup) (mm : ∀ y, y ∈ ks ↔ ∃ c ∈ l, y = PySem.Froz.sing c) : ks.length = l.length ↔ l.Nodup := by
  have mm' : ∀ y, y ∈ ks ↔ y ∈ l.map PySem.Froz.sing := fun y => by
    rw [mm y, List.mem_map]
    exact ⟨fun ⟨c, h, e⟩ => ⟨c, h, e.symm⟩, fun ⟨c, h, e⟩ => ⟨c, h, e.symm⟩⟩
  constructor
  · intro e
    by_cases h : l.Nodup
    · exact h
    · obtain ⟨L', l1, l2⟩ := less_of_dup h
      have z := few_len nd (L := L'.map PySem.Froz.sing) fun y hy => by
        obtain ⟨c, hc, rfl⟩ := (mm y).mp hy
        exact List.mem_map.mpr ⟨c, l2 c hc, rfl⟩
      rw [List.length_map] at z
      omega
  · intro h
    have a := few_len nd (L := l.map PySem.Froz.sing) fun y hy => (mm' y).mp hy
    have b := few_len (map_sing_nodup h) (L := ks) fun y hy => (mm' y).mpr hy
    rw [List.length_map] at a b
    omega
def rotL (l : List Nat) (k : Nat) : List Nat := l.drop k ++ l.take k
/-- d is the least turn, one at least, that gives the loop again -/
def IsPer (l : List Nat) (d : Nat) : Prop := 1 ≤ d ∧ d ≤ l.length ∧ rotL l (d % l.length) = l ∧ ∀ j, 1 ≤ j → j < d → rotL l (j % l.length) ≠ l
theorem isLoop_len {l : List Nat} (h : isLoop l = true) : Az l ∧ 1 ≤ l.length ∧ l.length ≤ 12 := by
  unfold isLoop at h
  rw [Bool.and_eq_true, Bool.and_eq_true, decide_eq_true_eq, decide_eq_true_eq] at h
  exact ⟨isAz_iff.mp h.1, h.2⟩
theorem az_small {l : List Nat} (h : Az l) : l.all (· < 128) = true := by
  rw [List.all_eq_true]
  intro c hc
  have z := h c hc
  exact decide_eq_true (by omega)
theorem LoopV.text {H : Hp} {v : V} {b : Bool} (h : LoopV H v b) (hb : b = true) : ∃ l, v = .str (SX.S l) ∧ isLoop l = true := by
  cases h with
  | str l z => exact ⟨l, rfl, hb⟩
  | oth z => cases hb
theorem small12 {l : List Nat} (h : l.length ≤ 12) : (SX.S l).length ≤ sizeLine := by
  rw [SX.S_len]
  exact Nat.le_trans h (by decide)
section
variable {P : Program} {w : World} {K : PySem.W.Frag} {mg : Str → Option Value} {base : Heap}
def spPlain (C : Addr) : Sp := fun vs H Q E => ∃ v b, vs = [v] ∧ LoopV H v b ∧ (b = true → ∀ l, v = .str (SX.S l) → ∀ H', Same H H' → Q (.bl (decide l.Nodup)) H') ∧ (b = false → ∀ H', Same H H' → E (.ref C) none H')
def spTurned (C : Addr) : Sp := fun vs H Q E => ∃ v n b, vs = [v, .int n] ∧ LoopV H v b ∧ (b = true → ∀ l, v = .str (SX.S l) → ∀ H', Same H H' → Q (.str (SX.S (rotL l (n % l.length).toNat))) H') ∧ (b = false → ∀ H', Same H H' → E (.ref C) none H')
end
/-- the k-th letter of the endless loop -/
def lat (l : List Nat) (k : Nat) : Nat := l.getD (k % l.length) 0
theorem getD_eq {l : List Nat} {i : Nat} (h : i < l.length) : l.getD i 0 = l[i] := by
  rw [List.getD_eq_getElem?_getD, List.getElem?_eq_getElem h]
  rfl
theorem rotL_len (l : List Nat) (k : Nat) : (rotL l k).length = l.length := by
  unfold rotL
  rw [List.length_append, List.length_drop, List.length_take]
  omega
theorem rotL_at {l : List Nat} {k i : Nat} (hk : k < l.length) (hi : i < l.length) : (rotL l k).getD i 0 = l.getD ((i + k) % l.length) 0 := by
  unfold rotL
  rw [List.getD_eq_getElem?_getD, List.getD_eq_getElem?_getD]
  by_cases c : i < l.length - k
  · rw [List.getElem?_append_left (by rw [List.length_drop]; exact c), List.getElem?_drop, Nat.mod_eq_of_lt (by omega), Nat.add_comm]
  · rw [List.getElem?_append_right (by rw [List.length_drop]; omega), List.length_drop, List.getElem?_take, if_pos (by omega)]
    have e : (i + k) % l.length = i - (l.length - k) := by
      rw [Nat.mod_eq_sub_mod (by omega), Nat.mod_eq_of_lt (by omega)]
      omega
    rw [e]
theorem lat_mod (l : List Nat) (k : Nat) : lat l (k % l.length) = lat l k := by
  unfold lat
  rw [Nat.mod_mod]
theorem ext_getD {a b : List Nat} (hl : a.length = b.length) (h : ∀ i, i < a.length → a.getD i 0 = b.getD i 0) : a = b := by
  refine List.ext_getElem hl fun i h1 h2 => ?_
  have z := h i h1
  rw [getD_eq h1, getD_eq h2] at z
  exact z
theorem rot_per {l : List Nat} {j : Nat} (h0 : 0 < l.length) : rotL l (j % l.length) = l ↔ ∀ k, lat l (k + j) = lat l k := by
  have hj : j % l.length < l.length := Nat.mod_lt _ h0
  constructor
  · intro e k
    have hk : k % l.length < l.length := Nat.mod_lt _ h0
    have z := rotL_at hj hk
    rw [e] at z
    unfold lat
    rw [z, Nat.add_mod k j]
  · intro h
    refine ext_getD (rotL_len _ _) fun i hi => ?_
    rw [rotL_len] at hi
    rw [rotL_at hj hi]
    have z := h i
    unfold lat at z
    rw [Nat.mod_eq_of_lt hi] at z
    rw [← z]
    congr 1
    rw [Nat.add_mod i j, Nat.add_mod i (j % l.length), Nat.mod_mod]
theorem per_mul {l : List Nat} {d : Nat} (h : ∀ k, lat l (k + d) = lat l k) : ∀ q k, lat l (k + d * q) = lat l k
  | 0, k => by rw [Nat.mul_zero, Nat.add_zero]
  | q + 1, k => by
    rw [Nat.mul_succ, ← Nat.add_assoc, h, per_mul h q k]
theorem per_mod {l : List Nat} {d : Nat} (h : ∀ k, lat l (k + d) = lat l k) (k : Nat) : lat l (k % d) = lat l k := by
  have z := per_mul h (k / d) (k % d)
  rw [Nat.mod_add_div] at z
  exact z.symm
theorem take_at {l : List Nat} {d i : Nat} (hd : d ≤ l.length) (hi : i < d) : (l.take d).getD i 0 = lat l i := by
  unfold lat
  rw [Nat.mod_eq_of_lt (by omega), List.getD_eq_getElem?_getD, List.getElem?_take, if_pos hi, ← List.getD_eq_getElem?_getD]
theorem per_of {l : List Nat} {d : Nat} (h : IsPer l d) : ∀ k, lat l (k + d) = lat l k := (rot_per (by have := h.1; have := h.2.1; omega)).mp h.2.2.1
/-- two loops have one root just where they read alike for ever -/
theorem roots {a b : List Nat} {d e : Nat} (ha : IsPer a d) (hb : IsPer b e) : a.take d = b.take e ↔ ∀ k, lat a k = lat b k := by
  have pa := per_of ha
  have pb := per_of hb
  have la : (a.take d).length = d := by rw [List.length_take]; exact Nat.min_eq_left ha.2.1
  have lb : (b.take e).length = e := by rw [List.length_take]; exact Nat.min_eq_left hb.2.1
  constructor
  · intro z k
    have ed : d = e := by rw [← la, z, lb]
    subst ed
    rw [← per_mod pa k, ← per_mod pb k]
    have hk : k % d < d := Nat.mod_lt _ ha.1
    rw [← take_at ha.2.1 hk, ← take_at hb.2.1 hk, z]
  · intro z
    have ed : d = e := by
      rcases Nat.lt_trichotomy d e with c | c | c
      · have q : ∀ k, lat b (k + d) = lat b k := fun k => by rw [← z, ← z, pa]
        exact absurd ((rot_per (by have := hb.1; have := hb.2.1; omega)).mpr q) (hb.2.2.2 d ha.1 c)
      · exact c
      · have q : ∀ k, lat a (k + e) = lat a k := fun k => by rw [z, z, pb]
        exact absurd ((rot_per (by have := ha.1; have := ha.2.1; omega)).mpr q) (ha.2.2.2 e hb.1 c)
    subst ed
    refine ext_getD (by rw [la, lb]) fun i hi => ?_
    rw [la] at hi
    rw [take_at ha.2.1 hi, take_at hb.2.1 hi, z]
theorem least {p : Nat → Prop} : ∀ n, p n → ∃ k, p k ∧ k ≤ n ∧ ∀ j, j < k → ¬ p j := by
  intro n
  induction n using Nat.strongRecOn with
  | ind n ih =>
    intro h
    by_cases c : ∃ j, j < n ∧ p j
    · obtain ⟨j, hj, hp⟩ := c
      obtain ⟨k, k1, k2, k3⟩ := ih j hj hp
      exact ⟨k, k1, by omega, k3⟩
    · exact ⟨n, h, Nat.le_refl _, fun j hj hp => c ⟨j, hj, hp⟩⟩
/-- each loop has a root -/
theorem per_ex {l : List Nat} (h0 : 0 < l.length) : ∃ d, IsPer l d := by
  have hn : 1 ≤ l.length ∧ rotL l (l.length % l.length) = l := ⟨h0, by rw [Nat.mod_self]; unfold rotL; simp⟩
  obtain ⟨k, k1, k2, k3⟩ := least (p := fun d => 1 ≤ d ∧ rotL l (d % l.length) = l) l.length hn
  exact ⟨k, k1.1, k2, k1.2, fun j j1 j2 e => k3 j j2 ⟨j1, e⟩⟩
/-- two loops that read alike for as many letters as their lengths' product read alike for ever -/
theorem alike_all {a b : List Nat} (h : ∀ k, k < a.length * b.length → lat a k = lat b k) (ha : 0 < a.length) (hb : 0 < b.length) : ∀ k, lat a k = lat b k := by
  intro k
  have hk : k % (a.length * b.length) < a.length * b.length := Nat.mod_lt _ (Nat.mul_pos ha hb)
  have z := h _ hk
  unfold lat at z ⊢
  rw [Nat.mod_mul_right_mod, Nat.mod_mul_left_mod] at z
  exact z
section
variable {P : Program} {w : World} {K : PySem.W.Frag} {mg : Str → Option Value} {base : Heap}
def spRoot (C : Addr) : Sp := fun vs H Q E => ∃ v b, vs = [v] ∧ LoopV H v b ∧ (b = true → ∀ l d, v = .str (SX.S l) → IsPer l d → ∀ H', Same H H' → Q (.str (SX.S (l.take d))) H') ∧ (b = false → ∀ H', Same H H' → E (.ref C) none H')
/-- how many letters two loops read alike, or None -/
def spAlike (C : Addr) : Sp := fun vs H Q E => ∃ v u b c, vs = [v, u] ∧ LoopV H v b ∧ LoopV H u c ∧ (b = true → c = true → ∀ l m, v = .str (SX.S l) → u = .str (SX.S m) →
    ((∀ k, lat l k = lat m k) → ∀ H', Same H H' → Q .non H') ∧ (∀ k : Nat, lat l k ≠ lat m k → (∀ j, j < k → lat l j = lat m j) → ∀ H', Same H H' → Q (.int k) H')) ∧ ((b && c) = false → ∀ H', Same H H' → E (.ref C) none H')
theorem lat_item {l : List Nat} (h0 : 0 < l.length) (k : Nat) : (SX.S l).cps[((k : Int) % (l.length : Int)).toNat]? = some (lat l k) := by
  have e : ((k : Int) % (l.length : Int)).toNat = k % l.length := by omega
  have hk : k % l.length < l.length := Nat.mod_lt _ h0
  rw [e]
  show (l.toArray)[k % l.length]? = some (lat l k)
  rw [List.getElem?_toArray, List.getElem?_eq_getElem hk]
  unfold lat
  rw [getD_eq hk]
end

end Lk
end
section
set_option maxRecDepth 100000
set_option maxHeartbeats 2000000
namespace Lk
open PySem PySem.Spec PyProof.Rows L2
section
variable {P : Program} {w : World} {K : PySem.W.Frag} {mg : Str → Option Value} {base : Heap}
theorem sc_letters : FnScope ["thing", "sign"] ["thing"] (defScope s_is_letters) := ⟨rfl, rfl, rfl, by decide +kernel, rfl, by decide +kernel, by decide +kernel⟩
theorem ok_letters {f : Addr} {fd : FuncData} (F : Fun K "is_letters" "is_letters" s_is_letters f fd) (mi : mg "isinstance" = none) (ms : mg "str" = none) (ma : mg "all" = none) : FnOk P w K mg base CX0 1 f fd ["thing"] spLetters := by
  refine F.ok sc_letters (fun vs H Q E h => ?_) (fun cdv A outer s H vs Q E hr h => ?_)
  · obtain ⟨v, b, rfl, _⟩ := h
    rfl
  · obtain ⟨v, b, rfl, hv, q⟩ := h
    have nd := sc_letters.nd
    refine ⟨_, pss_one (ps_ret (pe_and (pe_callB call_isi (by rfl) mi (by decide +kernel) (pa_cons (pv 0) (pa_cons (pe_bltn (v := .ty "str") (by rfl) ms (by decide +kernel) rfl) pa_nil)))
      (pe_one (pe_callB (cr_all rfl) (by rfl) ma (by decide +kernel) (pa_cons (pe_lc (own := [("sign", 1)]) (g := gName 1) (tt := tYes) rfl nd (pi_str (pv 0)) (blkOk_by (N := ["thing", "sign"]) (sc := defScope s_is_letters) (by decide +kernel))
        (fun _ _ _ _ _ => pg_name (i := 1) nd rfl (Or.inl rfl)) (fun _ _ _ _ _ => pts_nil)
        (fun _ _ _ _ _ => pe_chain op_le_str op_le_str pe_str (pv 1) pe_str)) pa_nil))))), ?_⟩
    cases hv with
    | oth h =>
      obtain ⟨n, ty, kb⟩ := h.ty (K := K)
      refine ⟨_, rfl, v, .ty "str", _, _, false, rfl, .ty _, ty, kit_ty kb, false, rfl, ?_⟩
      exact q H (Same.refl H)
    | str l hl =>
      refine ⟨_, rfl, _, .ty "str", _, _, true, rfl, .ty _, .base (.str _), kit_ty (by decide +kernel), true, rfl, ?_⟩
      refine ⟨_, rfl, _, rfl, fun D nD => ?_⟩
      refine lc_it walk_str (fun i H3 => Same H H3 ∧ H3 D = some (.lst (((l.take i).map azC).map V.bl))) ⟨same_new nD, upd_same⟩ (fun _ _ _ _ => True.intro) ?_ ?_
      · rintro i x H3 H4 hi ⟨s3, e3⟩ ⟨rfl, c, hc, rfl⟩
        have hc' : l[i]? = some c := by
          rw [← hc]
          show l[i]? = (l.toArray)[i]?
          rw [List.getElem?_toArray]
        refine ⟨rfl, _, rfl, _, _, rfl, rfl, _, rfl, ?_⟩
        rw [az_ge]
        have hi' : i < l.length := (List.getElem?_eq_some_iff.mp hc').1
        have step : ∀ b : Bool, b = azC c → ∃ acc, H4 D = some (HO.lst acc) ∧ acc.length < sizeLine ∧ Same H (upd H4 D (HO.lst (acc ++ [V.bl b]))) ∧ upd H4 D (HO.lst (acc ++ [V.bl b])) D = some (HO.lst (((l.take (i + 1)).map azC).map V.bl)) := by
          intro b e
          refine ⟨_, e3, ?_, fun b o e => ?_, ?_⟩
          · rw [List.length_map, List.length_map, List.length_take]
            exact Nat.lt_of_le_of_lt (show min i l.length ≤ 100000 by omega) (by decide)
          · rw [upd_ne (ne_of_none e nD)]
            exact s3 b o e
          · rw [upd_same, List.take_add_one, hc', List.map_append, List.map_append, e]
            rfl
        refine ite2 (fun g => ?_) (fun g => ?_)
        · refine ⟨_, _, rfl, rfl, step _ ?_⟩
          have z := az_le c
          unfold azC
          rw [g, Bool.true_and]
          exact z
        · refine step false ?_
          unfold azC
          rw [Bool.eq_false_iff.mpr g, Bool.false_and]
      · rintro H3 ⟨s3, e3⟩
        have el : l.take ((SX.S l).cps.size) = l := List.take_of_length_le (by show l.length ≤ (l.toArray).size; rw [List.size_toArray]; exact Nat.le_refl _)
        rw [el] at e3
        refine ⟨D, _, rfl, SqL.of e3, ?_⟩
        show Q (.bl ((l.map azC).all id)) H3
        have e : (l.map azC).all id = isAz l := by
          rw [List.all_map]
          rfl
        rw [e]
        exact q H3 s3
end
end Lk
end
section
set_option maxRecDepth 100000
set_option maxHeartbeats 2000000
namespace Lk
open PySem PySem.Spec PyProof.Rows L2
section
variable {P : Program} {w : World} {K : PySem.W.Frag} {mg : Str → Option Value} {base : Heap}
theorem sc_word : FnScope ["thing"] ["thing"] (defScope s_is_word) := ⟨rfl, rfl, rfl, by decide +kernel, rfl, by decide +kernel, by decide +kernel⟩
theorem ok_word {f : Addr} {fd : FuncData} (F : Fun K "is_word" "is_word" s_is_word f fd) (cl : C8.Cal P w K mg base 1 "is_letters" spLetters []) (ml : mg "len" = none) : FnOk P w K mg base CX0 2 f fd ["thing"] spWord := by
  refine F.ok sc_word (fun vs H Q E h => ?_) (fun cdv A outer s H vs Q E hr h => ?_)
  · obtain ⟨v, b, rfl, _⟩ := h
    rfl
  · obtain ⟨v, b, rfl, hv, q⟩ := h
    refine ⟨_, pss_one (ps_ret (pe_and (C8.pe_c cl hr (Nat.le_refl _) rfl (pa_cons (pv 0) pa_nil))
      (pe_one (pe_cmpR op_gt (pe_callB call_len_str (by rfl) ml PySem.boot_len (pa_cons (pv 0) pa_nil)) pe_int (nomark _))))), ?_⟩
    cases hv with
    | oth h =>
      refine ⟨_, rfl, _, _, rfl, .oth h, fun H1 s1 => ⟨_, rfl, ?_⟩⟩
      exact q H1 s1
    | str l hl =>
      refine ⟨_, rfl, _, _, rfl, .str l hl, fun H1 s1 => ⟨_, rfl, ?_⟩⟩
      unfold isWord at q
      cases e : isAz l with
      | false =>
        rw [e] at q
        exact q H1 s1
      | true =>
        rw [e, Bool.true_and] at q
        refine ⟨_, rfl, SX.S l, rfl, (by rw [SX.S_len]; exact Nat.le_trans hl (by decide)), _, _, rfl, rfl, ?_⟩
        rw [SX.S_len]
        have e2 : decide ((l.length : Int) > 0) = decide (0 < l.length) := by
          by_cases c : 0 < l.length
          · rw [decide_eq_true c, decide_eq_true (by omega)]
          · rw [decide_eq_false c, decide_eq_false (by omega)]
        show Q (.bl (decide ((l.length : Int) > 0))) H1
        rw [e2]
        exact q H1 s1
end
end Lk
end
section
set_option maxRecDepth 100000
set_option maxHeartbeats 2000000
namespace Lk
open PySem PySem.Spec PyProof.Rows L2
section
variable {P : Program} {w : World} {K : PySem.W.Frag} {mg : Str → Option Value} {base : Heap}
theorem sc_known : FnScope ["thing", "numbers", "word", "later"] ["thing"] (defScope s_is_known) := ⟨rfl, rfl, rfl, by decide +kernel, rfl, by decide +kernel, by decide +kernel⟩
theorem ok_known {f : Addr} {fd : FuncData} (F : Fun K "is_known" "is_known" s_is_known f fd) (cw : C8.Cal P w K mg base 2 "is_word" spWord []) (cn : C8.Cal P w K mg base 1 "numbered" (spNumbered K) [])
    (mi : mg "isinstance" = none) (mt : mg "tuple" = none) (ma : mg "all" = none) (mz : mg "zip" = none) : FnOk P w K mg base CX0 3 f fd ["thing"] spIsKnown := by
  refine F.ok sc_known (fun vs H Q E h => ?_) (fun cdv A outer s H vs Q E hr h => ?_)
  · obtain ⟨v, b, rfl, _⟩ := h
    rfl
  · obtain ⟨v, b, rfl, hv, q⟩ := h
    have nd := sc_known.nd
    have hu := hu_of hr
    refine ⟨_, pss_cons (by exact (ps_if (PW.pt (pw_or (pt_not (pt_val (pe_callB call_isi (by rfl) mi (by decide +kernel) (pa_cons (pv 0) (pa_cons (pe_bltn (v := .ty "tuple") (by rfl) mt (by decide +kernel) rfl) pa_nil)))))
        (pw_or1 (pt_not (pt_val (pe_callB (cr_all rfl) (by rfl) ma (by decide +kernel) (pa_cons (pe_lc (own := [("word", 2)]) (g := gName 2) (tt := tYes) rfl nd (pi_tup (pv 0)) (blkOk_by (N := nK) (sc := defScope s_is_known) (by decide +kernel))
          (fun _ _ _ _ _ => pg_name (i := 2) nd rfl (Or.inl rfl)) (fun _ _ _ _ _ => pts_nil) (fun _ _ _ _ _ => C8.pe_c cw hr (by decide) rfl (pa_cons (pv 2) pa_nil))) pa_nil))))))) (pss_one (ps_ret pe_bl)) pss_nil))
      (pss_cons (by exact (ps_if (pt_not (pt_val (pe_callB (cr_all rfl) (by rfl) ma (by decide +kernel) (pa_cons (pe_lc (own := [("word", 2), ("later", 3)]) (g := gTup K 2 (gCons (gName 2) (gCons (gName 3) gNil))) (tt := tYes) rfl nd
          (RZ.pi_zipA (by rfl) mz (pa_cons (pv 0) (pa_cons (pe_slice sl_tail (pv 0) (po_some pe_int) po_none) pa_nil))) (blkOk_by (N := nK) (sc := defScope s_is_known) (by decide +kernel))
          (fun _ _ _ _ _ => pg_tup rfl (pgs_cons (pg_name (i := 2) nd rfl (Or.inl rfl)) (pgs_cons (pg_name (i := 3) nd rfl (Or.inl rfl)) pgs_nil))) (fun _ _ _ _ _ => pts_nil) (fun _ _ _ _ _ => pe_cmpR op_lt_str (pv 2) (pv 3) (nomark _))) pa_nil)))) (pss_one (ps_ret pe_bl)) pss_nil))
      (pss_cons (by exact (ps_set (i := 1) nd rfl (Or.inr rfl) (C8.pe_c cn hr (by decide) rfl (pa_cons (pv 0) pa_nil))))
      (pss_one (by exact (ps_ret (pe_callB (cr_all rfl) (by rfl) ma (by decide +kernel) (pa_cons (pe_lc (own := [("word", 2)]) (g := gName 2) (tt := tYes) rfl nd (pi_tup (pv 0)) (blkOk_by (N := nK) (sc := defScope s_is_known) (by decide +kernel))
          (fun _ _ _ _ _ => pg_name (i := 2) nd rfl (Or.inl rfl)) (fun _ _ _ _ _ => pts_nil) (fun _ _ _ _ _ => pe_cmp (pc_din hu (pe_slice C8.sl_txt (pv 2) po_none (po_some (pe_un un_neg pe_int))) (pv 1)) rfl)) pa_nil))))))), ?_⟩
    have split : (NoTup H v ∧ b = false) ∨ ∃ (a : Addr) (xs : List V) (bs : List Bool), v = .ref a ∧ H a = some (.tup xs) ∧ xs.length ≤ 100000 ∧ bs.length = xs.length ∧ (∀ (i : Nat) (x : V) (b : Bool), xs[i]? = some x → bs[i]? = some b → WordV H x b) ∧
        (bs.all id = true → ∃ ws, xs = tx ws ∧ bs = ws.map isWord ∧ (∀ x ∈ ws, x.length ≤ 100000) ∧ b = isKnown ws) ∧ (bs.all id = false → b = false) := by
      cases hv with
      | no h => exact .inl ⟨h, rfl⟩
      | bad e hl h hw hb => exact .inr ⟨_, _, _, rfl, e, hl, h, hw, fun z => (by rw [hb] at z; cases z), fun _ => rfl⟩
      | tup e hl h =>
        rename_i a ws
        refine .inr ⟨_, _, ws.map isWord, rfl, e, by rw [List.length_map]; exact hl, by rw [List.length_map, List.length_map], fun i x b hx hb => ?_, fun _ => ⟨ws, rfl, rfl, h, rfl⟩, fun z => ?_⟩
        · rw [List.getElem?_map] at hx hb
          cases e2 : ws[i]? with
          | none => rw [e2] at hx; cases hx
          | some l =>
            rw [e2] at hx hb
            cases hx
            cases hb
            exact .str l (h l (List.mem_of_getElem? e2))
        · have e2 : (ws.map isWord).all id = ws.all isWord := by rw [List.all_map]; rfl
          rw [e2] at z
          unfold isKnown
          rw [z]
          rfl
    rcases split with ⟨hno, rfl⟩ | ⟨a, xs, bs, rfl, ha, hl, hbl, hw, yes, no⟩
    · obtain ⟨n, ty, kb⟩ := hno.ty (K := K)
      refine ⟨_, rfl, v, .ty "tuple", _, _, false, rfl, .ty _, ty, kit_ty kb, false, rfl, ?_⟩
      exact q H (Same.refl H)
    · clear hv
      refine ⟨_, rfl, .ref a, .ty "tuple", _, _, true, rfl, .ty _, .base (.tup ha), kit_ty (by decide +kernel), true, rfl, ?_⟩
      refine ⟨_, rfl, a, rfl, ⟨xs, SqT.of ha⟩, fun D nD => ?_⟩
      refine lc_it walk_tup (fun i H3 => Same H H3 ∧ H3 D = some (.lst ((bs.take i).map V.bl))) ⟨same_new nD, upd_same⟩ (fun i H3 _ p => SqT.of (p.1 _ _ ha)) ?_ ?_
      · rintro i x H3 H4 hi ⟨s3, e3⟩ ⟨rfl, hx⟩
        obtain ⟨c, hc⟩ : ∃ c, bs[i]? = some c := ⟨bs[i], List.getElem?_eq_getElem (by omega)⟩
        refine ⟨rfl, _, rfl, x, c, rfl, (hw i x c hx hc).same s3, fun H5 s5 => ?_⟩
        obtain ⟨acc, a1, a2, a3, a4⟩ := snoc_bl (H4 := H5) (D := D) (s5 _ _ e3) hc (by omega)
        exact ⟨acc, a1, a2, same_push (s3.trans s5) nD, a3⟩
      · rintro H3 ⟨s3, e3⟩
        rw [← hbl, List.take_length] at e3
        refine ⟨D, bs, rfl, SqL.of e3, ?_⟩
        cases hb : bs.all id with
        | false =>
          have z := no hb
          subst z
          refine ⟨_, rfl, ?_⟩
          exact q H3 s3
        | true =>
          obtain ⟨ws, rfl, rfl, hlen, rfl⟩ := yes hb
          have hb2 : ws.all isWord = true := by rw [← hb, List.all_map]; rfl
          refine ⟨_, rfl, ?_⟩
          have hnw : ∀ l ∈ ws, l ≠ [] := fun l h => word_ne (List.all_eq_true.mp hb2 l h)
          have hl2 : ws.length ≤ 100000 := by rw [List.length_map] at hl; exact hl
          have hsz : ∀ l ∈ ws, (SX.S l).length ≤ sizeLine := fun l h => by rw [SX.S_len]; exact Nat.le_trans (hlen l h) (by decide)
          clear hw yes no hb hbl e3
          -- not all of the pairs that stand one behind the other
          have h3 : H3 a = some (.tup (tx ws)) := s3 _ _ ha
          refine ⟨_, rfl, _, rfl, _, rfl, a, tx ws, rfl, rfl, rfl, SqT.of h3, fun a2 H4 s4 hT2 => ⟨a, a2, tx ws, (tx ws).drop 1, rfl, .inr ⟨SqT.of (s4 _ _ h3), hT2, fun D2 nD2 => ?_⟩⟩⟩
          have s34 := s3.trans s4
          have hrl : (risebs ws).length = min (tx ws).length ((tx ws).drop 1).length := by
            unfold risebs
            rw [List.length_map, List.length_zip, List.length_drop, List.length_drop, List.length_map]
          have hrl2 : (risebs ws).length ≤ 100000 := by
            rw [hrl, List.length_map]
            omega
          refine lc_it (walk_zipTx hrl) (fun i H5 => Same H4 H5 ∧ H5 D2 = some (.lst (((risebs ws).take i).map V.bl))) ⟨same_new nD2, upd_same⟩ (fun i H5 _ p => ⟨SqT.of (p.1 _ _ (s4 _ _ h3)), SqT_same hT2 p.1⟩) ?_ ?_
          · rintro i x H5 H6 hi ⟨s5, e5⟩ ⟨T, x1, x2, rfl, nT, rfl, hx1, hx2⟩
            obtain ⟨l1, hl1, rfl⟩ := tx_at (show (tx ws)[i]? = some x1 from hx1)
            obtain ⟨l2, hl2', rfl⟩ := tx_at (ws := ws.drop 1) (x := x2) (by rw [tx, List.map_drop]; exact hx2)
            have hc : (risebs ws)[i]? = some (decide (l1 < l2)) := by
              unfold risebs
              rw [List.getElem?_map, List.getElem?_zip_eq_some (z := (l1, l2)).mpr ⟨hl1, hl2'⟩]
              rfl
            refine ⟨T, [.str (SX.S l1), .str (SX.S l2)], rfl, SqT.of upd_same, rfl, _, _, rfl, _, _, rfl, rfl, rfl, _, rfl, _, rfl, _, _, rfl, rfl, ?_⟩
            obtain ⟨acc, a1, a2, a3, a4⟩ := snoc_bl (H4 := upd H5 T (.tup [.str (SX.S l1), .str (SX.S l2)])) (D := D2) (by rw [upd_ne (ne_of_none e5 nT)]; exact e5) hc hrl2
            exact ⟨acc, a1, a2, same_push (s5.trans (same_new nT)) nD2, a3⟩
          · rintro H5 ⟨s5, e5⟩
            rw [List.take_length] at e5
            refine ⟨D2, _, rfl, SqL.of e5, ?_⟩
            rw [riseT_all]
            have s35 := s34.trans s5
            cases hri : Rise ws with
            | false =>
              refine ⟨_, rfl, ?_⟩
              have z : isKnown ws = false := by unfold isKnown; rw [hri, hb2]; rfl
              rw [z] at q
              exact q H5 s35
            | true =>
              refine ⟨_, rfl, _, rfl, a, ws, rfl, SqT.of (s5 _ _ (s4 _ _ h3)), nodup0 hb2 hri, hl2, fun p H6 np hp s6 => ?_⟩
              have s36 := s35.trans s6
              have hz : isKnown ws = Clos ws := by unfold isKnown; rw [hri, hb2]; rfl
              rw [hz] at q
              refine ⟨_, rfl, a, rfl, ⟨_, SqT.of (s36 _ _ ha)⟩, fun D3 nD3 => ?_⟩
              have hcl : (ws.map fun l => decide (l.take (l.length - 1) ∈ ([] : List Nat) :: ws)).length ≤ 100000 := by rw [List.length_map]; exact hl2
              refine lc_it walk_tup (fun i H7 => Same H6 H7 ∧ H7 D3 = some (.lst (((ws.map fun l => decide (l.take (l.length - 1) ∈ ([] : List Nat) :: ws)).take i).map V.bl))) ⟨same_new nD3, upd_same⟩ (fun i H7 _ z => SqT.of (z.1 _ _ (s36 _ _ ha))) ?_ ?_
              · rintro i x H7 H8 hi ⟨s7, e7⟩ ⟨rfl, hx⟩
                obtain ⟨l, hl', rfl⟩ := tx_at hx
                have hm : l ∈ ws := List.mem_of_getElem? hl'
                have hc : (ws.map fun l => decide (l.take (l.length - 1) ∈ ([] : List Nat) :: ws))[i]? = some (decide (l.take (l.length - 1) ∈ ([] : List Nat) :: ws)) := by
                  rw [List.getElem?_map, hl']
                  rfl
                refine ⟨rfl, _, rfl, _, rfl, _, rfl, SX.S l, rfl, hsz l hm, ?_⟩
                rw [show (-(1 : Int)) = -1 from rfl, SX.slice_butlast (hnw l hm)]
                refine ⟨_, rfl, p, _, rfl, DGet.k (k := Sum.inr (SX.S (l.take (l.length - 1)))) (s7 _ _ hp), ?_⟩
                rw [num_is]
                obtain ⟨acc, a1, a2, a3, a4⟩ := snoc_bl (H4 := H8) (D := D3) e7 hc hcl
                exact ⟨acc, a1, a2, same_push s7 nD3, a3⟩
              · rintro H7 ⟨s7, e7⟩
                rw [show (tx ws).length = (ws.map fun l => decide (l.take (l.length - 1) ∈ ([] : List Nat) :: ws)).length by rw [List.length_map, List.length_map], List.take_length] at e7
                refine ⟨D3, _, rfl, SqL.of e7, ?_⟩
                rw [List.all_map]
                exact q H7 (s36.trans s7)
end
end Lk
end
section
set_option maxRecDepth 100000
set_option maxHeartbeats 2000000
namespace Lk
open PySem PySem.Spec PyProof.Rows L2
section
variable {P : Program} {w : World} {K : PySem.W.Frag} {mg : Str → Option Value} {base : Heap}
theorem sc_refK : FnScope ["known"] ["known"] (defScope s_refuse_unknown) := ⟨rfl, rfl, rfl, by decide +kernel, rfl, by decide +kernel, by decide +kernel⟩
theorem ok_refK {f C : Addr} {fd : FuncData} (F : Fun K "refuse_unknown" "refuse_unknown" s_refuse_unknown f fd) (cl : C8.Cal P w K mg base 3 "is_known" spIsKnown []) (T : ErrC K mg "NoKnown" C) : FnOk P w K mg base (L2.CX P w) 4 f fd ["known"] (spRefK C) := by
  refine F.okX sc_refK (fun vs H Q E h => ?_) (fun cdv A outer s H vs Q E hr h => ?_)
  · obtain ⟨v, b, rfl, _⟩ := h
    rfl
  · obtain ⟨v, b, rfl, hv, q0, q1⟩ := h
    refine ⟨_, pss_one (ps_if (pt_not (pt_val (C8.pe_c cl hr (Nat.le_refl _) rfl (pa_cons (pv 0) pa_nil))))
      (pss_one (ps_raise rfl (takes_of rfl rfl rfl rfl) (pmk_own PySem.F.excBase_ValueError T.x T.g T.k (raises_own T.b T.t) rfl))) pss_nil), ?_⟩
    refine ⟨_, rfl, v, b, rfl, hv, fun H1 s1 => ⟨b, rfl, ?_⟩⟩
    cases b with
    | true => exact q0 rfl H1 s1
    | false => exact q1 rfl H1 s1
end
end Lk
end
section
set_option maxRecDepth 100000
set_option maxHeartbeats 2000000
namespace Lk
open PySem PySem.Spec PyProof.Rows L2
section
variable {P : Program} {w : World} {K : PySem.W.Frag} {mg : Str → Option Value} {base : Heap}
theorem sc_numbered : FnScope ["words", "numbers", "word"] ["words"] (defScope s_numbered) := ⟨rfl, rfl, rfl, by decide +kernel, rfl, by decide +kernel, by decide +kernel⟩
theorem ok_numbered {f : Addr} {fd : FuncData} (F : Fun K "numbered" "numbered" s_numbered f fd) (ml : mg "len" = none) : FnOk P w K mg base CX0 1 f fd ["words"] (spNumbered K) := by
  refine F.ok sc_numbered (fun vs H Q E h => ?_) (fun cdv A outer s H vs Q E hr h => ?_)
  · obtain ⟨a, ws, rfl, _⟩ := h
    rfl
  · obtain ⟨a, ws, rfl, hT, nodup, hl, q⟩ := h
    have nd := sc_numbered.nd
    have hu := hu_of hr
    refine ⟨_, pss_cons (ps_set (i := 1) nd rfl (Or.inl rfl) (pe_disp (pps_cons pe_str pe_int pps_nil) (by rfl) (by rfl) (fun z => by cases z) (by decide)))
      (pss_cons (ps_for PassesOwn.never rfl (pi_tup (pv 0)) (pg_name (i := 2) nd rfl (Or.inl rfl)) (pss_one (ps_dput hu (pv 1) (pv 2) (pe_callB call_lenD (by rfl) ml PySem.boot_len (pa_cons (pv 1) pa_nil)) rfl)))
      (pss_one (ps_ret (pv 1)))), ?_⟩
    refine fun p np => ⟨upd_same, [(Sum.inr (Str.ofString ""), .int 0)], rfl, by decide, ?_⟩
    rw [upd_upd]
    have e0 : mergeK [] [((Sum.inr (Str.ofString "") : Key), V.int 0)] = numFrom 0 [[]] := by rfl
    rw [e0]
    have hp : ∀ H1 : Hp, Same H H1 → SqT K H1 a (tx ws) := fun H1 s => SqT_same hT s
    refine ⟨_, rfl, a, rfl, ⟨_, hp _ (same_new np)⟩, for_tup (K := K) (a := a) (xs := tx ws) (fun i σ H1 => ∃ y, σ = [some (.ref a), some (.ref p), y] ∧ H1 p = some (.dK (numFrom 0 ([] :: ws.take i))) ∧ Same H H1) ⟨_, rfl, upd_same, same_new np⟩ ?_ ?_ ?_⟩
    · rintro i σ H1 hi ⟨y, rfl, e1, s1⟩
      exact hp _ s1
    · rintro i x σ H1 hx ⟨y, rfl, e1, s1⟩
      have hi : i < ws.length := by
        have z := (List.getElem?_eq_some_iff.mp hx).1
        rwa [List.length_map] at z
      have ew : ws[i]? = some ws[i] := List.getElem?_eq_getElem hi
      have hx2 : x = .str (SX.S ws[i]) := by
        rw [List.getElem?_map, ew] at hx
        exact (Option.some.inj hx).symm
      subst hx2
      have nin : ws[i] ∉ ([] : List Nat) :: ws.take i := by
        intro z
        rcases List.mem_cons.mp z with z | z
        · exact (List.nodup_cons.mp nodup).1 (z ▸ List.getElem_mem hi)
        · obtain ⟨j, hj, ej⟩ := List.mem_iff_getElem.mp z
          rw [List.getElem_take] at ej
          have hj2 : j < i := by
            rw [List.length_take] at hj
            omega
          have h3 := (List.nodup_cons.mp nodup).2
          exact List.pairwise_iff_getElem.mp h3 j i (by omega) hi hj2 ej
      refine ⟨_, rfl, p, _, rfl, e1, _, rfl, _, rfl, p, _, rfl, DPut.k (k := Sum.inr (SX.S ws[i])) e1 ?_, ?_⟩
      · rw [num_len, List.length_cons, List.length_take]
        exact Nat.lt_of_le_of_lt (show min i ws.length + 1 ≤ 100001 by omega) (by decide)
      · have el : ((numFrom 0 ([] :: ws.take i)).length : Int) = ((([] : List Nat) :: ws.take i).length : Nat) := by rw [num_len]
        rw [el, num_put nin]
        refine ⟨_, rfl, ?_, fun b o e => ?_⟩
        · rw [upd_same, List.take_add_one, ew]
          rfl
        · rw [upd_ne (ne_of_none e np)]
          exact s1 b o e
    · rintro σ H1 ⟨y, rfl, e1, s1⟩
      refine ⟨_, rfl, ?_⟩
      rw [List.length_map, List.take_length] at e1
      exact q p H1 np e1 s1
end
end Lk
end
section
set_option maxRecDepth 100000
set_option maxHeartbeats 2000000
namespace Lk
open PySem PySem.Spec PyProof.Rows L2
section
variable {P : Program} {w : World} {K : PySem.W.Frag} {mg : Str → Option Value} {base : Heap}
theorem sc_longest : FnScope ["numbers", "text", "at", "end"] ["numbers", "text", "at"] (defScope s_longest_end) := ⟨rfl, rfl, rfl, by decide +kernel, rfl, by decide +kernel, by decide +kernel⟩
theorem ok_longest {f : Addr} {fd : FuncData} (F : Fun K "longest_end" "longest_end" s_longest_end f fd) (ml : mg "len" = none) : FnOk P w K mg base CX0 1 f fd ["numbers", "text", "at"] spLongest := by
  refine F.ok sc_longest (fun vs H Q E h => ?_) (fun cdv A outer s H vs Q E hr h => ?_)
  · obtain ⟨d, ws, t, a, rfl, _⟩ := h
    rfl
  · obtain ⟨d, ws, t, a, rfl, hd, ha, ht, q⟩ := h
    have nd := sc_longest.nd
    have hu := hu_of hr
    have hts : (SX.S t).length ≤ sizeLine := by rw [SX.S_len]; exact Nat.le_trans ht (by decide)
    refine ⟨_, pss_cons (ps_set (i := 3) nd rfl (Or.inl rfl) (pv 2))
      (pss_cons (ps_while PassesOwn.never (PW.pt (pw_and (pt_cmpR op_lt (pv 3) (pe_callB call_len_str (by rfl) ml PySem.boot_len (pa_cons (pv 1) pa_nil)) (nomark _))
          (pw_and1 (pt_cmp (pc_din hu (pe_slice C8.sl_txt (pv 1) (po_some (pv 2)) (po_some (pe_op op_add (pv 3) pe_int))) (pv 0))))))
        (pss_one (ps_aug (i := 3) nd rfl (Or.inl rfl) pe_int ip_add)))
      (pss_one (ps_ret (pv 3)))), ?_⟩
    refine ⟨_, rfl, fun m σ H1 => ∃ b : Nat, H1 = H ∧ σ = [some (.ref d), some (.str (SX.S t)), some (.int (a : Nat)), some (.int (b : Nat))] ∧ m = t.length - b ∧ a ≤ b ∧ b ≤ t.length ∧ ∀ j, a < j → j ≤ b → sub t a j ∈ ws,
      ⟨_, a, rfl, rfl, rfl, Nat.le_refl _, ha, fun j j1 j2 => absurd j1 (by omega)⟩, ?_⟩
    rintro m σ H1 ⟨b, rfl, rfl, rfl, hab, hb, hall⟩
    refine ⟨_, rfl, _, rfl, SX.S t, rfl, hts, _, _, rfl, rfl, _, rfl, ?_⟩
    rw [SX.S_len]
    refine ite2 (fun g => ?_) (fun g => ?_)
    · have g1 : b < t.length := by have z := of_decide_eq_true g; omega
      refine ⟨_, rfl, _, rfl, _, rfl, _, rfl, _, _, rfl, rfl, _, rfl, SX.S t, rfl, hts, ?_⟩
      rw [slice_sub (by omega) (by omega) (by omega), show ((a : Nat) : Int).toNat = a by omega, show ((b : Nat) + 1 : Int).toNat = b + 1 by omega]
      refine ⟨_, rfl, d, _, rfl, DGet.k (k := Sum.inr (SX.S (sub t a (b + 1)))) hd, _, rfl, ?_⟩
      rw [num_is]
      refine ite2 (fun c => ?_) (fun c => ?_)
      · have c1 := of_decide_eq_true c
        refine ⟨fun σ' H' => H' = H1 ∧ σ' = [some (.ref d), some (.str (SX.S t)), some (.int (a : Nat)), some (.int ((b + 1 : Nat) : Int))], fun σ' H' p => ?_, ?_⟩
        · obtain ⟨rfl, rfl⟩ := p
          refine ⟨t.length - (b + 1), by omega, b + 1, rfl, rfl, rfl, by omega, by omega, fun j j1 j2 => ?_⟩
          rcases Nat.lt_or_ge b j with z | z
          · rw [show j = b + 1 by omega]; exact c1
          · exact hall j j1 z
        · exact ⟨_, rfl, _, _, rfl, rfl, rfl, rfl⟩
      · have c1 := of_decide_eq_false (Bool.eq_false_iff.mpr c)
        exact ⟨_, rfl, q b ⟨hab, hb, hall, fun _ => c1⟩⟩
    · have g1 : b = t.length := by
        have z : ¬ ((b : Int) < t.length) := fun c => g (decide_eq_true c)
        omega
      exact ⟨_, rfl, q b ⟨hab, hb, hall, fun z => absurd z (by omega)⟩⟩
end
end Lk
end
section
set_option maxRecDepth 100000
set_option maxHeartbeats 2000000
namespace Lk
open PySem PySem.Spec PyProof.Rows L2
section
variable {P : Program} {w : World} {K : PySem.W.Frag} {mg : Str → Option Value} {base : Heap}
theorem sc_is_loop : FnScope ["thing"] ["thing"] (defScope s_is_loop) := ⟨rfl, rfl, rfl, by decide +kernel, rfl, by decide +kernel, by decide +kernel⟩
theorem ok_is_loop {f : Addr} {fd : FuncData} (F : Fun K "is_loop" "is_loop" s_is_loop f fd) (cl : C8.Cal P w K mg base 1 "is_letters" spLetters []) (ml : mg "len" = none) {tp : Tok} (mp : mg "MOST_PLACES" = some (.int 12 tp)) : FnOk P w K mg base CX0 2 f fd ["thing"] spIsLoop := by
  refine F.ok sc_is_loop (fun vs H Q E h => ?_) (fun cdv A outer s H vs Q E hr h => ?_)
  · obtain ⟨v, b, rfl, _⟩ := h
    rfl
  · obtain ⟨v, b, rfl, hv, q⟩ := h
    refine ⟨_, pss_one (ps_ret (pe_and (C8.pe_c cl hr (Nat.le_refl _) rfl (pa_cons (pv 0) pa_nil))
      (pe_one (pe_chain op_le op_le pe_int (pe_callB call_len_str (by rfl) ml PySem.boot_len (pa_cons (pv 0) pa_nil)) (pe_glob (v := .int 12) rfl mp ⟨_, rfl⟩))))), ?_⟩
    cases hv with
    | oth h =>
      refine ⟨_, rfl, _, _, rfl, .oth h, fun H1 s1 => ⟨_, rfl, ?_⟩⟩
      exact q H1 s1
    | str l hl =>
      refine ⟨_, rfl, _, _, rfl, .str l hl, fun H1 s1 => ⟨_, rfl, ?_⟩⟩
      unfold isLoop at q
      cases e : isAz l with
      | false =>
        rw [e] at q
        exact q H1 s1
      | true =>
        rw [e, Bool.true_and] at q
        refine ⟨_, rfl, SX.S l, rfl, (by rw [SX.S_len]; exact Nat.le_trans hl (by decide)), _, _, rfl, rfl, _, rfl, ?_⟩
        rw [SX.S_len]
        refine ite2 (fun g => ?_) (fun g => ?_)
        · refine ⟨_, _, rfl, rfl, ?_⟩
          have g1 : 1 ≤ l.length := by have z := of_decide_eq_true g; omega
          have e2 : decide ((l.length : Int) ≤ 12) = (decide (1 ≤ l.length) && decide (l.length ≤ 12)) := by
            rw [decide_eq_true g1, Bool.true_and]
            by_cases c : l.length ≤ 12
            · rw [decide_eq_true c, decide_eq_true (by omega)]
            · rw [decide_eq_false c, decide_eq_false (by omega)]
          show Q (.bl (decide ((l.length : Int) ≤ 12))) H1
          rw [e2]
          exact q H1 s1
        · have g1 : ¬ 1 ≤ l.length := fun c => g (decide_eq_true (by omega))
          have e2 : false = (decide (1 ≤ l.length) && decide (l.length ≤ 12)) := by rw [decide_eq_false g1, Bool.false_and]
          show Q (.bl false) H1
          rw [e2]
          exact q H1 s1
end
end Lk
end
section
set_option maxRecDepth 100000
set_option maxHeartbeats 2000000
namespace Lk
open PySem PySem.Spec PyProof.Rows L2
section
variable {P : Program} {w : World} {K : PySem.W.Frag} {mg : Str → Option Value} {base : Heap}
theorem sc_refuse : FnScope ["loop"] ["loop"] (defScope s_refuse_no_loop) := ⟨rfl, rfl, rfl, by decide +kernel, rfl, by decide +kernel, by decide +kernel⟩
theorem ok_refuse {f C : Addr} {fd : FuncData} (F : Fun K "refuse_no_loop" "refuse_no_loop" s_refuse_no_loop f fd) (cl : C8.Cal P w K mg base 2 "is_loop" spIsLoop []) (T : ErrC K mg "NoLoop" C) {tp : Tok} (mp : mg "MOST_PLACES" = some (.int 12 tp)) : FnOk P w K mg base (L2.CX P w) 3 f fd ["loop"] (spRefuse C) := by
  refine F.okX sc_refuse (fun vs H Q E h => ?_) (fun cdv A outer s H vs Q E hr h => ?_)
  · obtain ⟨v, b, rfl, _⟩ := h
    rfl
  · obtain ⟨v, b, rfl, hv, q0, q1⟩ := h
    refine ⟨_, pss_one (ps_if (pt_not (pt_val (C8.pe_c cl hr (Nat.le_refl _) rfl (pa_cons (pv 0) pa_nil))))
      (pss_one (ps_raise rfl (takes_of rfl rfl rfl rfl) (SkE.pmk_own1 PySem.F.excBase_ValueError T.x T.g T.k (raises_own T.b T.t) rfl
        (pe_joined (.cons pe_str (.cons (pe_fmt (pe_glob (v := .int 12) rfl mp ⟨_, rfl⟩)) (.cons pe_str .nil))))))) pss_nil), ?_⟩
    refine ⟨_, rfl, v, b, rfl, hv, fun H1 s1 => ⟨b, rfl, ?_⟩⟩
    cases b with
    | true => exact q0 rfl H1 s1
    | false =>
      refine ⟨_, rfl, (by decide +kernel), .inr ⟨12, rfl, (by decide +kernel), _, rfl, (by decide +kernel), _, rfl, (by decide +kernel), ?_⟩⟩
      exact q1 rfl H1 s1
end
end Lk
end
section
set_option maxRecDepth 100000
set_option maxHeartbeats 2000000
namespace Lk
open PySem PySem.Spec PyProof.Rows L2
section
variable {P : Program} {w : World} {K : PySem.W.Frag} {mg : Str → Option Value} {base : Heap}
theorem sc_plain : FnScope ["loop"] ["loop"] (defScope s_is_plain) := ⟨rfl, rfl, rfl, by decide +kernel, rfl, by decide +kernel, by decide +kernel⟩
theorem ok_plain {f C : Addr} {fd : FuncData} (F : Fun K "is_plain" "is_plain" s_is_plain f fd) (cl : CalX P w K mg base 3 "refuse_no_loop" (spRefuse C)) (ml : mg "len" = none) (ms : mg "set" = none) : FnOk P w K mg base (L2.CX P w) 4 f fd ["loop"] (spPlain C) := by
  refine F.okX sc_plain (fun vs H Q E h => ?_) (fun cdv A outer s H vs Q E hr h => ?_)
  · obtain ⟨v, b, rfl, _⟩ := h
    rfl
  · obtain ⟨v, b, rfl, hv, q0, q1⟩ := h
    refine ⟨_, pss_cons (ps_expr (pe_cX cl (takes_of rfl rfl rfl rfl) hr (Nat.le_refl _) rfl (pa_cons (pv 0) pa_nil)))
      (pss_one (ps_ret (pe_cmpR op_eq (pe_callB call_lenT (by rfl) ml PySem.boot_len (pa_cons (pe_callTy (cr_setT rfl) (by rfl) ms (by decide +kernel) (pa_cons (pv 0) pa_nil)) pa_nil))
        (pe_callB call_len_str (by rfl) ml PySem.boot_len (pa_cons (pv 0) pa_nil)) (nomark _)))), ?_⟩
    refine ⟨_, rfl, v, b, rfl, hv, fun hb H1 s1 => ?_, fun hb H1 s1 => q1 hb H1 s1⟩
    obtain ⟨l, rfl, hl⟩ := hv.text hb
    obtain ⟨az, l1, l12⟩ := isLoop_len hl
    refine ⟨_, rfl, l, rfl, az_small az, by omega, fun p ks hp nd mm ll => ?_⟩
    refine ⟨p, ks, rfl, upd_same, by omega, _, rfl, SX.S l, rfl, small12 l12, rfl, ?_⟩
    have e : decide (V.int (ks.length : Nat) = V.int ((SX.S l).length : Nat)) = decide l.Nodup := by
      rw [SX.S_len]
      by_cases c : l.Nodup
      · rw [decide_eq_true c, decide_eq_true]
        rw [(set_len nd mm).mpr c]
      · rw [decide_eq_false c, decide_eq_false]
        intro z
        have z2 := V.int.inj z
        exact c ((set_len nd mm).mp (by omega))
    show Q (.bl (decide (V.int (ks.length : Nat) = V.int ((SX.S l).length : Nat)))) _
    rw [e]
    exact q0 hb l rfl _ (s1.trans (same_new hp))
end
end Lk
end
section
set_option maxRecDepth 100000
set_option maxHeartbeats 2000000
namespace Lk
open PySem PySem.Spec PyProof.Rows L2
/-- said n times -/
def rep (n : Nat) (l : List Nat) : List Nat := (List.replicate n l).flatten
theorem rep_len (n : Nat) (l : List Nat) : (rep n l).length = n * l.length := by
  induction n with
  | zero => simp [rep]
  | succ n ih =>
    unfold rep at ih ⊢
    rw [List.replicate_succ, List.flatten_cons, List.length_append, ih, Nat.succ_mul]
    omega
theorem fold_cat (c : Array Nat) : ∀ (n : Nat) (acc : Array Nat), ((List.replicate n c).foldl (· ++ ·) acc).toList = acc.toList ++ rep n c.toList
  | 0, acc => by simp [rep]
  | n + 1, acc => by
    rw [List.replicate_succ, List.foldl_cons, fold_cat c n (acc ++ c)]
    simp [rep, List.replicate_succ]
theorem mul_S (l : List Nat) (n : Nat) : Txt.mul (SX.S l) (n : Int) = SX.S (rep n l) := by
  unfold Txt.mul
  by_cases h0 : (n : Int) < 1
  · rw [if_pos h0]
    have e : n = 0 := by omega
    subst e
    rfl
  · rw [if_neg h0]
    by_cases h1 : ((n : Int) == 1 || (SX.S l).length == 0) = true
    · rw [if_pos h1]
      rw [Bool.or_eq_true, beq_iff_eq, beq_iff_eq, SX.S_len] at h1
      rcases h1 with h1 | h1
      · have e : n = 1 := by omega
        subst e
        simp [rep]
      · have e : l = [] := List.eq_nil_of_length_eq_zero h1
        subst e
        have z : rep n [] = [] := List.eq_nil_of_length_eq_zero (by rw [rep_len]; simp)
        rw [z]
    · rw [if_neg h1]
      have z := fold_cat l.toArray n #[]
      have e : ((List.replicate n l.toArray).foldl (· ++ ·) #[]) = (rep n l).toArray := by
        apply Array.toList_inj.mp
        rw [z]
        simp
      show Str.mk ((List.replicate n l.toArray).foldl (· ++ ·) #[]) = _
      rw [e]
theorem op_mulS {X : Cx} : OpR X (binaryOp .Mult) (fun x y H Q => ∃ (l : List Nat) (n : Nat), x = .str (SX.S l) ∧ y = .int n ∧ n ≤ 100000 ∧ n * l.length ≤ 1000000 ∧ Q (.str (SX.S (rep n l))) H) := by
  intro pins s σ H x y v u Q I rx ry h
  obtain ⟨l, n, rfl, rfl, hn, hl, q⟩ := h
  obtain ⟨t, rfl⟩ := rx
  obtain ⟨t', rfl⟩ := ry
  refine SB.mul ⟨?_, ?_, ?_⟩ fun t2 k => ⟨.str (SX.S (rep n l)), H, I.tok _, ⟨t2, by rw [mul_S]⟩, q⟩
  · rw [Bool.or_eq_false_iff, decide_eq_false_iff_not, decide_eq_false_iff_not]
    omega
  · intro h1 _ h2
    rw [SX.S_len] at h2
    have h3 : (0 : Int) < n := by omega
    have h4 : (2 ^ 63 - 1 : Int) / n < l.length := h2
    have h5 := (Int.ediv_lt_iff_lt_mul h3).mp h4
    have h6 : ((l.length : Int) * n) ≤ 1000000 := by
      have z : ((n * l.length : Nat) : Int) ≤ 1000000 := by omega
      rw [Int.natCast_mul] at z
      rw [Int.mul_comm]
      exact z
    omega
  · intro _ _
    rw [SX.S_len, Int.toNat_natCast, Nat.mul_comm]
    unfold Builtin.Str.tooLong
    rw [sizeLine_eq]
    simp
    omega
section
variable {P : Program} {w : World} {K : PySem.W.Frag} {mg : Str → Option Value} {base : Heap}
theorem az_rep {l : List Nat} (h : Az l) (n : Nat) : Az (rep n l) := by
  intro c hc
  unfold rep at hc
  obtain ⟨m, hm, hc⟩ := List.mem_flatten.mp hc
  rw [List.eq_of_mem_replicate hm] at hc
  exact h c hc
theorem isLoop_of {l : List Nat} (h : Az l) (h1 : 1 ≤ l.length) (h2 : l.length ≤ 12) : isLoop l = true := by
  unfold isLoop
  rw [isAz_iff.mpr h, decide_eq_true h1, decide_eq_true h2]
  rfl
end
theorem KnownV.words2 {H : Hp} {v : V} {b : Bool} (h : KnownV H v b) (hb : b = true) : ∃ a ws, v = .ref a ∧ H a = some (.tup (tx ws)) ∧ isKnown ws = true ∧ ws.length ≤ 100000 ∧ ∀ x ∈ ws, x.length ≤ 100000 := by
  cases h with
  | no h => cases hb
  | bad e hl h hw hb' => cases hb
  | tup e hl h => exact ⟨_, _, rfl, e, hb, hl, h⟩
theorem tx_str (ws : List (List Nat)) : tx ws = (ws.map SX.S).map V.str := by rw [List.map_map]; rfl
/-- sorted of a list of texts, as many as there are -/
def rSortSA (K : PySem.W.Frag) : List V → Hp → VK → Prop := fun vs H Q => ∃ (a : Addr) (xs : List Str), vs = [V.ref a] ∧ SqL K H a (xs.map V.str) ∧ xs.length ≤ 1000000 ∧
  ∀ ys p, ys.Perm xs → sortedS ys = true → H p = none → Q (.ref p) (upd H p (.lst (ys.map V.str)))
theorem cr_sortSA {X : Cx} : CallR X (.builtin "sorted") (rSortSA X.K) := by
  intro pins s σ H vs us Q I r h
  obtain ⟨a, xs, rfl, hs, hl0, q⟩ := h
  obtain ⟨its, rv, hl, _⟩ := I.list hs
  rw [Vals.ref1 r]
  have hlen0 := rv.length
  rw [List.length_map] at hlen0
  have big : xs.length ≤ sizeLine := Nat.le_trans hl0 (by decide)
  refine PyProof.Rows.sorted_strsAny hl.isList rv.strs (by rw [← hlen0]; exact big) fun out ys h1 h2 h3 => ?_
  obtain ⟨ep, he'⟩ := PyProof.Rows.sortedAll_at s.heap its out
  have hlen : (ys.map V.str).length ≤ sizeLine := by rw [List.length_map, h2.length_eq]; exact big
  exact ⟨.ref _, upd H (s.heap.objs.size + 1) (.lst (ys.map V.str)), I.laid (t' := s.toks) (fun _ _ => PyProof.Rows.sortedAll_old) (Nat.le_succ _) ⟨hlen, out.toList, ep, vals_of_strs h1, he'⟩, rfl, q ys _ h2 h3 (I.hok.fresh (Nat.le_succ _))⟩
theorem num_keys : ∀ (n : Nat) (ws : List (List Nat)), ((numFrom n ws).map fun kv => kV kv.1) = tx ws
  | _, [] => rfl
  | n, w :: r => by
    show V.str (SX.S w) :: _ = V.str (SX.S w) :: tx r
    rw [num_keys (n + 1) r]
/-- what stands of the new words -/
theorem Reads.facts {ws : List (List Nat)} {t : List Nat} {a r : Nat} {ns : List (List Nat)} (h : Reads ws t a ns r) (h0 : ([] : List Nat) ∈ ws) (nd : ws.Nodup) :
    (ws ++ ns).Nodup ∧ (∀ l ∈ ns, l ≠ [] ∧ l.length ≤ t.length ∧ l.take (l.length - 1) ∈ ws ++ ns ∧ ∀ c ∈ l, c ∈ t) ∧ r ≤ t.length ∧ a + ns.length ≤ t.length := by
  induction h with
  | done h =>
    have := h.ge
    refine ⟨by rw [List.append_nil]; exact nd, fun l hl => (by cases hl), this, this⟩
  | more h he hr ih =>
    rename_i ws t a e r ns
    have hae := h.ge
    have nin := h.no he
    have nd' : (ws ++ [sub t a (e + 1)]).Nodup := by
      rw [List.nodup_append]
      refine ⟨nd, List.nodup_cons.mpr ⟨by simp, List.nodup_nil⟩, fun x hx y hy z => ?_⟩
      rw [List.mem_singleton] at hy
      exact nin (by rw [← hy, ← z]; exact hx)
    obtain ⟨i1, i2, i3, i4⟩ := ih (List.mem_append_left _ h0) nd'
    rw [List.append_assoc] at i1 i2
    refine ⟨i1, fun l hl => ?_, i3, by rw [List.length_cons]; omega⟩
    rcases List.mem_cons.mp hl with e1 | e1
    · have hlen : (sub t a (e + 1)).length = e + 1 - a := sub_len (by omega) (by omega)
      subst e1
      refine ⟨fun z => by rw [z] at hlen; simp at hlen; omega, by omega, ?_, fun c hc => ?_⟩
      · have e2 : (sub t a (e + 1)).take ((sub t a (e + 1)).length - 1) = sub t a e := by
          rw [hlen]
          unfold sub
          rw [List.take_take, show min (e + 1 - a - 1) (e + 1 - a) = e - a by omega]
        rw [e2]
        by_cases hea : a = e
        · subst hea
          have e3 : sub t a a = [] := by unfold sub; rw [Nat.sub_self]; rfl
          rw [e3]
          exact List.mem_append_left _ h0
        · exact List.mem_append_left _ (h.all e (by omega) (Nat.le_refl _))
      · exact List.mem_of_mem_drop (List.mem_of_mem_take hc)
    · exact i2 l e1
theorem Reads.det {ws : List (List Nat)} {t : List Nat} {a r r' : Nat} {ns ns' : List (List Nat)} (h : Reads ws t a ns r) (h' : Reads ws t a ns' r') : ns = ns' ∧ r = r' := by
  induction h generalizing ns' r' with
  | done h =>
    cases h' with
    | done h' => exact ⟨rfl, rfl⟩
    | more h' he' hr' =>
      have := h.uniq h'
      omega
  | more h he hr ih =>
    cases h' with
    | done h' =>
      have := h'.uniq h
      omega
    | more h' he' hr' =>
      have e := h.uniq h'
      subst e
      obtain ⟨e1, e2⟩ := ih hr'
      exact ⟨by rw [e1], e2⟩
theorem Reads.get : ∀ (n : Nat) (ws : List (List Nat)) (t : List Nat) (a : Nat), a ≤ t.length → t.length - a ≤ n → ∃ ns r, Reads ws t a ns r
  | n, ws, t, a, h, hn => by
    obtain ⟨e, he⟩ := LE.ex ws t a h
    by_cases hlt : e < t.length
    · cases n with
      | zero => have := he.ge; omega
      | succ n =>
        have := he.ge
        obtain ⟨ns, r, hr⟩ := Reads.get n (ws ++ [sub t a (e + 1)]) t (e + 1) (by omega) (by omega)
        exact ⟨_, _, .more he hlt hr⟩
    · have e2 : e = t.length := by have := he.le; omega
      subst e2
      exact ⟨_, _, .done he⟩
theorem Reads.ex (ws : List (List Nat)) (t : List Nat) (a : Nat) (h : a ≤ t.length) : ∃ ns r, Reads ws t a ns r := Reads.get _ ws t a h (Nat.le_refl _)
section
variable {P : Program} {w : World} {K : PySem.W.Frag} {mg : Str → Option Value} {base : Heap}
def spNew : Sp := fun vs H Q _ => ∃ a d ws ns, vs = [.ref a, .ref d] ∧ H a = some (.tup (tx ws)) ∧ H d = some (.dK (numFrom 0 (([] :: ws) ++ ns))) ∧ ∀ p H', H p = none → H' p = some (.lst (tx ns)) → Same H H' → Q (.ref p) H'
end
def trueK (fs : List (List Nat)) : List (Key × V) := fs.map fun l => (Sum.inr (SX.S l), V.bl true)
theorem true_val : ∀ (fs : List (List Nat)) (l : List Nat), valV (trueK fs) (Sum.inr (SX.S l)) = if l ∈ fs then some (V.bl true) else none
  | [], l => by rw [if_neg (by simp)]; rfl
  | x :: r, l => by
    by_cases h : x = l
    · subst h
      rw [if_pos List.mem_cons_self]
      exact valV_pos rfl
    · have e : valV (trueK (x :: r)) (Sum.inr (SX.S l)) = valV (trueK r) (Sum.inr (SX.S l)) := valV_neg fun z => h (SX.S_inj (Sum.inr.inj z))
      rw [e, true_val r l]
      have hm : l ∈ x :: r ↔ l ∈ r := ⟨fun z => (List.mem_cons.mp z).resolve_left fun q => h q.symm, List.mem_cons_of_mem _⟩
      by_cases hr : l ∈ r
      · rw [if_pos hr, if_pos (hm.mpr hr)]
      · rw [if_neg hr, if_neg fun z => hr (hm.mp z)]
def addW (fs : List (List Nat)) (l : List Nat) : List (List Nat) := if l ∈ fs then fs else fs ++ [l]
theorem true_put (fs : List (List Nat)) (l : List Nat) : putK (trueK fs) (Sum.inr (SX.S l)) (.bl true) = trueK (addW fs l) := by
  unfold addW
  by_cases h : l ∈ fs
  · rw [if_pos h]
    have z : (trueK fs).any (fun kv => decide (kv.1 = Sum.inr (SX.S l))) = true := by
      rw [valV_any, true_val, if_pos h]
      rfl
    unfold putK
    rw [if_pos z]
    unfold trueK
    rw [List.map_map]
    refine List.map_congr_left fun x _ => ?_
    show (if (Sum.inr (SX.S x) : Key) = Sum.inr (SX.S l) then ((Sum.inr (SX.S x) : Key), V.bl true) else (Sum.inr (SX.S x), V.bl true)) = _
    split <;> rfl
  · rw [if_neg h]
    have z : valV (trueK fs) (Sum.inr (SX.S l)) = none := by rw [true_val, if_neg h]
    rw [putK_new _ z]
    unfold trueK
    rw [List.map_append]
    rfl
theorem addW_mem {fs : List (List Nat)} {l x : List Nat} : x ∈ addW fs l ↔ x ∈ fs ∨ x = l := by
  unfold addW
  by_cases h : l ∈ fs
  · rw [if_pos h]
    exact ⟨.inl, fun z => z.elim id fun e => e ▸ h⟩
  · rw [if_neg h, List.mem_append, List.mem_singleton]
theorem addW_nodup {fs : List (List Nat)} {l : List Nat} (h : fs.Nodup) : (addW fs l).Nodup := by
  unfold addW
  by_cases c : l ∈ fs
  · rw [if_pos c]; exact h
  · rw [if_neg c, List.nodup_append]
    refine ⟨h, List.nodup_cons.mpr ⟨by simp, List.nodup_nil⟩, fun x hx y hy z => ?_⟩
    rw [List.mem_singleton] at hy
    exact c (by rw [← hy, ← z]; exact hx)
theorem addW_len (fs : List (List Nat)) (l : List Nat) : (addW fs l).length ≤ fs.length + 1 := by
  unfold addW
  split
  · omega
  · rw [List.length_append]; simp
theorem true_len (fs : List (List Nat)) : (trueK fs).length = fs.length := List.length_map _
/-- what the found words are -/
structure Found (fs : List (List Nat)) (m : Nat) : Prop where
  nd : fs.Nodup
  len : fs.length ≤ m
  word : ∀ l ∈ fs, isWord l = true ∧ l.length ≤ 9
  clos : ∀ l ∈ fs, l.take (l.length - 1) ∈ ([] : List Nat) :: fs
theorem Found.add {fs : List (List Nat)} {m : Nat} (h : Found fs m) {l : List Nat} (hw : isWord l = true) (h9 : l.length ≤ 9) (hc : l.take (l.length - 1) ∈ ([] : List Nat) :: fs) : Found (addW fs l) (m + 1) where
  nd := addW_nodup h.nd
  len := Nat.le_trans (addW_len fs l) (Nat.succ_le_succ h.len)
  word := fun x hx => by
    rcases addW_mem.mp hx with z | z
    · exact h.word x z
    · rw [z]; exact ⟨hw, h9⟩
  clos := fun x hx => by
    have up : ∀ y, y ∈ ([] : List Nat) :: fs → y ∈ ([] : List Nat) :: addW fs l := fun y hy => by
      rcases List.mem_cons.mp hy with z | z
      · rw [z]; exact List.mem_cons_self
      · exact List.mem_cons_of_mem _ (addW_mem.mpr (.inl z))
    rcases addW_mem.mp hx with z | z
    · exact up _ (h.clos x z)
    · rw [z]; exact up _ hc
/-- sorted of unlike texts is rising -/
theorem rise_of_sorted : ∀ {us : List (List Nat)}, sortedS (us.map SX.S) = true → us.Nodup → Rise us = true
  | [], _, _ => rfl
  | [_], _, _ => rfl
  | a :: b :: r, h, nd => by
    have h' : (!ltCps (SX.S b).cps.toList (SX.S a).cps.toList && risingS (SX.S b) (r.map SX.S)) = true := h
    rw [Bool.and_eq_true] at h'
    have nd' := List.nodup_cons.mp nd
    have ih := rise_of_sorted (us := b :: r) h'.2 nd'.2
    show (decide (a < b) && Rise (b :: r)) = true
    rw [ih, Bool.and_true, decide_eq_true_eq]
    have h1 := h'.1
    rw [ltCps_eq, Bool.not_eq_true', decide_eq_false_iff_not] at h1
    have h2 : ¬ b < a := h1
    by_cases z : a < b
    · exact z
    · have e : a = b := List.le_antisymm (List.not_lt.mp h2) (List.not_lt.mp z)
      exact absurd (e ▸ List.mem_cons_self) nd'.1
theorem isKnown_of {us fs : List (List Nat)} (p : us.Perm fs) (hs : sortedS (us.map SX.S) = true) (nd : fs.Nodup) (hw : ∀ l ∈ fs, isWord l = true) (hc : ∀ l ∈ fs, l.take (l.length - 1) ∈ ([] : List Nat) :: fs) : isKnown us = true := by
  refine isKnown_iff.mpr ⟨List.all_eq_true.mpr fun l hl => hw l (p.mem_iff.mp hl), rise_of_sorted hs (p.symm.nodup nd), List.all_eq_true.mpr fun l hl => decide_eq_true ?_⟩
  rcases List.mem_cons.mp (hc l (p.mem_iff.mp hl)) with z | z
  · rw [z]; exact List.mem_cons_self
  · exact List.mem_cons_of_mem _ (p.mem_iff.mpr z)

end Lk
end
section
set_option maxRecDepth 100000
set_option maxHeartbeats 2000000
/-! Any loops: the endless loop's words, how long the known ones are. -/
namespace Lk
open PySem PySem.Spec PyProof.Rows L2
/-- so many letters of the endless loop from a place on -/
def run (b : List Nat) (a n : Nat) : List Nat := (List.range n).map fun i => lat b (a + i)
theorem run_len (b : List Nat) (a n : Nat) : (run b a n).length = n := by
  unfold run
  rw [List.length_map, List.length_range]
theorem run_succ (b : List Nat) (a n : Nat) : run b a (n + 1) = run b a n ++ [lat b (a + n)] := by
  unfold run
  rw [List.range_succ, List.map_append]
  rfl
theorem run_at {b : List Nat} {a n i : Nat} (h : i < n) : (run b a n)[i]? = some (lat b (a + i)) := by
  unfold run
  rw [List.getElem?_map, List.getElem?_range h]
  rfl
theorem run_take {b : List Nat} {a m n : Nat} (h : m ≤ n) : (run b a n).take m = run b a m := by
  refine List.ext_getElem? fun i => ?_
  rw [List.getElem?_take]
  by_cases c : i < m
  · rw [if_pos c, run_at (Nat.lt_of_lt_of_le c h), run_at c]
  · rw [if_neg c, List.getElem?_eq_none (by rw [run_len]; omega)]
theorem rep_get : ∀ (n : Nat) {l : List Nat} {i : Nat}, i < n * l.length → (rep n l)[i]? = some (lat l i)
  | 0, l, i, h => by omega
  | n + 1, l, i, h => by
    have e : rep (n + 1) l = l ++ rep n l := by
      unfold rep
      rw [List.replicate_succ, List.flatten_cons]
    rw [e]
    have h2 : (n + 1) * l.length = n * l.length + l.length := by rw [Nat.add_mul, Nat.one_mul]
    by_cases c : i < l.length
    · rw [List.getElem?_append_left c, List.getElem?_eq_getElem c]
      unfold lat
      rw [Nat.mod_eq_of_lt c, getD_eq c]
    · rw [List.getElem?_append_right (by omega), rep_get n (by omega)]
      unfold lat
      have z : (i - l.length) % l.length = i % l.length := by
        rw [Nat.mod_eq_sub_mod (a := i) (by omega)]
      rw [z]
theorem sub_get {t : List Nat} {a e i : Nat} (h : i < e - a) (he : e ≤ t.length) : (sub t a e)[i]? = t[a + i]? := by
  unfold sub
  rw [List.getElem?_take, if_pos h, List.getElem?_drop]
theorem sub_rep {b : List Nat} {n a e : Nat} (ha : a ≤ e) (he : e ≤ n * b.length) : sub (rep n b) a e = run b a (e - a) := by
  have hl : (rep n b).length = n * b.length := rep_len n b
  refine List.ext_getElem? fun i => ?_
  by_cases c : i < e - a
  · rw [sub_get c (by omega), rep_get n (by omega), run_at c]
  · rw [List.getElem?_eq_none (by rw [sub_len ha (by omega)]; omega), List.getElem?_eq_none (by rw [run_len]; omega)]
/-- from a place on the longest known word of the endless loop has n letters -/
structure LN (ws : List (List Nat)) (b : List Nat) (a n : Nat) : Prop where
  all : ∀ j, 1 ≤ j → j ≤ n → run b a j ∈ ws
  no : run b a (n + 1) ∉ ws
theorem LN.uniq {ws : List (List Nat)} {b : List Nat} {a n m : Nat} (h : LN ws b a n) (k : LN ws b a m) : n = m := by
  rcases Nat.lt_trichotomy n m with c | c | c
  · exact absurd (k.all (n + 1) (by omega) (by omega)) h.no
  · exact c
  · exact absurd (h.all (m + 1) (by omega) (by omega)) k.no
/-- no more than there are words -/
theorem runs_le {ws : List (List Nat)} {b : List Nat} {a n : Nat} (h : ∀ j, 1 ≤ j → j ≤ n → run b a j ∈ ws) : n ≤ ws.length := by
  have z := few_len (ks := (List.range n).map fun j => run b a (j + 1)) (L := ws) ?_ ?_
  · rwa [List.length_map, List.length_range] at z
  · refine List.pairwise_map.mpr (List.Pairwise.imp (fun {i j} hij e => ?_) List.pairwise_lt_range)
    have z := congrArg List.length e
    rw [run_len, run_len] at z
    omega
  · intro y hy
    obtain ⟨j, hj, rfl⟩ := List.mem_map.mp hy
    exact h (j + 1) (by omega) (by have := List.mem_range.mp hj; omega)
theorem LN.le {ws : List (List Nat)} {b : List Nat} {a n : Nat} (h : LN ws b a n) : n ≤ ws.length := runs_le h.all
theorem room {p q : Nat} (hp : 0 < p) : q + p < (q / p + 2) * p := by
  have := Nat.div_add_mod q p
  have := Nat.mod_lt q hp
  rw [Nat.add_mul]
  have e : q / p * p = p * (q / p) := Nat.mul_comm _ _
  omega
/-- what longest_end finds of the loop said over is that -/
theorem LN.of {ws : List (List Nat)} {b : List Nat} {a e : Nat} (ha : a < b.length) (h : LE (([] : List Nat) :: ws) (rep (ws.length / b.length + 2) b) a e) : LN ws b a (e - a) := by
  have hl : (rep (ws.length / b.length + 2) b).length = (ws.length / b.length + 2) * b.length := rep_len _ b
  have hr := room (p := b.length) (q := ws.length) (by omega)
  have hle := h.le
  have hge := h.ge
  have all : ∀ j, 1 ≤ j → j ≤ e - a → run b a j ∈ ws := fun j j1 j2 => by
    have z := h.all (a + j) (by omega) (by omega)
    rw [sub_rep (by omega) (by omega), show a + j - a = j by omega] at z
    rcases List.mem_cons.mp z with y | y
    · have := congrArg List.length y
      rw [run_len] at this
      simp at this
      omega
    · exact y
  have few := runs_le all
  refine ⟨all, fun z => ?_⟩
  have y := h.no (by omega)
  rw [sub_rep (by omega) (by omega), show e + 1 - a = e - a + 1 by omega] at y
  exact y (List.mem_cons_of_mem _ z)
theorem LN.ex (ws : List (List Nat)) {b : List Nat} {a : Nat} (ha : a < b.length) : ∃ n, LN ws b a n := by
  have hl : (rep (ws.length / b.length + 2) b).length = (ws.length / b.length + 2) * b.length := rep_len _ b
  have hr := room (p := b.length) (q := ws.length) (by omega)
  obtain ⟨e, he⟩ := LE.ex (([] : List Nat) :: ws) (rep (ws.length / b.length + 2) b) a (by omega)
  exact ⟨_, LN.of ha he⟩
/-- the lengths on a loop -/
def LNs (ws : List (List Nat)) (b : List Nat) (ls : List Nat) : Prop := ls.length = b.length ∧ ∀ a, a < b.length → LN ws b a (ls.getD a 0)
theorem LNs.uniq {ws : List (List Nat)} {b : List Nat} {ls ms : List Nat} (h : LNs ws b ls) (k : LNs ws b ms) : ls = ms :=
  ext_getD (h.1.trans k.1.symm) fun i hi => (h.2 i (by rw [← h.1]; exact hi)).uniq (k.2 i (by rw [← h.1]; exact hi))
theorem LNs.le {ws : List (List Nat)} {b : List Nat} {ls : List Nat} (h : LNs ws b ls) : ∀ n ∈ ls, n ≤ ws.length := fun n hn => by
  obtain ⟨i, hi, e⟩ := List.getElem_of_mem hn
  have z := (h.2 i (by rw [← h.1]; exact hi)).le
  rw [getD_eq hi, e] at z
  exact z
/-! ### the least part -/
theorem lat_len (l : List Nat) (k : Nat) : lat l (k + l.length) = lat l k := by
  unfold lat
  rw [Nat.add_mod_right]
theorem per_dvd {l : List Nat} {d e : Nat} (h : IsPer l d) (he : ∀ k, lat l (k + e) = lat l k) : e % d = 0 := by
  refine Classical.byContradiction fun ne => ?_
  have p0 : 0 < l.length := Nat.lt_of_lt_of_le h.1 h.2.1
  have lt : e % d < d := Nat.mod_lt _ h.1
  refine h.2.2.2 (e % d) (by omega) lt ((rot_per p0).mpr fun k => ?_)
  have z := per_mul (per_of h) (e / d) (k + e % d)
  rw [← z, show k + e % d + d * (e / d) = k + e by have := Nat.mod_add_div e d; omega]
  exact he k
theorem part_per {l : List Nat} {part : Nat} (h1 : 1 ≤ part) (h2 : part < l.length) (hd : l.length % part = 0) (he : l.drop part = l.take (l.length - part)) : ∀ k, lat l (k + part) = lat l k := by
  have one : ∀ i, i + part < l.length → l.getD (i + part) 0 = l.getD i 0 := fun i hi => by
    have z := congrArg (fun y : List Nat => y[i]?) he
    simp only [List.getElem?_drop, List.getElem?_take] at z
    rw [if_pos (by omega), Nat.add_comm part i] at z
    rw [List.getD_eq_getElem?_getD, List.getD_eq_getElem?_getD, z]
  have many : ∀ m j, j + m * part < l.length → l.getD (j + m * part) 0 = l.getD j 0 := fun m => by
    induction m with
    | zero => intro j _; rw [Nat.zero_mul, Nat.add_zero]
    | succ m ih =>
      intro j hj
      rw [Nat.add_mul, Nat.one_mul, ← Nat.add_assoc] at hj ⊢
      rw [one _ hj]
      exact ih j (by omega)
  intro k
  unfold lat
  have hi : k % l.length < l.length := Nat.mod_lt _ (by omega)
  rw [Nat.add_mod k part, Nat.mod_eq_of_lt h2]
  generalize k % l.length = i at hi
  by_cases c : i + part < l.length
  · rw [Nat.mod_eq_of_lt c]
    exact one i c
  · have e : (i + part) % l.length = i + part - l.length := by
      rw [Nat.mod_eq_sub_mod (by omega), Nat.mod_eq_of_lt (by omega)]
    rw [e]
    obtain ⟨q, hq⟩ := Nat.dvd_of_mod_eq_zero hd
    have q1 : 1 ≤ q := by
      rcases Nat.eq_zero_or_pos q with z | z
      · rw [z] at hq; omega
      · exact z
    have z := many (q - 1) (i + part - l.length)
    have e2 : (q - 1) * part = l.length - part := by
      rw [Nat.mul_comm, Nat.mul_sub, ← hq, Nat.mul_one]
    rw [e2, show i + part - l.length + (l.length - part) = i by omega] at z
    exact (z hi).symm
theorem per_part {l : List Nat} {part : Nat} (h2 : part < l.length) (h : ∀ k, lat l (k + part) = lat l k) : l.drop part = l.take (l.length - part) := by
  refine List.ext_getElem? fun i => ?_
  rw [List.getElem?_drop, List.getElem?_take]
  by_cases c : i < l.length - part
  · rw [if_pos c, List.getElem?_eq_getElem (by omega), List.getElem?_eq_getElem (by omega)]
    have z := h i
    unfold lat at z
    rw [Nat.mod_eq_of_lt (by omega), Nat.mod_eq_of_lt (by omega), getD_eq (by omega), getD_eq (by omega)] at z
    rw [← z]
    exact congrArg some (by congr 1; omega)
  · rw [if_neg c, List.getElem?_eq_none (by omega)]
/-- what the law looks for is the root -/
theorem base_yes {l : List Nat} {d part : Nat} (h : IsPer l d) (h1 : 1 ≤ part) (h2 : part < l.length) (hn : ∀ j, 1 ≤ j → j < part → ¬ (l.length % j = 0 ∧ l.drop j = l.take (l.length - j))) (hd : l.length % part = 0 ∧ l.drop part = l.take (l.length - part)) : part = d := by
  have p0 : 0 < l.length := by omega
  rcases Nat.lt_trichotomy part d with c | c | c
  · exact absurd ((rot_per p0).mpr (part_per h1 h2 hd.1 hd.2)) (h.2.2.2 part h1 c)
  · exact c
  · exact absurd ⟨per_dvd h (lat_len l), per_part (by omega) (per_of h)⟩ (hn d h.1 c)
theorem base_no {l : List Nat} {d : Nat} (h : IsPer l d) (hn : ∀ j, 1 ≤ j → j < l.length → ¬ (l.length % j = 0 ∧ l.drop j = l.take (l.length - j))) : d = l.length := by
  rcases Nat.lt_or_ge d l.length with c | c
  · exact absurd ⟨per_dvd h (lat_len l), per_part c (per_of h)⟩ (hn d h.1 c)
  · exact Nat.le_antisymm h.2.1 c
theorem root_loop {l : List Nat} {d : Nat} (hl : isLoop l = true) (h : IsPer l d) : isLoop (l.take d) = true := by
  obtain ⟨az, l1, l12⟩ := isLoop_len hl
  have e : (l.take d).length = d := by rw [List.length_take]; exact Nat.min_eq_left h.2.1
  have h1 := h.1
  have h2 := h.2.1
  unfold isLoop
  rw [Bool.and_eq_true, Bool.and_eq_true, decide_eq_true_eq, decide_eq_true_eq, e]
  exact ⟨isAz_iff.mpr fun c hc => az c (List.mem_of_mem_take hc), h1, by omega⟩
end Lk
end
section
set_option maxRecDepth 100000
set_option maxHeartbeats 2000000
/-! The rules that lay a new object, told without the heap's text: what was stays, the object is there. -/
namespace Lk
open PySem PySem.Spec PyProof.Rows L2
section
variable {X : Cx} {es : List Expr} {t : TA} {pos : Pos}
def tTupS (t : TA) : TE := fun σ H Q => t σ H fun xs H1 => xs.length ≤ sizeLine ∧ ∀ p H2, H1 p = none → Same H1 H2 → H2 p = some (.tup xs) → Q (.ref p) H2
def tLstS (t : TA) : TE := fun σ H Q => t σ H fun xs H1 => xs.length ≤ sizeLine ∧ ∀ p H2, H1 p = none → Same H1 H2 → H2 p = some (.lst xs) → Q (.ref p) H2
theorem pe_tupS {x1} (h : PA X es t) : PE X (.Tuple es x1 pos) (tTupS t) := by
  refine ⟨fun pins s σ H Q I hq => wpAny_Tuple_spliced (thn (h.run pos pins s σ H _ I hq) fun us s1 ⟨xs, H1, I1, r, z, q⟩ => ⟨by rw [← r.length]; exact z, ?_⟩)⟩
  have free : H1 s1.heap.objs.size = none := I1.hok.fresh (Nat.le_refl _)
  refine ⟨.ref s1.heap.objs.size, _, I1.laid (o := .tup xs) (t' := s1.toks) (fun b u e => Heap.get?_push_of_some _ e) (Nat.le_refl _) ?_, rfl, q _ _ free (same_new free) upd_same⟩
  exact ⟨z, us, r, ⟨_, Heap.get?_push_size _ rfl, rfl, _, rfl⟩⟩
theorem pe_lstS (h : PA X es t) : PE X (.List es pos) (tLstS t) := by
  refine ⟨fun pins s σ H Q I hq => wpAny_List_spliced (thn (h.run pos pins s σ H _ I hq) fun us s1 ⟨xs, H1, I1, r, z, q⟩ => ⟨by rw [← r.length]; exact z, ?_⟩)⟩
  have free : H1 s1.heap.objs.size = none := I1.hok.fresh (Nat.le_refl _)
  refine ⟨.ref s1.heap.objs.size, _, I1.laid (o := .lst xs) (t' := s1.toks) (fun b u e => Heap.get?_push_of_some _ e) (Nat.le_refl _) ?_, rfl, q _ _ free (same_new free) upd_same⟩
  exact ⟨z, us, 0, r, Heap.get?_push_size _ rfl⟩
def rCatS : R2 := fun x y H Q => ∃ a b xs ys, x = .ref a ∧ y = .ref b ∧ H a = some (.lst xs) ∧ H b = some (.lst ys) ∧ xs.length + ys.length ≤ sizeLine ∧ ∀ p H2, H p = none → Same H H2 → H2 p = some (.lst (xs ++ ys)) → Q (.ref p) H2
theorem op_catS : OpR X (binaryOp .Add) rCatS := by
  intro pins s σ H x y v u Q I rx ry h
  obtain ⟨a, b, xs, ys, rfl, rfl, ha, hb, hl, q⟩ := h
  exact op_cat pins s σ H _ _ v u Q I rx ry ⟨a, b, xs, ys, rfl, rfl, ha, hb, hl, fun p hp => q p _ hp (same_new hp) upd_same⟩
/-- tuple(xs) of a list, tuple(t) of a tuple -/
def rTupS : List V → Hp → VK → Prop := fun vs H Q => ∃ p xs, vs = [.ref p] ∧ ((H p = some (.lst xs) ∧ ∀ l H2, H l = none → Same H H2 → H2 l = some (.tup xs) → Q (.ref l) H2) ∨ (H p = some (.tup xs) ∧ Q (.ref p) H))
theorem call_tupS : CallR X (.type "tuple") rTupS := by
  intro pins s σ H xs us Q I r h
  obtain ⟨p, ys, rfl, h⟩ := h
  rcases h with ⟨h, q⟩ | ⟨h, q⟩
  · exact call_tuple_of pins s σ H _ us Q I r ⟨p, ys, rfl, .inl ⟨SqL.of h, fun l hl => q l _ hl (same_new hl) upd_same⟩⟩
  · exact call_tuple_of pins s σ H _ us Q I r ⟨p, ys, rfl, .inr ⟨SqT.of h, q⟩⟩
/-- list(xs), list(t) -/
def rLisS : List V → Hp → VK → Prop := fun vs H Q => ∃ p xs, vs = [.ref p] ∧ (H p = some (.lst xs) ∨ H p = some (.tup xs)) ∧ ∀ l H2, H l = none → Same H H2 → H2 l = some (.lst xs) → Q (.ref l) H2
theorem call_lisS : CallR X (.type "list") rLisS := by
  intro pins s σ H xs us Q I r h
  obtain ⟨p, ys, rfl, h, q⟩ := h
  refine call_list_of pins s σ H _ us Q I r ⟨p, ys, rfl, ?_, fun l hl => q l _ hl (same_new hl) upd_same⟩
  exact h.imp SqL.of SqT.of
end
/-- the cells: the script's first ones, and 0 -/
theorem cells_ints {ns : List Int} {k : Int} : ∀ x ∈ cutV (ns.map V.int) none (some k) ++ [V.int 0], ∃ z, x = V.int z := by
  intro x hx
  rcases List.mem_append.mp hx with h | h
  · unfold cutV at h
    obtain ⟨z, _, e⟩ := List.mem_map.mp (List.mem_of_mem_drop (List.mem_of_mem_take h))
    exact ⟨z, e.symm⟩
  · exact ⟨0, List.mem_singleton.mp h⟩
theorem cells_len {ns : List Int} {k : Int} (h : ns.length ≤ 63) : (cutV (ns.map V.int) none (some k)).length ≤ 63 := by
  unfold cutV
  rw [List.length_take, List.length_drop, List.length_map]
  omega
end Lk
end
section
set_option maxRecDepth 100000
set_option maxHeartbeats 2000000
/-! The law's urn. -/
namespace Lk
open PySem PySem.Spec PyProof.Rows L2
def CPowW (i j : Int) : Prop := 0 ≤ j ∧ j ≤ 8 ∧ i.natAbs < 2 ^ 1000
theorem op_powW {X : Cx} : OpR X (binaryOp .Pow) (rI CPowW fun i j => .int (i ^ j.toNat)) := opI fun i j _ _ _ _ _ hc q => by
  obtain ⟨h0, h8, hi⟩ := hc
  refine pow_int h0 ?_ q
  have l := PySem.Flt.log2_lt_of (by decide : 0 < 1000) hi
  have b : Builtin.Int.intBits i ≤ 1000 := by
    unfold Builtin.Int.intBits
    split <;> omega
  have h1 : (Builtin.Int.intBits i : Int) * j ≤ 1000 * j := Int.mul_le_mul_of_nonneg_right (by omega) h0
  omega
def Urn (H : Hp) (a : Addr) (n : Int) : Prop := ∃ u0 u1 u2 : Int, H a = some (.lst [.int u0, .int u1, .int u2]) ∧ 0 ≤ u1 ∧ u1 < 10 ^ 36 ∧ 0 ≤ u2 ∧ u2 ≤ n
theorem Urn.ne {H : Hp} {a p : Addr} {n : Int} (h : Urn H a n) (e : H p = none) : a ≠ p := by
  obtain ⟨_, _, _, e2, _⟩ := h
  exact ne_of_none e2 e
theorem Urn.same {H H' : Hp} {a : Addr} {n : Int} (h : Urn H a n) (s : Same H H') : Urn H' a n := by
  obtain ⟨u0, u1, u2, e, r⟩ := h
  exact ⟨u0, u1, u2, s _ _ e, r⟩
theorem Urn.le {H : Hp} {a : Addr} {n m : Int} (h : Urn H a n) (l : n ≤ m) : Urn H a m := by
  obtain ⟨u0, u1, u2, e, h1, h2, h3, h4⟩ := h
  exact ⟨u0, u1, u2, e, h1, h2, h3, Int.le_trans h4 l⟩
theorem Urn.cat {H H2 : Hp} {a : Addr} {n : Int} {v : V} {c : Cd} (h : Urn H a n) (s : SameBut a H H2) (k : Cat H v c) : Cat H2 v c := by
  obtain ⟨_, _, _, e, _⟩ := h
  exact k.but e s
def spUrn : Sp := fun vs H Q _ => ∃ c : Int, vs = [.int c] ∧ ∀ p H', H p = none → Same H H' → Urn H' p 0 → Q (.ref p) H'
def spPull : Sp := fun vs H Q _ => ∃ (a : Addr) (m n : Int), vs = [.ref a, .int m] ∧ Urn H a n ∧ n ≤ 100000 ∧ 0 < m ∧ m ≤ 10 ^ 40 ∧ ∀ v H', 0 ≤ v → v < m → Urn H' a (n + 1) → SameBut a H H' → Q (.int v) H'
end Lk
end
section
set_option maxRecDepth 100000
set_option maxHeartbeats 2000000
/-! Going home; the tree of a round. -/
namespace Lk
open PySem PySem.Spec PyProof.Rows L2
/-- where one stands behind so many turns, who stays at home -/
def hw (c : Cd) : Nat → Nat → Nat
  | 0, i => i
  | k + 1, i => if hw c k i = c.1 then hw c k i else go c (hw c k i)
theorem hw_run (c : Cd) (i : Nat) : ∀ k, ((∃ j, j ≤ k ∧ gon c j i = c.1) ∧ hw c k i = c.1) ∨ ((∀ j, j ≤ k → gon c j i ≠ c.1) ∧ hw c k i = gon c k i)
  | 0 => by
    by_cases e : i = c.1
    · exact .inl ⟨⟨0, Nat.le_refl _, e⟩, e⟩
    · refine .inr ⟨fun j hj => ?_, rfl⟩
      rw [Nat.le_zero.mp hj]
      exact e
  | k + 1 => by
    rcases hw_run c i k with ⟨⟨j, hj, e⟩, h⟩ | ⟨h1, h2⟩
    · refine .inl ⟨⟨j, by omega, e⟩, ?_⟩
      show (if hw c k i = c.1 then hw c k i else go c (hw c k i)) = c.1
      rw [if_pos h]
      exact h
    · have e : hw c (k + 1) i = gon c (k + 1) i := by
        show (if hw c k i = c.1 then hw c k i else go c (hw c k i)) = gon c (k + 1) i
        rw [h2, if_neg (h1 k (Nat.le_refl _)), gon_succ]
      by_cases z : gon c (k + 1) i = c.1
      · exact .inl ⟨⟨k + 1, Nat.le_refl _, z⟩, e.trans z⟩
      · refine .inr ⟨fun j hj => ?_, e⟩
        rcases Nat.lt_or_ge j (k + 1) with l | g
        · exact h1 j (by omega)
        · rw [show j = k + 1 by omega]
          exact z
theorem rch_near {c : Cd} (h : COk c) {i : Nat} (hi : i < c.2.length) (r : Rch c i) : ∃ j, j < c.2.length ∧ gon c j i = c.1 := by
  obtain ⟨j, hj, hl⟩ := least_of (Q := fun k => gon c k i = c.1) r.choose_spec
  refine ⟨j, ?_, hj⟩
  have nd : ((List.range (j + 1)).map fun k => gon c k i).Nodup := by
    refine List.pairwise_map.mpr (List.Pairwise.imp_of_mem (R := fun a b => a < b) (fun {a b} ha hb l e => ?_) List.pairwise_lt_range)
    rw [List.mem_range] at ha hb
    refine hl (a + (j - b)) (by omega) ?_
    rw [gon_add, e, ← gon_add, show b + (j - b) = j by omega]
    exact hj
  have z := nodup_below nd fun x hx => by
    obtain ⟨k, _, rfl⟩ := List.mem_map.mp hx
    exact gon_lt h hi k
  rw [List.length_map, List.length_range] at z
  omega
theorem hw_home {c : Cd} (h : COk c) {i : Nat} (hi : i < c.2.length) {k : Nat} (hk : c.2.length ≤ k + 1) : hw c k i = c.1 ↔ Rch c i := by
  rcases hw_run c i k with ⟨⟨j, _, e⟩, e2⟩ | ⟨h1, h2⟩
  · exact ⟨fun _ => ⟨j, e⟩, fun _ => e2⟩
  · refine ⟨fun z => ⟨k, h2.symm.trans z⟩, fun r => ?_⟩
    obtain ⟨j, hj, e⟩ := rch_near h hi r
    exact absurd e (h1 j (by omega))
theorem hw_lt {c : Cd} (h : COk c) {i : Nat} (hi : i < c.2.length) : ∀ k, hw c k i < c.2.length
  | 0 => hi
  | k + 1 => by
    show (if hw c k i = c.1 then hw c k i else go c (hw c k i)) < c.2.length
    split
    · exact hw_lt h hi k
    · exact go_lt h _
def Home0 (c : Cd) : Prop := c.1 = 0 ∧ len c 0 % c.2.length = 0
instance (c : Cd) : Decidable (Home0 c) := inferInstanceAs (Decidable (_ ∧ _))
theorem visit : ∀ (n : Nat) {c : Cd} (i v : Nat), COk c → len c i ≤ v → v < len (it n c) i → ∃ t, t < n ∧ (it t c).1 = i ∧ len (it t c) i = v
  | 0, c, i, v, _, h1, h2 => by
    have z : len (it 0 c) i = len c i := rfl
    omega
  | n + 1, c, i, v, hc, h1, h2 => by
    by_cases e : c.1 = i ∧ len c i = v
    · exact ⟨0, by omega, e.1, e.2⟩
    · have l : len (nx c) i ≤ v := by
        by_cases e2 : c.1 = i
        · have ne : len c i ≠ v := fun z => e ⟨e2, z⟩
          have z := len_nx_same hc
          rw [e2] at z
          omega
        · rw [len_nx_ne (fun z => e2 z.symm)]
          exact h1
      obtain ⟨t, ht, e1, e2⟩ := visit n i v (nx_ok hc) l h2
      exact ⟨t + 1, by omega, e1, e2⟩
def Hm (d : Cd) (j : Nat) : Prop := Home0 (it j d) ∧ ∀ k, k < j → ¬ Home0 (it k d)
theorem hm_is {d : Cd} (h : COk d) (f : Free d) : ∃ j, Hm d j := by
  have hp : 0 < d.2.length := Nat.lt_of_le_of_lt (Nat.zero_le _) h
  have e : len (it (d.2.length * d.2.length) d) 0 = len d 0 + d.2.length := by
    rw [it_round h f]
    exact getD_map_add _ _ hp
  obtain ⟨v, v1, v2, v3⟩ : ∃ v, len d 0 ≤ v ∧ v < len d 0 + d.2.length ∧ v % d.2.length = 0 := by
    by_cases z : len d 0 = 0
    · exact ⟨0, by omega, by omega, Nat.zero_mod _⟩
    · obtain ⟨v, a1, a2, a3⟩ := some_to (p := d.2.length) 0 (len d 0 - 1) 0 hp
      rw [Nat.zero_add] at a3
      exact ⟨v, by omega, by omega, a3⟩
  obtain ⟨t, _, t1, t2⟩ := visit (d.2.length * d.2.length) 0 v h v1 (by rw [e]; exact v2)
  have hm : Home0 (it t d) := ⟨t1, by rw [it_len, t2]; exact v3⟩
  exact least_of (Q := fun k => Home0 (it k d)) hm
theorem hm_one {d : Cd} {j k : Nat} (a : Hm d j) (b : Hm d k) : j = k := by
  rcases Nat.lt_trichotomy j k with l | e | l
  · exact absurd a.1 (b.2 j l)
  · exact e
  · exact absurd b.1 (a.2 k l)
/-- the tree of the round to which c comes -/
def TreeOf (c : Cd) (t : List Nat) : Prop := ∃ n j, Ahead c n ∧ Hm (it n c) j ∧ t = (gos (it (n + j) c)).drop 1
theorem treeOf_one {c : Cd} {t u : List Nat} (a : TreeOf c t) (b : TreeOf c u) : t = u := by
  obtain ⟨n, j, a1, a2, rfl⟩ := a
  obtain ⟨m, k, b1, b2, rfl⟩ := b
  have e := ahead_one a1 b1
  subst e
  rw [hm_one a2 b2]
theorem treeOf_len {c : Cd} {t : List Nat} (a : TreeOf c t) : t.length = c.2.length - 1 := by
  obtain ⟨n, j, _, _, rfl⟩ := a
  rw [List.length_drop, gos_len, it_len]
theorem treeOf_lt {c : Cd} (h : COk c) {t : List Nat} (a : TreeOf c t) : ∀ x ∈ t, x < c.2.length := by
  obtain ⟨n, j, _, _, rfl⟩ := a
  intro x hx
  have hx2 := List.mem_of_mem_drop hx
  unfold gos at hx2
  obtain ⟨i, _, rfl⟩ := List.mem_map.mp hx2
  have z := go_lt (it_ok (n + j) h) i
  rw [it_len] at z
  exact z
theorem ne_no {A B : Prop} {x y : V} (e : x = y) (h : B) : if (!decide (x = y)) = true then A else B := by
  rw [decide_eq_true e]
  exact iteF h
theorem ne_yes {A B : Prop} {x y : V} (e : ¬ x = y) (h : A) : if (!decide (x = y)) = true then A else B := by
  rw [decide_eq_false e]
  exact iteT h
def toldTree (c : Cd) (Q : VK) (H : Hp) : Prop := ∀ t p H', TreeOf c t → Same H H' → H' p = some (.tup (t.map vN)) → Q (.ref p) H'
def spGoals : Sp := fun vs H Q _ => ∃ v c, vs = [v] ∧ Cat H v c ∧ CdOk c ∧ ∀ p H', H p = none → Same H H' → H' p = some (.lst ((gos c).map vN)) → Q (.ref p) H'
def spHome : Sp := fun vs H Q _ => ∃ g c, vs = [.ref g, .int ((c.1 : Nat) : Int)] ∧ H g = some (.lst ((gos c).map vN)) ∧ COk c ∧ c.2.length ≤ 12 ∧ ∀ b, (b = true ↔ Free c) → Q (.bl b) H
def spEnter : Sp := fun vs H Q _ => ∃ v c, vs = [v] ∧ Cat H v c ∧ CdOk c ∧ toldEnter c Q H
def spTree : Sp := fun vs H Q _ => ∃ v c, vs = [v] ∧ Cat H v c ∧ CdOk c ∧ toldTree c Q H
def spUCoder : Sp := fun vs H Q _ => ∃ (a : Addr) (m n : Int), vs = [.ref a, .int m] ∧ Urn H a n ∧ n ≤ 90000 ∧ 1 ≤ m ∧ m ≤ 12 ∧
  ∀ v c H', CdOk c → (c.2.length : Int) ≤ m → (∀ n ∈ c.2, n < 10 ^ 31) → Urn H' a (n + 100) → SameBut a H H' → Cat H' v c → Q v H'
end Lk
end
section
set_option maxRecDepth 100000
set_option maxHeartbeats 2000000
/-! Any loops: what is told. -/
namespace Lk
open PySem PySem.Spec PyProof.Rows L2
theorem tx_small {ws : List (List Nat)} (h : isKnown ws = true) : (([] : List Nat) :: ws).Nodup := by
  obtain ⟨h1, h2, _⟩ := isKnown_iff.mp h
  exact nodup0 h1 h2
/-- the lengths on a loop's root; NoKnown of what is none -/
def spKL (CK : Addr) : Sp := fun vs H Q E => ∃ b kv k1, vs = [.str (SX.S b), kv] ∧ isLoop b = true ∧ KnownV H kv k1 ∧ (k1 = false → ∀ H', Same H H' → E (.ref CK) none H') ∧
  (k1 = true → ∃ a ws, kv = .ref a ∧ H a = some (.tup (tx ws)) ∧ isKnown ws = true ∧ ws.length ≤ 5000 ∧ ∀ ls p H', LNs ws b ls → Same H H' → H' p = some (.tup (ls.map vN)) → Q (.ref p) H')
/-- NoLoop, then NoKnown; else what is told of the root's lengths -/
def spAny (CL CK : Addr) (T : List (List Nat) → List Nat → List Nat → VK → Hp → Prop) : Sp := fun vs H Q E => ∃ lv kv k0 k1, vs = [lv, kv] ∧ LoopV H lv k0 ∧ KnownV H kv k1 ∧ (k0 = false → ∀ H', Same H H' → E (.ref CL) none H') ∧
  (k0 = true → k1 = false → ∀ H', Same H H' → E (.ref CK) none H') ∧
  (k0 = true → k1 = true → ∃ l d a ws, lv = .str (SX.S l) ∧ isLoop l = true ∧ IsPer l d ∧ kv = .ref a ∧ H a = some (.tup (tx ws)) ∧ isKnown ws = true ∧ ws.length ≤ 5000 ∧ ∀ ls, LNs ws (l.take d) ls → T ws (l.take d) ls Q H)
def toldLens (_ : List (List Nat)) (_ ls : List Nat) (Q : VK) (H : Hp) : Prop := ∀ p H', Same H H' → H' p = some (.tup (ls.map vN)) → Q (.ref p) H'
theorem LNs.ex (ws : List (List Nat)) (b : List Nat) : ∃ ls, LNs ws b ls := by
  refine ⟨(List.range b.length).map fun a => if h : a < b.length then (LN.ex ws h).choose else 0, by rw [List.length_map, List.length_range], fun a ha => ?_⟩
  rw [List.getD_eq_getElem?_getD, List.getElem?_map, List.getElem?_range ha]
  show LN ws b a (if h : a < b.length then _ else 0)
  rw [dif_pos ha]
  exact (LN.ex ws ha).choose_spec
end Lk
end
section
set_option maxRecDepth 100000
set_option maxHeartbeats 2000000
namespace Lk
open PySem PySem.Spec PyProof.Rows L2
section
variable {P : Program} {w : World} {K : PySem.W.Frag} {mg : Str → Option Value} {base : Heap}
abbrev nKL : List Str := ["loop", "known", "numbers", "text", "at"]
theorem sc_knownLengths : FnScope nKL ["loop", "known"] (defScope s_known_lengths) := ⟨rfl, rfl, rfl, by decide +kernel, rfl, by decide +kernel, by decide +kernel⟩
theorem ok_knownLengths {f CK : Addr} {fd : FuncData} (F : Fun K "known_lengths" "known_lengths" s_known_lengths f fd) (cr : CalX P w K mg base 4 "refuse_unknown" (spRefK CK)) (cn : C8.Cal P w K mg base 1 "numbered" (spNumbered K) []) (cl : C8.Cal P w K mg base 1 "longest_end" spLongest []) (ml : mg "len" = none) (mr : mg "range" = none) (mt : mg "tuple" = none) : FnOk P w K mg base (L2.CX P w) 5 f fd ["loop", "known"] (spKL CK) := by
  refine F.okX sc_knownLengths (fun vs H Q E h => ?_) (fun cdv A outer s H vs Q E hr h => ?_)
  · obtain ⟨b, kv, k1, rfl, _⟩ := h
    rfl
  · obtain ⟨b, kv, k1, rfl, hb, hk, q1, q⟩ := h
    have nd := sc_knownLengths.nd
    refine ⟨_, (pss_cons (by exact (ps_expr (pe_cX cr (takes_of rfl rfl rfl rfl) hr (by decide) rfl (pa_cons (pv 1) pa_nil))))
      (pss_cons (by exact (ps_set (i := 2) nd rfl (Or.inr rfl) (C8.pe_c cn hr (by decide) rfl (pa_cons (pv 1) pa_nil))))
      (pss_cons (by exact (ps_set (i := 3) nd rfl (Or.inr rfl) (pe_op op_mulS (pv 0) (pe_op op_add (pe_op op_fdivN (pe_callB call_len_seq (by rfl) ml PySem.boot_len (pa_cons (pv 1) pa_nil)) (pe_callB call_len_str (by rfl) ml PySem.boot_len (pa_cons (pv 0) pa_nil))) pe_int))))
      (pss_one (by exact (ps_ret (pe_callTy call_tupS (by rfl) mt (by decide +kernel) (pa_cons (pe_lc (own := [("at", 4)]) (g := (gName 4)) (tt := tYes) rfl nd (pi_range1 (by rfl) mr (pa_cons (pe_callB call_len_str (by rfl) ml PySem.boot_len (pa_cons (pv 0) pa_nil)) pa_nil)) (blkOk_by (N := nKL) (sc := defScope s_known_lengths) (by decide +kernel)) (fun _ _ _ _ _ => (pg_name (i := 4) nd rfl (Or.inl rfl))) (fun _ _ _ _ _ => pts_nil) (fun _ _ _ _ _ => (pe_op op_sub (C8.pe_c cl hr (by decide) rfl (pa_cons (pv 2) (pa_cons (pv 3) (pa_cons (pv 4) pa_nil)))) (pv 4)))) pa_nil)))))))), ?_⟩
    refine ⟨_, rfl, kv, k1, rfl, hk, fun hk1 H1 s1 => ?_, fun z H1 s1 => q1 z H1 s1⟩
    obtain ⟨a, ws, rfl, ha, hkn, hlen, qq⟩ := q hk1
    obtain ⟨az, l1, l12⟩ := isLoop_len hb
    have ha1 := s1 _ _ ha
    refine ⟨_, rfl, a, ws, rfl, SqT.of ha1, tx_small hkn, by omega, fun d H2 nd2 e2 s2 => ?_⟩
    have ha2 := s2 _ _ ha1
    have sm : (SX.S b).length ≤ sizeLine := small12 l12
    have room2 : (ws.length / b.length + 2) * b.length ≤ 5100 := by
      have := Nat.div_mul_le_self ws.length b.length
      rw [Nat.add_mul]
      omega
    have q5 : ws.length / b.length ≤ 5000 := Nat.le_trans (Nat.div_le_self _ _) hlen
    refine ⟨_, rfl, _, rfl, a, _, rfl, .inr (SqT.of ha2), _, rfl, SX.S b, rfl, sm, _, _, rfl, rfl, ⟨by rw [SX.S_len]; omega, by rw [SX.S_len]; omega⟩, _, _, rfl, rfl, b, ws.length / b.length + 2, rfl, ?_, by omega, by omega, ?_⟩
    · rw [SX.S_len, List.length_map]
      refine congrArg V.int ?_
      show Int.fdiv (ws.length : Int) (b.length : Int) + 2 = ((ws.length / b.length + 2 : Nat) : Int)
      rw [Int.fdiv_eq_ediv_of_nonneg _ (by omega)]
      push_cast
      rfl
    refine ⟨_, rfl, SX.S b, rfl, sm, ((b.length : Nat) : Int), by rw [SX.S_len], by omega, by omega, fun D nD => ?_⟩
    rw [Int.toNat_natCast]
    obtain ⟨ls, hls⟩ := LNs.ex ws b
    refine lc_it walk_range (fun i H4 => Same H2 H4 ∧ H4 D = some (.lst ((ls.take i).map vN))) ⟨same_new nD, upd_same⟩ (fun _ _ _ _ => True.intro) ?_ ?_
    · rintro i x H4 H5 hi ⟨s4, e4⟩ ⟨rfl, rfl⟩
      have hx : ls[i]? = some (ls.getD i 0) := by
        rw [List.getD_eq_getElem?_getD, List.getElem?_eq_getElem (by rw [hls.1]; exact hi)]
        rfl
      obtain ⟨acc, a1, a2, a3⟩ := snoc_map (f := vN) e4 hx (by rw [hls.1]; omega)
      refine ⟨rfl, _, rfl, _, rfl, _, rfl, d, [] :: ws, rep (ws.length / b.length + 2) b, i, by show [_, _, V.int (0 + (i : Int))] = _; rw [Int.zero_add], s4 _ _ e2, by rw [rep_len]; have := room (p := b.length) (q := ws.length) (by omega); omega, by rw [rep_len]; omega, fun e he => ?_⟩
      refine ⟨_, rfl, _, _, rfl, rfl, acc, a1, a2, same_push s4 nD, ?_⟩
      have z := (LN.of hi he).uniq (hls.2 i hi)
      have ge := he.ge
      rw [← z, show vN (e - i) = V.int ((e : Int) - (0 + (i : Int))) from congrArg V.int (by omega)] at a3
      exact a3
    · rintro H4 ⟨s4, e4⟩
      rw [← hls.1, List.take_length] at e4
      refine ⟨D, _, rfl, .inl ⟨e4, fun T H5 nT s5 e5 => ?_⟩⟩
      exact qq ls T H5 hls (Same.trans s1 (Same.trans s2 (Same.trans s4 s5))) e5
end
end Lk
end
section
set_option maxRecDepth 100000
set_option maxHeartbeats 2000000
namespace Lk
open PySem PySem.Spec PyProof.Rows L2
/-- NoLoop of what is no plain loop -/
def spNotPlain (C : Addr) : Sp := fun vs H Q E => ∃ v b, vs = [v] ∧ LoopV H v b ∧ (b = false → ∀ H', Same H H' → E (.ref C) none H') ∧ (b = true → ∀ l, v = .str (SX.S l) → isLoop l = true → (¬ l.Nodup → ∀ H', Same H H' → E (.ref C) none H') ∧ (l.Nodup → ∀ H', Same H H' → Q .non H'))
/-- NoLoop of what is no plain loop, then NoKnown; else the coder at place 0 with the lengths -/
def spCoderOn (CL CK : Addr) : Sp := fun vs H Q E => ∃ lv kv k0 k1, vs = [lv, kv] ∧ LoopV H lv k0 ∧ KnownV H kv k1 ∧ (k0 = false → ∀ H', Same H H' → E (.ref CL) none H') ∧
  (k0 = true → ∀ l, lv = .str (SX.S l) → isLoop l = true → (¬ l.Nodup → ∀ H', Same H H' → E (.ref CL) none H') ∧ (l.Nodup → (k1 = false → ∀ H', Same H H' → E (.ref CK) none H') ∧
    (k1 = true → ∃ a ws, kv = .ref a ∧ H a = some (.tup (tx ws)) ∧ isKnown ws = true ∧ ws.length ≤ 5000 ∧ ∀ ls, LNs ws l ls → ∀ v H', Same H H' → Cat H' v (0, ls) → Q v H')))
section
variable {P : Program} {w : World} {K : PySem.W.Frag} {mg : Str → Option Value} {base : Heap}
theorem sc_notPlain : FnScope ["loop"] ["loop"] (defScope s_refuse_not_plain) := ⟨rfl, rfl, rfl, by decide +kernel, rfl, by decide +kernel, by decide +kernel⟩
theorem ok_notPlain {f C : Addr} {fd : FuncData} (F : Fun K "refuse_not_plain" "refuse_not_plain" s_refuse_not_plain f fd) (cl : CalX P w K mg base 4 "is_plain" (spPlain C)) (T : ErrC K mg "NoLoop" C) : FnOk P w K mg base (L2.CX P w) 5 f fd ["loop"] (spNotPlain C) := by
  refine F.okX sc_notPlain (fun vs H Q E h => ?_) (fun cdv A outer s H vs Q E hr h => ?_)
  · obtain ⟨v, b, rfl, _⟩ := h
    rfl
  · obtain ⟨v, b, rfl, hv, q0, q1⟩ := h
    refine ⟨_, pss_one (ps_if (pt_not (pt_val (pe_cX cl (takes_of rfl rfl rfl rfl) hr (by decide) rfl (pa_cons (pv 0) pa_nil))))
      (pss_one (ps_raise rfl (takes_of rfl rfl rfl rfl) (pmk_own PySem.F.excBase_ValueError T.x T.g T.k (raises_own T.b T.t) rfl))) pss_nil), ?_⟩
    refine ⟨_, rfl, v, b, rfl, hv, fun hb l el H1 s1 => ⟨_, rfl, ?_⟩, fun hb H1 s1 => q0 hb H1 s1⟩
    obtain ⟨l2, e2, hl⟩ := hv.text hb
    have e3 : l2 = l := SX.S_inj (V.str.inj (e2.symm.trans el))
    subst e3
    obtain ⟨a1, a2⟩ := q1 hb l2 el hl
    by_cases c : l2.Nodup
    · rw [decide_eq_true c]
      exact a2 c H1 s1
    · rw [decide_eq_false c]
      exact a1 c H1 s1
abbrev nCO : List Str := ["loop", "known"]
theorem sc_coderOn : FnScope nCO ["loop", "known"] (defScope s_coder_on) := ⟨rfl, rfl, rfl, by decide +kernel, rfl, by decide +kernel, by decide +kernel⟩
theorem ok_coderOn {f CL CK : Addr} {fd : FuncData} (F : Fun K "coder_on" "coder_on" s_coder_on f fd) (cp : CalX P w K mg base 5 "refuse_not_plain" (spNotPlain CL)) (ck : CalX P w K mg base 5 "known_lengths" (spKL CK)) : FnOk P w K mg base (L2.CX P w) 6 f fd ["loop", "known"] (spCoderOn CL CK) := by
  refine F.okX sc_coderOn (fun vs H Q E h => ?_) (fun cdv A outer s H vs Q E hr h => ?_)
  · obtain ⟨lv, kv, k0, k1, rfl, _⟩ := h
    rfl
  · obtain ⟨lv, kv, k0, k1, rfl, hl, hk, q0, q1⟩ := h
    have nd := sc_coderOn.nd
    refine ⟨_, (pss_cons (by exact (ps_expr (pe_cX cp (takes_of rfl rfl rfl rfl) hr (by decide) rfl (pa_cons (pv 0) pa_nil))))
      (pss_one (by exact (ps_ret (pe_tupS (pa_cons pe_int (pa_cons (pe_cX ck (takes_of rfl rfl rfl rfl) hr (by decide) rfl (pa_cons (pv 0) (pa_cons (pv 1) pa_nil))) pa_nil))))))), ?_⟩
    refine ⟨_, rfl, lv, k0, rfl, hl, q0, fun h0 l el hlp => ⟨(q1 h0 l el hlp).1, fun nd H1 s1 => ?_⟩⟩
    obtain ⟨a1, a2⟩ := (q1 h0 l el hlp).2 nd
    subst el
    refine ⟨_, rfl, _, rfl, l, kv, k1, rfl, hlp, hk.same s1, fun z H2 s2 => a1 z H2 (Same.trans s1 s2), fun hk1 => ?_⟩
    obtain ⟨a, ws, ea, ha, hkn, hlen, t⟩ := a2 hk1
    refine ⟨a, ws, ea, s1 _ _ ha, hkn, hlen, fun ls p H2 hls s2 e2 => ⟨(by show 2 ≤ sizeLine; decide), fun C H3 nC s3 eC => ?_⟩⟩
    exact t ls hls (.ref C) H3 (Same.trans s1 (Same.trans s2 s3)) ⟨C, p, rfl, eC, s3 _ _ e2⟩
end
end Lk
end
section
set_option maxRecDepth 100000
set_option maxHeartbeats 2000000
namespace Lk
open PySem PySem.Spec PyProof.Rows L2
section
variable {P : Program} {w : World} {K : PySem.W.Frag} {mg : Str → Option Value} {base : Heap}
theorem sc_whole : FnScope ["thing"] ["thing"] (defScope s_is_whole) := ⟨rfl, rfl, rfl, by decide +kernel, rfl, by decide +kernel, by decide +kernel⟩
theorem ok_whole {f : Addr} {fd : FuncData} (F : Fun K "is_whole" "is_whole" s_is_whole f fd) (mi : mg "isinstance" = none) (mn : mg "int" = none) (mb : mg "bool" = none) : FnOk P w K mg base CX0 1 f fd ["thing"] spWhole := by
  refine F.ok sc_whole (fun vs H Q E h => ?_) (fun cdv A outer s H vs Q E hr h => ?_)
  · obtain ⟨v, d, rfl, _⟩ := h
    rfl
  · obtain ⟨v, d, rfl, hv, q⟩ := h
    refine ⟨_, pss_one (ps_ret (pe_and (pe_callB call_isi (by rfl) mi (by decide +kernel) (pa_cons (pv 0) (pa_cons (pe_bltn (v := .ty "int") (by rfl) mn (by decide +kernel) rfl) pa_nil)))
      (pe_one (pe_not (pe_callB call_isi (by rfl) mi (by decide +kernel) (pa_cons (pv 0) (pa_cons (pe_bltn (v := .ty "bool") (by rfl) mb (by decide +kernel) rfl) pa_nil))))))), ?_⟩
    refine ⟨_, rfl, v, .ty "int", _, _, isI d, rfl, .ty _, hv.ty, kit_int d, _, rfl, ?_⟩
    cases hI : isI d with
    | false =>
      have e : isW d = false := by cases d <;> first | rfl | (cases hI)
      rw [e] at q
      exact q
    | true =>
      refine ⟨_, rfl, v, .ty "bool", _, _, isB d, rfl, .ty _, hv.ty, kit_bool d, _, rfl, ?_⟩
      have e : isW d = !isB d := by cases d <;> first | rfl | (cases hI)
      rw [e] at q
      exact q
end
end Lk
end
section
set_option maxRecDepth 100000
set_option maxHeartbeats 2000000
namespace Lk
open PySem PySem.Spec PyProof.Rows L2
section
variable {P : Program} {w : World} {K : PySem.W.Frag} {mg : Str → Option Value} {base : Heap}
theorem sc_within : FnScope ["thing", "least", "most"] ["thing", "least", "most"] (defScope s_is_within) := ⟨rfl, rfl, rfl, by decide +kernel, rfl, by decide +kernel, by decide +kernel⟩
theorem ok_within {f : Addr} {fd : FuncData} (F : Fun K "is_within" "is_within" s_is_within f fd) (cw : C8.Cal P w K mg base 1 "is_whole" spWhole []) : FnOk P w K mg base CX0 2 f fd ["thing", "least", "most"] spWithin := by
  refine F.ok sc_within (fun vs H Q E h => ?_) (fun cdv A outer s H vs Q E hr h => ?_)
  · obtain ⟨v, d, a, b, rfl, _⟩ := h
    rfl
  · obtain ⟨v, d, a, b, rfl, hv, q⟩ := h
    refine ⟨_, pss_one (by exact (ps_ret (pe_and (C8.pe_c cw hr (Nat.le_refl _) rfl (pa_cons (pv 0) pa_nil)) (pe_one (pe_chain op_le op_le (pv 1) (pv 0) (pv 2)))))), ?_⟩
    refine ⟨_, rfl, v, d, rfl, hv, _, rfl, ?_⟩
    cases hv with
    | int i =>
      refine ⟨_, rfl, _, rfl, _, _, rfl, rfl, _, rfl, ?_⟩
      have e : inR (.int i) a b = (decide (a ≤ i) && decide (i ≤ b)) := rfl
      rw [e] at q
      refine ite2 (fun g => ?_) (fun g => ?_)
      · refine ⟨_, rfl, _, _, rfl, rfl, ?_⟩
        rw [g, Bool.true_and] at q
        exact q
      · rw [Bool.eq_false_iff.mpr g, Bool.false_and] at q
        exact q
    | _ => exact q
end
end Lk
end
section
set_option maxRecDepth 100000
set_option maxHeartbeats 2000000
namespace Lk
open PySem PySem.Spec PyProof.Rows L2
section
variable {P : Program} {w : World} {K : PySem.W.Frag} {mg : Str → Option Value} {base : Heap}
theorem sc_count : FnScope ["thing", "least", "most"] ["thing", "least", "most"] (defScope s_refuse_no_count) := ⟨rfl, rfl, rfl, by decide +kernel, rfl, by decide +kernel, by decide +kernel⟩
theorem ok_count {f C : Addr} {fd : FuncData} (F : Fun K "refuse_no_count" "refuse_no_count" s_refuse_no_count f fd) (cw : C8.Cal P w K mg base 2 "is_within" spWithin []) (T : ErrC K mg "NoCount" C) : FnOk P w K mg base (L2.CX P w) 3 f fd ["thing", "least", "most"] (spCount C) := by
  refine F.okX sc_count (fun vs H Q E h => ?_) (fun cdv A outer s H vs Q E hr h => ?_)
  · obtain ⟨v, d, a, b, rfl, _⟩ := h
    rfl
  · obtain ⟨v, d, a, b, rfl, hab, hv, q0, q1⟩ := h
    refine ⟨_, pss_one (by exact (ps_if (pt_not (pt_val (C8.pe_c cw hr (Nat.le_refl _) rfl (pa_cons (pv 0) (pa_cons (pv 1) (pa_cons (pv 2) pa_nil))))))
      (pss_one (ps_raise rfl (takes_of rfl rfl rfl rfl) (SkE.pmk_own1 PySem.F.excBase_ValueError T.x T.g T.k (raises_own T.b T.t) rfl
        (pe_joined (.cons pe_str (.cons (pe_fmt (pv 1)) (.cons pe_str (.cons (pe_fmt (pv 2)) (.cons pe_str .nil))))))))) pss_nil)), ?_⟩
    refine ⟨_, rfl, _, rfl, _, rfl, v, d, a, b, rfl, hv, _, rfl, ?_⟩
    cases e : inR d a b with
    | true => exact q0 e
    | false =>
      rcases hab with ⟨rfl, rfl⟩ | ⟨rfl, rfl⟩ | ⟨rfl, rfl⟩ | ⟨rfl, rfl⟩ | ⟨rfl, rfl⟩ | ⟨rfl, rfl⟩ <;>
      · refine ⟨_, rfl, (by decide +kernel), _, rfl, .inr ⟨_, rfl, (by decide +kernel), _, rfl, (by decide +kernel), _, rfl, (by decide +kernel), _, rfl, .inr ⟨_, rfl, (by decide +kernel), _, rfl, (by decide +kernel), _, rfl, (by decide +kernel), ?_⟩⟩⟩
        exact q1 e
end
end Lk
end
section
set_option maxRecDepth 100000
set_option maxHeartbeats 2000000
namespace Lk
open PySem PySem.Spec PyProof.Rows L2
section
variable {P : Program} {w : World} {K : PySem.W.Frag} {mg : Str → Option Value} {base : Heap}
abbrev nIC : List Str := ["thing", "place", "lengths", "length"]
theorem sc_isCoder : FnScope nIC ["thing"] (defScope s_is_coder) := ⟨rfl, rfl, rfl, by decide +kernel, rfl, by decide +kernel, by decide +kernel⟩
theorem ok_isCoder {f : Addr} {fd : FuncData} (F : Fun K "is_coder" "is_coder" s_is_coder f fd) (cw : C8.Cal P w K mg base 1 "is_whole" spWhole []) (ci : C8.Cal P w K mg base 2 "is_within" spWithin [])
    (mi : mg "isinstance" = none) (mt : mg "tuple" = none) (ml : mg "len" = none) (ma : mg "all" = none) {tp : Tok} (mp : mg "MOST_PLACES" = some (.int 12 tp)) : FnOk P w K mg base CX0 3 f fd ["thing"] spIsCoder := by
  refine F.ok sc_isCoder (fun vs H Q E h => ?_) (fun cdv A outer s H vs Q E hr h => ?_)
  · obtain ⟨v, d, rfl, _⟩ := h
    rfl
  · obtain ⟨v, d, rfl, hv, q⟩ := h
    have nd := sc_isCoder.nd
    refine ⟨_, pss_cons (by exact (ps_if (PW.pt (pw_or (pt_not (pt_val (pe_callB call_isi (by rfl) mi (by decide +kernel) (pa_cons (pv 0) (pa_cons (pe_bltn (v := .ty "tuple") (by rfl) mt (by decide +kernel) rfl) pa_nil)))))
        (pw_or1 (pt_cmpR op_ne (pe_callB call_len_seq (by rfl) ml PySem.boot_len (pa_cons (pv 0) pa_nil)) pe_int (nomark _))))) (pss_one (ps_ret pe_bl)) pss_nil))
      (pss_cons (by exact (ps_asg (pv 0) (pg_tup rfl (pgs_cons (pg_name (i := 1) nd rfl (Or.inl rfl)) (pgs_cons (pg_name (i := 2) nd rfl (Or.inl rfl)) pgs_nil)))))
      (pss_cons (by exact (ps_if (PW.pt (pw_or (pt_not (pt_val (pe_callB call_isi (by rfl) mi (by decide +kernel) (pa_cons (pv 2) (pa_cons (pe_bltn (v := .ty "tuple") (by rfl) mt (by decide +kernel) rfl) pa_nil)))))
        (pw_or1 (pt_not (pt_chain op_le op_le pe_int (pe_callB call_len_seq (by rfl) ml PySem.boot_len (pa_cons (pv 2) pa_nil)) (pe_glob (v := .int 12) rfl mp ⟨_, rfl⟩)))))) (pss_one (ps_ret pe_bl)) pss_nil))
      (pss_cons (by exact (ps_if (pt_not (pt_val (C8.pe_c ci hr (by decide) rfl (pa_cons (pv 1) (pa_cons pe_int (pa_cons (pe_op op_sub (pe_callB call_len_seq (by rfl) ml PySem.boot_len (pa_cons (pv 2) pa_nil)) pe_int) pa_nil)))))) (pss_one (ps_ret pe_bl)) pss_nil))
      (pss_one (by exact (ps_ret (pe_callB (cr_all rfl) (by rfl) ma (by decide +kernel) (pa_cons (pe_lc (own := [("length", 3)]) (g := gName 3) (tt := tYes) rfl nd (pi_tup (pv 2)) (blkOk_by (N := nIC) (sc := defScope s_is_coder) (by decide +kernel))
          (fun _ _ _ _ _ => pg_name (i := 3) nd rfl (Or.inl rfl)) (fun _ _ _ _ _ => pts_nil) (fun _ _ _ _ _ => pe_and (C8.pe_c cw hr (by decide) rfl (pa_cons (pv 3) pa_nil)) (pe_one (pe_cmpR op_ge (pv 3) pe_int (nomark _))))) pa_nil)))))))), ?_⟩
    refine ⟨_, rfl, v, .ty "tuple", _, _, isT d, rfl, .ty _, hv.ty, kit_tuple d, _, rfl, ?_⟩
    cases hT : isT d with
    | false =>
      have e : isCd d = false := by cases d <;> first | rfl | (cases hT)
      rw [e] at q
      exact q H (Same.refl H)
    | true =>
      cases hv with
      | tup ea ma =>
        rename_i a xs ds
        refine ⟨_, rfl, a, xs, rfl, .inr (SqT.of ea), rfl, _, rfl, ite2 (fun g => ?_) (fun g => ?_)⟩
        · have z : xs.length ≠ 2 := fun z => by
            rw [z] at g
            cases g
          have e : isCd (.tuple ds) = false := isCd_two fun z2 => z (by rw [ma.length, z2])
          rw [e] at q
          exact q H (Same.refl H)
        · have z : xs.length = 2 := Classical.byContradiction fun z => g (by
            rw [Bool.not_eq_true', decide_eq_false_iff_not]
            intro y
            exact z (by have := V.int.inj y; omega))
          cases ma with
          | nil => cases z
          | cons hp m1 =>
            rename_i xp xs1 dp ds1
            cases m1 with
            | nil => cases z
            | cons hl m2 =>
              rename_i xl xs2 dl ds2
              cases m2 with
              | cons _ m3 => exact absurd z (by simp only [List.length_cons]; omega)
              | nil =>
                refine ⟨_, rfl, a, [xp, xl], rfl, SqT.of ea, rfl, _, _, rfl, _, _, rfl, rfl, ?_⟩
                refine ⟨_, rfl, xl, .ty "tuple", _, _, isT dl, rfl, .ty _, hl.ty, kit_tuple dl, _, rfl, ?_⟩
                cases hT2 : isT dl with
                | false =>
                  rw [isCd_no hT2] at q
                  exact q H (Same.refl H)
                | true =>
                  cases hl with
                  | tup eb mb =>
                    rename_i b ls dls
                    have hll := mb.length
                    refine ⟨_, rfl, b, ls, rfl, .inr (SqT.of eb), _, _, rfl, rfl, _, rfl, ?_⟩
                    have eC : isCd (.tuple [dp, .tuple dls]) = ((decide (1 ≤ dls.length) && decide (dls.length ≤ 12)) && (inR dp 0 ((dls.length : Int) - 1) && dls.all natD)) := rfl
                    rw [eC, ← hll] at q
                    refine ite2 (fun g1 => ?_) (fun g1 => ?_)
                    · have g1' : 1 ≤ ls.length := by have y := of_decide_eq_true g1; omega
                      refine ⟨_, _, rfl, rfl, _, rfl, ?_⟩
                      rw [decide_eq_true g1', Bool.true_and] at q
                      have e12 : decide ((ls.length : Int) ≤ 12) = decide (ls.length ≤ 12) := by
                        by_cases c : ls.length ≤ 12
                        · rw [decide_eq_true c, decide_eq_true (by omega)]
                        · rw [decide_eq_false c, decide_eq_false (by omega)]
                      rw [e12]
                      cases c12 : decide (ls.length ≤ 12) with
                      | false =>
                        rw [c12, Bool.false_and] at q
                        exact q H (Same.refl H)
                      | true =>
                        rw [c12, Bool.true_and] at q
                        have c12' := of_decide_eq_true c12
                        refine ⟨_, rfl, _, rfl, b, ls, rfl, .inr (SqT.of eb), _, _, rfl, rfl, xp, dp, 0, _, rfl, hp, _, rfl, ?_⟩
                        cases ci : inR dp 0 ((ls.length : Int) - 1) with
                        | false =>
                          rw [ci, Bool.false_and] at q
                          exact q H (Same.refl H)
                        | true =>
                          rw [ci, Bool.true_and] at q
                          refine ⟨_, rfl, b, rfl, ⟨ls, SqT.of eb⟩, fun D nD => ?_⟩
                          have ml2 : (dls.map natD).length ≤ 100000 := by rw [List.length_map, ← hll]; omega
                          refine lc_it walk_tup (fun i H3 => Same H H3 ∧ H3 D = some (.lst (((dls.map natD).take i).map V.bl))) ⟨same_new nD, upd_same⟩ (fun i H3 _ p => SqT.of (p.1 _ _ eb)) ?_ ?_
                          · rintro i x H3 H4 hi ⟨s3, e3⟩ ⟨rfl, hx⟩
                            obtain ⟨dx, hdx, tx⟩ := mb.get hx
                            have hc : (dls.map natD)[i]? = some (natD dx) := by rw [List.getElem?_map, hdx]; rfl
                            refine ⟨rfl, _, rfl, x, dx, rfl, Th.same s3 dx tx, _, rfl, ?_⟩
                            have fin : ∀ y : Bool, y = natD dx → ∃ acc, H4 D = some (HO.lst acc) ∧ acc.length < sizeLine ∧ Same H (upd H4 D (HO.lst (acc ++ [V.bl y]))) ∧ upd H4 D (HO.lst (acc ++ [V.bl y])) D = some (HO.lst (((dls.map natD).take (i + 1)).map V.bl)) := by
                              rintro y rfl
                              obtain ⟨acc, a1, a2, a3, a4⟩ := snoc_bl (H4 := H4) (D := D) e3 hc ml2
                              exact ⟨acc, a1, a2, same_push s3 nD, a3⟩
                            cases tx with
                            | int n => exact ⟨_, rfl, _, _, rfl, rfl, fin _ rfl⟩
                            | _ => exact fin _ rfl
                          · rintro H3 ⟨s3, e3⟩
                            rw [show ls.length = (dls.map natD).length by rw [List.length_map, hll], List.take_length] at e3
                            refine ⟨D, _, rfl, SqL.of e3, ?_⟩
                            rw [List.all_map]
                            exact q H3 s3
                    · have g1' : ¬ 1 ≤ ls.length := fun y => g1 (decide_eq_true (by omega))
                      refine ⟨_, rfl, ?_⟩
                      rw [decide_eq_false g1', Bool.false_and, Bool.false_and] at q
                      exact q H (Same.refl H)
                  | _ => cases hT2
      | _ => cases hT
end
end Lk
end
section
set_option maxRecDepth 100000
set_option maxHeartbeats 2000000
namespace Lk
open PySem PySem.Spec PyProof.Rows L2
section
variable {P : Program} {w : World} {K : PySem.W.Frag} {mg : Str → Option Value} {base : Heap}
theorem sc_refCoder : FnScope ["coder"] ["coder"] (defScope s_refuse_no_coder) := ⟨rfl, rfl, rfl, by decide +kernel, rfl, by decide +kernel, by decide +kernel⟩
theorem ok_refCoder {f C : Addr} {fd : FuncData} (F : Fun K "refuse_no_coder" "refuse_no_coder" s_refuse_no_coder f fd) (cl : C8.Cal P w K mg base 3 "is_coder" spIsCoder []) (T : ErrC K mg "NoCoder" C) {tp : Tok} (mp : mg "MOST_PLACES" = some (.int 12 tp)) : FnOk P w K mg base (L2.CX P w) 4 f fd ["coder"] (spRefCoder C) := by
  refine F.okX sc_refCoder (fun vs H Q E h => ?_) (fun cdv A outer s H vs Q E hr h => ?_)
  · obtain ⟨v, d, rfl, _⟩ := h
    rfl
  · obtain ⟨v, d, rfl, hv, q0, q1⟩ := h
    refine ⟨_, pss_one (by exact (ps_if (pt_not (pt_val (C8.pe_c cl hr (Nat.le_refl _) rfl (pa_cons (pv 0) pa_nil))))
      (pss_one (ps_raise rfl (takes_of rfl rfl rfl rfl) (SkE.pmk_own1 PySem.F.excBase_ValueError T.x T.g T.k (raises_own T.b T.t) rfl
        (pe_joined (.cons pe_str (.cons (pe_fmt (pe_glob (v := .int 12) rfl mp ⟨_, rfl⟩)) (.cons pe_str .nil))))))) pss_nil)), ?_⟩
    refine ⟨_, rfl, v, d, rfl, hv, fun H1 s1 => ⟨_, rfl, ?_⟩⟩
    cases e : isCd d with
    | true => exact q0 e H1 s1
    | false =>
      refine ⟨_, rfl, (by decide +kernel), .inr ⟨12, rfl, (by decide +kernel), _, rfl, (by decide +kernel), _, rfl, (by decide +kernel), ?_⟩⟩
      exact q1 e H1 s1
end
end Lk
end
section
set_option maxRecDepth 100000
set_option maxHeartbeats 2000000
namespace Lk
open PySem PySem.Spec PyProof.Rows L2
section
variable {P : Program} {w : World} {K : PySem.W.Frag} {mg : Str → Option Value} {base : Heap}
abbrev nOL : List Str := ["lengths", "place"]
theorem sc_oneLonger : FnScope nOL ["lengths", "place"] (defScope s_one_longer) := ⟨rfl, rfl, rfl, by decide +kernel, rfl, by decide +kernel, by decide +kernel⟩
theorem ok_oneLonger {f : Addr} {fd : FuncData} (F : Fun K "one_longer" "one_longer" s_one_longer f fd) : FnOk P w K mg base CX0 1 f fd ["lengths", "place"] spLonger := by
  refine F.ok sc_oneLonger (fun vs H Q E h => ?_) (fun cdv A outer s H vs Q E hr h => ?_)
  · obtain ⟨b, ls, k, rfl, _⟩ := h
    rfl
  · obtain ⟨b, ls, k, rfl, hb, hk, h12, q⟩ := h
    have nd := sc_oneLonger.nd
    refine ⟨_, pss_one (by exact (ps_ret (pe_tup (StX.pa_star (pe_slice sl_cut (pv 0) po_none (po_some (pv 1))) (pa_cons (pe_op op_add (pe_ix ix_tup (pv 0) (pv 1) (fun _ _ => rfl)) pe_int) (StX.pa_star (pe_slice sl_cut (pv 0) (po_some (pe_op op_add (pv 1) pe_int)) po_none) pa_nil)))))), ?_⟩
    refine ⟨_, rfl, _, rfl, _, rfl, b, _, rfl, SqT.of hb, fun b1 H1 s1 t1 _ => ⟨b1, _, rfl, .inl t1, ?_⟩⟩
    refine ⟨_, rfl, _, rfl, b, _, (k : Int), _, rfl, rfl, SqT.of (s1 _ _ hb), atI_nat (nat_at hk), _, _, rfl, rfl, ?_⟩
    refine ⟨_, rfl, _, rfl, _, _, rfl, rfl, _, rfl, b, _, rfl, SqT.of (s1 _ _ hb), fun b2 H2 s2 t2 _ => ⟨b2, _, rfl, .inl t2, ?_⟩⟩
    have e1 : cutV (ls.map vN) Option.none (some (k : Int)) = (ls.map vN).take k := cut_to (by rw [List.length_map]; omega)
    have e2 : cutV (ls.map vN) (some ((k : Int) + 1)) Option.none = (ls.map vN).drop (k + 1) := cut_from (n := k + 1)
    have e0 : V.int ((ls.getD k 0 : Int) + 1) = vN (ls.getD k 0 + 1) := rfl
    have eL : cutV (ls.map vN) Option.none (some (k : Int)) ++ (V.int ((ls.getD k 0 : Int) + 1) :: (cutV (ls.map vN) (some ((k : Int) + 1)) Option.none ++ [])) = (ls.set k (ls.getD k 0 + 1)).map vN := by
      rw [e1, e2, List.append_nil, ← List.map_take, ← List.map_drop, e0, ← List.map_cons, ← List.map_append, set_cut _ _ _ hk]
    refine ⟨?_, fun p np => ?_⟩
    · show (cutV (ls.map vN) Option.none (some (k : Int)) ++ (V.int ((ls.getD k 0 : Int) + 1) :: (cutV (ls.map vN) (some ((k : Int) + 1)) Option.none ++ []))).length ≤ sizeLine
      rw [eL, List.length_map, sizeLine_eq, List.length_set]
      omega
    · refine q p _ ((s1.trans s2).trans (same_new np)) ?_
      rw [upd_same]
      exact congrArg (fun z => some (HO.tup z)) eL
end
end Lk
end
section
set_option maxRecDepth 100000
set_option maxHeartbeats 2000000
namespace Lk
open PySem PySem.Spec PyProof.Rows L2
section
variable {P : Program} {w : World} {K : PySem.W.Frag} {mg : Str → Option Value} {base : Heap}
abbrev nNext : List Str := ["coder", "place", "lengths", "longer"]
theorem sc_next : FnScope nNext ["coder"] (defScope s_next_coder) := ⟨rfl, rfl, rfl, by decide +kernel, rfl, by decide +kernel, by decide +kernel⟩
theorem ok_next {f : Addr} {fd : FuncData} (F : Fun K "next_coder" "next_coder" s_next_coder f fd) (cl : C8.Cal P w K mg base 1 "one_longer" spLonger []) (ml : mg "len" = none) : FnOk P w K mg base CX0 2 f fd ["coder"] spNext := by
  refine F.ok sc_next (fun vs H Q E h => ?_) (fun cdv A outer s H vs Q E hr h => ?_)
  · obtain ⟨v, c, rfl, _⟩ := h
    rfl
  · obtain ⟨v, c, rfl, ⟨a, b, rfl, ha, hb⟩, hc, q⟩ := h
    have nd := sc_next.nd
    have hl : c.1 < c.2.length := hc.1
    have hm : c.2.length ≤ 12 := hc.2
    refine ⟨_, (pss_cons (by exact (ps_asg (pv 0) (pg_tup rfl (pgs_cons (pg_name (i := 1) nd rfl (Or.inl rfl)) (pgs_cons (pg_name (i := 2) nd rfl (Or.inl rfl)) pgs_nil)))))
      (pss_cons (by exact (ps_set (i := 3) nd rfl (Or.inl rfl) (C8.pe_c cl hr (by decide) rfl (pa_cons (pv 2) (pa_cons (pv 1) pa_nil)))))
      (pss_one (by exact (ps_ret (pe_tup (pa_cons (pe_op op_mod (pe_op op_add (pv 1) (pe_ix ix_tup (pv 3) (pv 1) (fun _ _ => rfl))) (pe_callB call_len_seq (by rfl) ml PySem.boot_len (pa_cons (pv 2) pa_nil))) (pa_cons (pv 3) pa_nil)))))))), ?_⟩
    refine ⟨_, rfl, a, _, rfl, SqT.of ha, rfl, _, _, rfl, _, _, rfl, rfl, ?_⟩
    refine ⟨_, rfl, _, rfl, b, c.2, c.1, rfl, hb, hl, hm, fun b1 H1 s1 t1 => ?_⟩
    have hl1 : c.1 < (nx c).2.length := by rw [nx_len]; exact hl
    have t1' : H1 b1 = some (.tup ((nx c).2.map vN)) := t1
    have sN : ∀ {p : Addr} {o : HO}, H1 p = none → Same H (upd H1 p o) := fun np => s1.trans (same_new np)
    have e3 : ((c.1 : Int) + (((nx c).2.getD c.1 0 : Nat) : Int)) % (c.2.length : Int) = ((nx c).1 : Int) := by
      rw [show (nx c).2.getD c.1 0 = len c c.1 + 1 from len_nx_same hl]
      show _ = (((c.1 + (len c c.1 + 1)) % c.2.length : Nat) : Int)
      rw [Int.natCast_emod]
      rfl
    refine ⟨_, rfl, _, rfl, _, rfl, b1, _, (c.1 : Int), _, rfl, rfl, SqT.of t1', atI_nat (nat_at hl1), _, _, rfl, rfl, _, rfl, b, _, rfl, .inr (SqT.of (s1 _ _ hb)), _, _, rfl, rfl, (by rw [List.length_map]; omega), _, rfl, (by show 2 ≤ sizeLine; decide), fun p np => ?_⟩
    refine q (.ref p) _ (sN np) ⟨p, b1, rfl, ?_, ?_⟩
    · rw [upd_same]
      show some (HO.tup [V.int (((c.1 : Int) + (((nx c).2.getD c.1 0 : Nat) : Int)) % ((c.2.map vN).length : Int)), V.ref b1]) = _
      rw [List.length_map, e3]
    · rw [upd_ne (ne_of_none t1' np)]
      exact t1'
end
end Lk
end
section
set_option maxRecDepth 100000
set_option maxHeartbeats 2000000
namespace Lk
open PySem PySem.Spec PyProof.Rows L2
section
variable {P : Program} {w : World} {K : PySem.W.Frag} {mg : Str → Option Value} {base : Heap}
abbrev nWT : List Str := ["places"]
theorem sc_till : FnScope nWT ["places"] (defScope s_words_till_round) := ⟨rfl, rfl, rfl, by decide +kernel, rfl, by decide +kernel, by decide +kernel⟩
theorem ok_till {f : Addr} {fd : FuncData} (F : Fun K "words_till_round" "words_till_round" s_words_till_round f fd) : FnOk P w K mg base CX0 1 f fd ["places"] spTill := by
  refine F.ok sc_till (fun vs H Q E h => ?_) (fun cdv A outer s H vs Q E hr h => ?_)
  · obtain ⟨p, rfl, _⟩ := h
    rfl
  · obtain ⟨p, rfl, p1, p12, q⟩ := h
    have nd := sc_till.nd
    refine ⟨_, (pss_one (by exact (ps_ret (pe_op op_add (pe_op op_pow (pe_op op_sub (pv 0) pe_int) pe_int) pe_int)))), ?_⟩
    have e2 : ((p : Int) - 1) ^ ((2 : Int).toNat) + 1 = (((p - 1) * (p - 1) + 1 : Nat) : Int) := by
      rw [show (2 : Int).toNat = 2 from rfl, show (p : Int) - 1 = ((p - 1 : Nat) : Int) by omega, Int.pow_succ, Int.pow_succ, Int.pow_zero, Int.one_mul, ← Int.natCast_mul]
      rfl
    refine ⟨_, rfl, _, _, rfl, rfl, _, _, rfl, rfl, ⟨by decide, by decide, by omega⟩, _, _, rfl, rfl, ?_⟩
    dsimp only
    rw [e2]
    exact q
end
end Lk
end
section
set_option maxRecDepth 100000
set_option maxHeartbeats 2000000
namespace Lk
open PySem PySem.Spec PyProof.Rows L2
section
variable {P : Program} {w : World} {K : PySem.W.Frag} {mg : Str → Option Value} {base : Heap}
abbrev nRL : List Str := ["coder", "rounds", "place", "lengths", "length"]
theorem sc_later : FnScope nRL ["coder", "rounds"] (defScope s_rounds_later) := ⟨rfl, rfl, rfl, by decide +kernel, rfl, by decide +kernel, by decide +kernel⟩
theorem ok_later {f : Addr} {fd : FuncData} (F : Fun K "rounds_later" "rounds_later" s_rounds_later f fd) (ml : mg "len" = none) (mt : mg "tuple" = none) : FnOk P w K mg base CX0 1 f fd ["coder", "rounds"] spLater := by
  refine F.ok sc_later (fun vs H Q E h => ?_) (fun cdv A outer s H vs Q E hr h => ?_)
  · obtain ⟨v, c, m, rfl, _⟩ := h
    rfl
  · obtain ⟨v, c, m, rfl, ⟨a, b, rfl, ha, hb⟩, hc, q⟩ := h
    have nd := sc_later.nd
    have h12 := hc.2
    have hp := hc.pos
    refine ⟨_, (pss_cons (by exact (ps_asg (pv 0) (pg_tup rfl (pgs_cons (pg_name (i := 2) nd rfl (Or.inl rfl)) (pgs_cons (pg_name (i := 3) nd rfl (Or.inr rfl)) pgs_nil)))))
      (pss_one (by exact (ps_ret (pe_tup (pa_cons (pv 2) (pa_cons (pe_callTy call_tuple_of (by rfl) mt (by decide +kernel) (pa_cons (pe_lc (own := [("length", 4)]) (g := (gName 4)) (tt := tYes) rfl nd (pi_tup (pv 3)) (blkOk_by (N := nRL) (sc := defScope s_rounds_later) (by decide +kernel)) (fun _ _ _ _ _ => (pg_name (i := 4) nd rfl (Or.inl rfl))) (fun _ _ _ _ _ => pts_nil) (fun _ _ _ _ _ => (pe_op op_add (pv 4) (pe_op op_mul (pv 1) (pe_callB (call_lenK (K := K) rfl) (by rfl) ml PySem.boot_len (pa_cons (pv 3) pa_nil)))))) pa_nil)) pa_nil))))))), ?_⟩
    refine ⟨_, rfl, a, _, rfl, SqT.of ha, rfl, _, _, rfl, _, _, rfl, rfl, ?_⟩
    refine ⟨_, rfl, _, rfl, b, rfl, ⟨_, SqT.of hb⟩, fun D nD => ?_⟩
    have hl2 : (c.2.map (· + m * c.2.length)).length ≤ 1000000 := by rw [List.length_map]; omega
    refine lc_it walk_tup (fun i H3 => Same H H3 ∧ H3 D = some (.lst (((c.2.map (· + m * c.2.length)).take i).map vN))) ⟨same_new nD, upd_same⟩ (fun i H3 _ p => SqT.of (p.1 _ _ hb)) ?_ ?_
    · rintro i x H3 H4 hi ⟨s3, e3⟩ ⟨rfl, hx⟩
      rw [List.getElem?_map] at hx
      obtain ⟨k, hk2, rfl⟩ : ∃ k, c.2[i]? = some k ∧ x = vN k := by
        cases e : c.2[i]? with
        | none => rw [e] at hx; cases hx
        | some k => rw [e] at hx; exact ⟨k, rfl, (Option.some.inj hx).symm⟩
      have hx2 : (c.2.map (· + m * c.2.length))[i]? = some (k + m * c.2.length) := by
        rw [List.getElem?_map, hk2]
        rfl
      obtain ⟨acc, a1, a2, a3⟩ := snoc_map (f := vN) e3 hx2 hl2
      refine ⟨rfl, _, rfl, _, rfl, _, rfl, b, _, rfl, .inr (SqT.of (s3 _ _ hb)), _, _, rfl, rfl, .inr ⟨by rw [List.length_map]; omega, by rw [List.length_map]; omega⟩, (k : Int), ((m * c.2.length : Nat) : Int), rfl, ?_, acc, a1, a2, same_push s3 nD, ?_⟩
      · rw [List.length_map, Int.natCast_mul]
      · rw [show vN (k + m * c.2.length) = V.int ((k : Int) + ((m * c.2.length : Nat) : Int)) from congrArg V.int (Int.natCast_add _ _)] at a3
        exact a3
    · rintro H3 ⟨s3, e3⟩
      rw [show (c.2.map vN).length = (c.2.map (· + m * c.2.length)).length by rw [List.length_map, List.length_map], List.take_length] at e3
      refine ⟨D, _, rfl, .inl ⟨SqL.of e3, fun l nl => ⟨(by show 2 ≤ sizeLine; decide), fun p np => ?_⟩⟩⟩
      refine q (.ref p) _ ((s3.trans (same_new nl)).trans (same_new np)) ⟨p, l, rfl, upd_same, ?_⟩
      rw [upd_ne (ne_of_none upd_same np), upd_same]
end
end Lk
end
section
set_option maxRecDepth 100000
set_option maxHeartbeats 2000000
namespace Lk
open PySem PySem.Spec PyProof.Rows L2
section
variable {P : Program} {w : World} {K : PySem.W.Frag} {mg : Str → Option Value} {base : Heap}
abbrev nBe : List Str := ["coder", "many", "places", "rounds", "_"]
theorem sc_behind : FnScope nBe ["coder", "many"] (defScope s_behind) := ⟨rfl, rfl, rfl, by decide +kernel, rfl, by decide +kernel, by decide +kernel⟩
theorem ok_behind {f C1 C2 : Addr} {fd : FuncData} (F : Fun K "behind" "behind" s_behind f fd) (cr : CalX P w K mg base 4 "refuse_no_coder" (spRefCoder C1)) (cc : CalX P w K mg base 3 "refuse_no_count" (spCount C2)) (cn : C8.Cal P w K mg base 2 "next_coder" spNext []) (ct : C8.Cal P w K mg base 1 "words_till_round" spTill []) (cl : C8.Cal P w K mg base 1 "rounds_later" spLater [])
    (mr : mg "range" = none) (ml : mg "len" = none) (mx : mg "max" = none) {tp : Tok} (mp : mg "MOST_STEPS" = some (.int 1000000000000000000 tp)) : FnOk P w K mg base (L2.CX P w) 5 f fd ["coder", "many"] (spOf C1 C2 1000000000000000000 toldCoder) := by
  refine F.okX sc_behind (fun vs H Q E h => ?_) (fun cdv A outer s H vs Q E hr h => ?_)
  · obtain ⟨v, u, d, e, rfl, _⟩ := h
    rfl
  · obtain ⟨v, u, d, e, rfl, hv, hu, q1, q2, q⟩ := h
    have nd := sc_behind.nd
    refine ⟨_, (pss_cons (by exact (ps_expr (pe_cX cr (takes_of rfl rfl rfl rfl) hr (by decide) rfl (pa_cons (pv 0) pa_nil))))
      (pss_cons (by exact (ps_expr (pe_cX cc (takes_of rfl rfl rfl rfl) hr (by decide) rfl (pa_cons (pv 1) (pa_cons pe_int (pa_cons (pe_glob (v := .int 1000000000000000000) rfl mp ⟨_, rfl⟩) pa_nil))))))
      (pss_cons (by exact (ps_set (i := 2) nd rfl (Or.inl rfl) (pe_callB call_len_seq (by rfl) ml PySem.boot_len (pa_cons (pe_ix ix_tup (pv 0) pe_int (fun _ _ => rfl)) pa_nil))))
      (pss_cons (by exact (ps_set (i := 3) nd rfl (Or.inl rfl) (pe_op op_fdivN (pe_callB (call_max2 rfl) (by rfl) mx (by decide +kernel) (pa_cons pe_int (pa_cons (pe_op op_sub (pv 1) (C8.pe_c ct hr (by decide) rfl (pa_cons (pv 2) pa_nil))) pa_nil))) (pe_op op_mul (pv 2) (pv 2)))))
      (pss_cons (by exact (ps_for (passes_of rfl) rfl (pi_range1 (by rfl) mr (pa_cons (pe_op op_sub (pv 1) (pe_op op_mul (pe_op op_mul (pv 3) (pv 2)) (pv 2))) pa_nil)) (pg_name (i := 4) nd rfl (Or.inl rfl)) (pss_one (by exact (ps_set (i := 0) nd rfl (Or.inl rfl) (C8.pe_c cn hr (by decide) rfl (pa_cons (pv 0) pa_nil)))))))
      (pss_one (by exact (ps_ret (C8.pe_c cl hr (by decide) rfl (pa_cons (pv 0) (pa_cons (pv 3) pa_nil))))))))))), ?_⟩
    refine ⟨_, rfl, v, d, rfl, hv, fun hd H1 s1 => ?_, fun hd H1 s1 => q1 hd H1 s1⟩
    refine ⟨_, rfl, u, e, 0, 1000000000000000000, rfl, .inr (.inl ⟨rfl, by decide⟩), Th.same s1 e hu, fun he => ?_, fun he => q2 hd he H1 s1⟩
    obtain ⟨c, rfl, hc⟩ := isCd_of hd
    obtain ⟨n, rfl, hn⟩ := count_of (m := 1000000000000000000) he
    have qq := q c n rfl hc rfl hn
    clear q q1 q2
    have c1 : Cat H1 v c := (Th.same s1 _ hv).cat
    have eu : u = .int (n : Int) := by cases hu; rfl
    subst eu
    obtain ⟨a, b, rfl, ha, hb⟩ := id c1
    have hp := hc.pos
    have h12 := hc.2
    refine ⟨_, rfl, a, _, 1, _, rfl, rfl, SqT.of ha, rfl, b, _, rfl, .inr (SqT.of hb), ?_⟩
    rw [List.length_map]
    have hpp : (c.2.length - 1) * (c.2.length - 1) ≤ 11 * 11 := Nat.mul_le_mul (by omega) (by omega)
    have hqq : c.2.length * c.2.length ≤ 12 * 12 := Nat.mul_le_mul h12 h12
    have hqp : 0 < c.2.length * c.2.length := Nat.mul_pos hp hp
    have eN : (if (n : Int) - (((c.2.length - 1) * (c.2.length - 1) + 1 : Nat) : Int) > 0 then (n : Int) - (((c.2.length - 1) * (c.2.length - 1) + 1 : Nat) : Int) else 0) = ((n - ((c.2.length - 1) * (c.2.length - 1) + 1) : Nat) : Int) := by
      split <;> omega
    have eR : Int.fdiv ((n - ((c.2.length - 1) * (c.2.length - 1) + 1) : Nat) : Int) ((c.2.length * c.2.length : Nat) : Int) = (rnds c.2.length n : Int) := by
      rw [Int.fdiv_eq_ediv_of_nonneg _ (by omega), ← Int.natCast_ediv]
      rfl
    refine ⟨_, rfl, _, rfl, c.2.length, rfl, by omega, h12, _, _, rfl, rfl, _, _, rfl, _, rfl, _, rfl, _, _, rfl, rfl, .inl ⟨by omega, by omega⟩,
      ((n - ((c.2.length - 1) * (c.2.length - 1) + 1) : Nat) : Int), ((c.2.length * c.2.length : Nat) : Int), congrArg V.int eN, congrArg V.int (Int.natCast_mul _ _).symm, ⟨by omega, by omega⟩, ?_⟩
    have hle := rnds_le c.2.length n
    have hleft := rnds_left c.2.length n hp
    have h1p : rnds c.2.length n * c.2.length ≤ rnds c.2.length n * (c.2.length * c.2.length) := Nat.mul_le_mul (Nat.le_refl _) (Nat.le_mul_of_pos_left _ hp)
    have h0p : rnds c.2.length n ≤ rnds c.2.length n * c.2.length := Nat.le_mul_of_pos_right _ hp
    have eM : (rnds c.2.length n : Int) * (c.2.length : Int) = ((rnds c.2.length n * c.2.length : Nat) : Int) := (Int.natCast_mul _ _).symm
    have eL : (n : Int) - ((rnds c.2.length n * c.2.length : Nat) : Int) * (c.2.length : Int) = ((n - rnds c.2.length n * (c.2.length * c.2.length) : Nat) : Int) := by
      rw [← Int.natCast_mul, Nat.mul_assoc]
      omega
    refine ⟨_, rfl, _, rfl, _, rfl, (rnds c.2.length n : Int), _, congrArg V.int eR, rfl, .inr ⟨by omega, by omega⟩, _, rfl, ((rnds c.2.length n * c.2.length : Nat) : Int), _, congrArg V.int eM, rfl, .inr ⟨by omega, by omega⟩, _, _, rfl, rfl,
      ((n - rnds c.2.length n * (c.2.length * c.2.length) : Nat) : Int), congrArg (fun z => [V.int z]) eL, by omega, by omega, ?_⟩
    rw [Int.toNat_natCast]
    refine for_range (lo := 0) (n := n - rnds c.2.length n * (c.2.length * c.2.length)) (fun i σ H2 => ∃ v' r3 y4, σ = [some v', some (.int (n : Int)), some (.int (c.2.length : Int)), some r3, y4] ∧ r3 = .int (rnds c.2.length n : Int) ∧ Same H1 H2 ∧ Cat H2 v' (it i c))
      ⟨.ref a, _, none, rfl, congrArg V.int eR, Same.refl _, c1⟩ ?_ ?_
    · rintro i σ H2 hi ⟨v', r3, y4, rfl, h3, s2, cat⟩
      refine ⟨_, rfl, v', it i c, rfl, cat, it_cdOk i hc, fun v2 H3 s3 cat3 => ?_⟩
      rw [← it_succ] at cat3
      exact ⟨v2, r3, _, rfl, h3, s2.trans s3, cat3⟩
    · rintro σ H2 ⟨v', r3, y4, rfl, rfl, s2, cat2⟩
      have far1 := far hc.1 n
      generalize hk : n - rnds c.2.length n * (c.2.length * c.2.length) = r at *
      have hlen : (it r c).2.length = c.2.length := it_len r
      refine ⟨_, rfl, _, rfl, v', it r c, rnds c.2.length n, rfl, cat2, it_cdOk r hc, fun v3 H3 s3 cat3 => ?_⟩
      refine qq v3 _ ((s1.trans s2).trans s3) ?_
      rw [far1]
      rw [hlen] at cat3
      exact cat3
end
end Lk
end
section
set_option maxRecDepth 100000
set_option maxHeartbeats 2000000
/-! A lambda with one parameter, handed to a def, and by that to a second one. -/
namespace Lk
open PySem PySem.Spec PyProof.Rows L2 LamX NdefX
section
variable {X : Cx} {pins : List (Addr × Obj)} {σ : L2.St} {H : Hp} {s : Shared}
/-- from the running frame's state on is from its entry on -/
theorem un_push (I : Inv X pins σ H s) (hex : X.ex = []) {H2 : Hp} {s2 : Shared} (u : Un (frs X.stack) [] H H2 s.heap s2.heap) : Un X.fs [] X.H_0 H2 X.s_0.heap s2.heap := by
  have base := I.base
  rw [hex] at base
  have sub : ∀ b ∈ X.fs, b ∈ frs X.stack := fun b hb => by
    rcases I.ok.stk with e | ⟨e, f⟩
    · rw [e]; exact hb
    · rw [e]
      show b ∈ List.filterMap _ (_ :: _)
      rw [List.filterMap_cons, f]
      exact List.mem_cons_of_mem _ hb
  have nin : ∀ b o, X.s_0.heap.get? b = some o → b ∉ X.fs → b ∉ frs X.stack := fun b o e hb z => by
    rcases I.ok.stk with e2 | ⟨e2, f⟩
    · rw [e2] at z; exact hb z
    · rw [e2] at z
      have z2 : b ∈ List.filterMap (·.frame) (X.env :: X.outer) := z
      rw [List.filterMap_cons, f] at z2
      rcases List.mem_cons.mp z2 with z3 | z3
      · have a := I.ok.above
        have l := Heap.lt_size e
        rw [z3] at l
        exact Nat.lt_irrefl _ (Nat.lt_of_lt_of_le l a)
      · exact hb z3
  refine ⟨fun b o e n hf hx => ?_, fun b o e n hf hx => ?_, fun b o e n hx => ?_, fun b o e hx => ?_, fun b xs e => u.tups b xs (base.tups b xs e), fun b o v e => u.frzs b o v (base.frzs b o v e), fun b ps e => ?_⟩
  · exact u.keep b o (base.keep b o e n hf hx) (base.free b o e n hx) (nin b o e hf) hx
  · obtain ⟨sl, e1⟩ := base.slot b o e n hf hx
    obtain ⟨sl2, e2⟩ := u.slot b _ e1 (base.free b o e n hx) (sub b hf) hx
    exact ⟨sl2, e2⟩
  · obtain ⟨o2, e1⟩ := base.there b o e hx
    exact u.free b o2 e1 (base.free b o e n hx) hx
  · obtain ⟨o2, e1⟩ := base.there b o e hx
    exact u.there b o2 e1 hx
  · obtain ⟨m1, e1⟩ := base.tbls b ps e
    obtain ⟨m2, e2⟩ := u.tbls b _ e1
    exact ⟨m1 ++ m2, by rw [← Array.append_assoc]; exact e2⟩
end
theorem vals_snoc {v : V} : ∀ {vs : List V} {us : List Value}, Vals (vs ++ [v]) us → ∃ us' u, us = us' ++ [u] ∧ Vals vs us' ∧ L2.RelV v u
  | [], _, .cons r .nil => ⟨[], _, rfl, .nil, r⟩
  | _ :: _, _, .cons r m => by
    obtain ⟨us', u, e, a, b⟩ := vals_snoc m
    exact ⟨_ :: us', u, by rw [e]; rfl, .cons r a, b⟩
abbrev TL := V → Hp → VK → Prop
/-- f, called with one thing from s0 on, does as tl tells -/
structure Acts (P : Program) (w : World) (K : PySem.W.Frag) (mg : Str → Option Value) (base : Heap) (fs : List Addr) (k : Nat) (f : Addr) (tl : TL) (s0 : Shared) (H0 : Hp) : Prop where
  fn : ∀ (s : Shared) (H : Hp), Un fs [] H0 H s0.heap s.heap → PySem.W.FnAt f s.heap
  run : ∀ (A : Around) (outer : List Env) (s : Shared) (H : Hp) (u : Value) (v : V) (Q : VK), Room k A → Env0 P w K mg base A outer s H → Un fs [] H0 H s0.heap s.heap → RelV v u → tl v H Q → codeAny (model P w) A (.call (.ref f) ⟨[u], []⟩) (CR C8.CX0 outer P w H s Q C8.E0) s
theorem Acts.later {X : Cx} {pins : List (Addr × Obj)} {σ : L2.St} {H : Hp} {s : Shared} {k : Nat} {f : Addr} {tl : TL} (a : Acts X.prog X.w X.K X.mg X.base X.fs k f tl X.s_0 X.H_0) (I : Inv X pins σ H s) (hex : X.ex = []) : Acts X.prog X.w X.K X.mg X.base (frs X.stack) k f tl s H :=
  ⟨fun s2 H2 u => a.fn s2 H2 (un_push I hex u), fun A outer s2 H2 u v Q hr e0 un r q => a.run A outer s2 H2 u v Q hr e0 (un_push I hex un) r q⟩
theorem Acts.imp {P : Program} {w : World} {K : PySem.W.Frag} {mg : Str → Option Value} {base : Heap} {fs : List Addr} {k : Nat} {f : Addr} {tl tl' : TL} {s0 : Shared} {H0 : Hp} (a : Acts P w K mg base fs k f tl s0 H0) (h : ∀ v H Q, tl' v H Q → tl v H Q) : Acts P w K mg base fs k f tl' s0 H0 :=
  ⟨a.fn, fun A outer s H u v Q hr e0 un r q => a.run A outer s H u v Q hr e0 un r (h _ _ _ q)⟩
theorem Acts.mono {P : Program} {w : World} {K : PySem.W.Frag} {mg : Str → Option Value} {base : Heap} {fs : List Addr} {j k : Nat} {f : Addr} {tl : TL} {s0 : Shared} {H0 : Hp} (a : Acts P w K mg base fs j f tl s0 H0) (h : j ≤ k) : Acts P w K mg base fs k f tl s0 H0 :=
  ⟨a.fn, fun A outer s H u v Q hr => a.run A outer s H u v Q (hr.mono h)⟩
section
variable {X : Cx} {j k i : Nat} {f : Addr} {tl : TL} {a x : Str} {e : Expr} {t : TA} {p p2 pos : Pos}
/-- a(e), in the def that got it -/
theorem pe_actA (act : Acts X.prog X.w X.K X.mg X.base X.fs k f tl X.s_0 X.H_0) (hex : X.ex = []) (hr : Room j X.A) (hk : k ≤ j) (hN : X.N[i]? = some a) (hv : Vis X.env.scope a) (ha : PA X [e] t)
    (hd : (a == ("__debug__" : Str)) = false := by decide) (hcd : (a == ("__classdict__" : Str)) = false := by decide)
    (he : starEach [e] X.env = (false, eval e X.env) :: starEach [] X.env := by rfl) (hpl : (backTo pos (starEach [] X.env)).any (·.1) = false := by rfl) :
    PE X (.Call (.Name a p) [e] [] pos) (fun σ H Q => σ[i]? = some (some (.ref f)) ∧ t σ H fun vs H1 => ∃ v, vs = [v] ∧ tl v H1 Q) := by
  refine ⟨fun pins s σ H Q I h => ?_⟩
  obtain ⟨hs, ht⟩ := h
  refine wpAny_Call_Name_kw (thn ((pe_var (pos := p) hN hv hd hcd).run pins s σ H (fun v H1 => v = .ref f ∧ H1 = H) I ⟨.ref f, hs, rfl, rfl⟩) fun u s1 ⟨v, H1, I1, r1, q1⟩ => ?_)
  obtain ⟨ev, eH⟩ := q1
  subst ev
  rw [eH] at I1
  obtain rfl : u = Value.ref f := r1
  refine PySem.W.callWith_F (first := []) ((act.later I1 hex).fn _ _ Un.refl) (thn (ha.run pos pins s1 σ H _ I1 ht) fun us s2 ⟨vs, H2, I2, r, v, ev, q⟩ => ⟨(act.later I2 hex).fn _ _ Un.refl, ?_⟩) he hpl
  subst ev
  cases r with
  | cons r1 r2 =>
    cases r2
    show wpAny _ _ (call (.ref f) [_]) _ _ _
    refine wpAny_call (codeAny_mono ((act.later I2 hex).run X.A X.stack s2 H2 _ v Q (hr.mono hk) I2.env0 Un.refl r1 q) fun r s' hq => ?_)
    cases r with
    | error e => exact (show False from hq).elim
    | ok fl =>
      cases fl with
      | ret u => exact I2.after hq
      | next => exact False.elim hq
      | brk => exact False.elim hq
      | cont => exact False.elim hq
end
/-- a def whose last argument is such a function -/
structure CalA (P : Program) (w : World) (K : PySem.W.Frag) (mg : Str → Option Value) (base : Heap) (ka k : Nat) (x : Str) (sp : TL → List V → Hp → VK → Prop) : Prop where
  ex : ∃ g, mg x = some (.ref g) ∧ PySem.W.keepIn K (.ref g) = true ∧ ∀ (A : Around) (outer : List Env) (s : Shared) (H : Hp) (us : List Value) (vs : List V) (f : Addr) (tl : TL) (Q : VK), Room k A → Env0 P w K mg base A outer s H → Acts P w K mg base (frs outer) ka f tl s H →
    Vals vs us → sp tl vs H Q → codeAny (model P w) A (.call (.ref g) ⟨us ++ [.ref f], []⟩) (CR C8.CX0 outer P w H s Q C8.E0) s
theorem calA_of {P : Program} {w : World} {K : PySem.W.Frag} {mg : Str → Option Value} {base : Heap} {ka k : Nat} {x qual : Str} {st : Stmt} {g : Addr} {fd : FuncData} {N ps : List Str} {sp : TL → List V → Hp → VK → Prop} (KX : K.In base) (F : Fun K x qual st g fd) (S : FnScope N ps (defScope st)) (gx : mg x = some (.ref g)) (bd : Binds K fd ps [])
    (len : ∀ tl vs H Q, sp tl vs H Q → vs.length + 1 = ps.length)
    (hbody : ∀ (cdv : Value) (A : Around) (outer : List Env) (s : Shared) (H : Hp) (vs : List V) (f : Addr) (tl : TL) (Q : VK), Acts P w K mg base (frs outer) ka f tl s H → Room k (A.deeper (envOfC qual (defScope st) s.heap.objs.size g cdv)) → sp tl vs H Q →
      ∃ t, PSs (cxOf C8.CX0 P w K mg base N qual (defScope st) g cdv A outer s H C8.E0).nox (defBody st) t ∧ t { nx := fun _ H' => Q .non H', rt := Q } (L2.start N (vs ++ [.ref f])) H) : CalA P w K mg base ka (k + 1) x sp := by
  obtain ⟨oc, od, kV, doc, pm, an, cdv, ct, osl, rfl, lk, hcd⟩ := F.ex
  refine ⟨g, gx, F.kp, fun A outer s H us vs f tl Q hr e0 act r hsp => ?_⟩
  have hl := len _ _ _ _ hsp
  have hul : us.length = vs.length := r.length.symm
  have hus : (us ++ [Value.ref f] ++ []).length = ps.length := by
    rw [List.append_nil, List.length_append, hul]
    exact hl
  have bt := bd s (us ++ [.ref f]) (e0.mod.kin.keeps fun b o e => (e0.bs b o e).1) hus
  rw [List.append_nil] at bt
  refine run_ofS (N := N) (ps := ps) (us := us ++ [.ref f]) (vs := vs ++ [.ref f]) lk hcd S hr e0 bt (Vals.append r (.cons (show L2.RelV (V.ref f) (Value.ref f) from rfl) .nil)) (by rw [List.length_append]; exact hl) fun hr' => ?_
  obtain ⟨t, h, q⟩ := hbody cdv A outer s H vs f tl Q act hr' hsp
  exact ⟨t, h.nox, q⟩
section
variable {X : Cx} {j k ka : Nat} {f : Addr} {tl : TL} {x : Str} {e : Expr} {es : List Expr} {t : TA} {p pos : Pos} {sp : TL → List V → Hp → VK → Prop}
theorem call_end {pins : List (Addr × Obj)} {σ : L2.St} {H : Hp} {s : Shared} {Q : VK} {c : Code} (I : Inv X pins σ H s) (h : codeAny (model X.prog X.w) X.A c (CR C8.CX0 X.stack X.prog X.w H s Q C8.E0) s) :
    codeAny (model X.prog X.w) X.A c (fun r s' => match r with | .ok (.ret u) => EP X pins σ Q u s' | .ok _ => False | .error e => X.xe e s') s := codeAny_mono h fun r s' hq => by
  cases r with
  | error e => exact (show False from hq).elim
  | ok fl =>
    cases fl with
    | ret u => exact I.after hq
    | next => exact False.elim hq
    | brk => exact False.elim hq
    | cont => exact False.elim hq
/-- x(e, a), a the function got -/
theorem pe_passA (c : CalA X.prog X.w X.K X.mg X.base ka k x sp) (act : Acts X.prog X.w X.K X.mg X.base X.fs ka f tl X.s_0 X.H_0) (hex : X.ex = []) (hr : Room j X.A) (hk : k ≤ j) (hg : Gl X x) (ha : PA X (e :: es) t)
    (hdb : (x == ("__debug__" : Str)) = false := by decide) (he : starEach (e :: es) X.env = (false, eval e X.env) :: starEach es X.env := by rfl) (hpl : (backTo pos (starEach es X.env)).any (·.1) = false := by rfl) :
    PE X (.Call (.Name x p) (e :: es) [] pos) (fun σ H Q => t σ H fun vs H1 => ∃ vs', vs = vs' ++ [.ref f] ∧ sp tl vs' H1 Q) := by
  obtain ⟨g, hm, kp, F⟩ := c.ex
  refine ⟨fun pins s σ H Q I ht => ?_⟩
  refine wpAny_Call_Name_kw (ld_glob I hg hm ?_ hdb)
  refine PySem.W.callWith_K (h₀ := X.base) I.ok.mod.kin kp (thn (ha.run pos pins s σ H _ I ht) fun us s1 ⟨vs, H1, I1, r, vs', ev, q⟩ => ⟨I1.kIn, ?_⟩) he hpl
  subst ev
  obtain ⟨us', u2, rfl, r1, r2⟩ := vals_snoc r
  obtain rfl := (show _ = Value.ref f from r2)
  exact wpAny_call (call_end I1 (F X.A X.stack s1 H1 us' vs' f tl Q (hr.mono hk) I1.env0 (act.later I1 hex) r1 q))
end
/-! ### the lambda -/
section
variable {X : Cx} {pins : List (Addr × Obj)} {σ : L2.St} {H : Hp} {s : Shared} {N fr : List Str} {x : Str} {scope : Scope} {body : Expr} {params : Arguments} {cl : List (Str × Addr)} {ws : List (Option V)} {k : Nat} {q : Str}
theorem CellsAt.un {fs : List Addr} {H2 : Hp} {s2 : Shared} (C : CellsAt cl fr ws s.heap H) (u : Un fs [] H H2 s.heap s2.heap) : CellsAt cl fr ws s2.heap H2 := by
  have kp : ∀ y c, cl.lookup y = some c → ∀ v, s.heap.IsCell c v → s2.heap.IsCell c v := fun y c e v ⟨o, ho, hd⟩ => by
    obtain ⟨sl, e2⟩ := u.any ho (C.all y c e).1 (by simp)
    exact ⟨_, e2, hd⟩
  refine ⟨C.len, fun y c e => ?_, C.inj, fun i y e => ?_⟩
  · obtain ⟨n, v, z⟩ := C.all y c e
    refine ⟨?_, v, kp y c e v z⟩
    obtain ⟨o, ho, _⟩ := z
    exact u.free c o ho n (by simp)
  · obtain ⟨c, hc, hv⟩ := C.has i y e
    refine ⟨c, hc, fun v ev => ?_⟩
    obtain ⟨u2, r, z⟩ := hv v ev
    exact ⟨u2, r, kp y c hc _ z⟩
abbrev lamNF (q : Str) (params : Arguments) (scope : Scope) (cl : List (Str × Addr)) (c' : Addr) : NF := ⟨"<lambda>", q, params, [], scope, cl, c'⟩
/-- what the lambda does -/
def tlOf (c' : Addr) (q : Str) (tl : TL) : TL := fun v H Q => H c' = some (CodeO c' q) ∧ tl v H Q
theorem acts_made {P : Program} {w : World} {K : PySem.W.Frag} {mg : Str → Option Value} {base : Heap} {fs : List Addr} {f c' : Addr} {pm ctv : Value} {tl : TL} (hf : s.heap.get? f = some (PySem.W.kla_obj "<lambda>" q params body scope cl pm c' ctv)) (hfn : H f = none) (hfr : f ∉ fs) (C : CellsAt cl fr ws s.heap H) (S : NScope N [x] fr scope)
    (hbind : ∀ (cv : Value) (u : Value), bindArgs (PySem.W.kla_fn "<lambda>" q params body scope cl pm cv ctv) ⟨[u], []⟩ = pure [(x, u)])
    (hbody : ∀ (A : Around) (outer : List Env) (s : Shared) (H : Hp) (v : V) (Q : VK), Room k (A.deeper (envF (lamNF q params scope cl c') f s.heap.objs.size)) → tl v H Q → ∃ te, PE (ncx C8.CX0 P w K mg base N (lamNF q params scope cl c') f A outer s H C8.E0) body te ∧ te (startF N [v] ws) H Q) :
    Acts P w K mg base fs (k + 1) f (tlOf c' q tl) s H := by
  refine ⟨fun s2 H2 u => ⟨_, _, _, _, u.keep f _ hf hfn hfr (by simp)⟩, fun A outer s2 H2 u v Q hr e0 un r ⟨hc, ht⟩ => ?_⟩
  have of1 := un.keep f _ hf hfn hfr (by simp)
  obtain ⟨⟨oc, vs, t, hoc, hdc, hvc⟩, _, _⟩ := e0.hok c' _ hc
  have lim : s2.heap.NoLimit := e0.mod.nolimit.keeps fun b o e => (e0.bs b o e).1
  refine PySem.W.kla_callFunE hr.depth of1 rfl S.co S.gen rfl ⟨c', oc, vs, t, rfl, hoc, hdc, hvc⟩ ?_
  rw [hbind]
  refine wpAny_pure (wpAny_newFunctionEnv S.nocell (fun y hy => ?_) (fun h₁ hns hsb => ⟨lim.fresh _ hsb, ?_⟩) S.kind)
  · have e : y = (x, u) := List.mem_singleton.mp hy
    rw [e]
    exact S.par x (List.mem_singleton.mpr rfl)
  show codeAny _ _ (.expr body (envF (lamNF q params scope cl c') f s2.heap.objs.size)) _ _
  have kp : ∀ b o, s2.heap.get? b = some o → h₁.get? b = some o := fun b o e => hsb.extBut b o (Nat.ne_of_lt (Heap.lt_size e)) (Heap.get?_push_of_some _ e)
  obtain ⟨te, hp, hq⟩ := hbody A outer s2 H2 v Q (hr.deeper _) ht
  have J : Inv (ncx C8.CX0 P w K mg base N (lamNF q params scope cl c') f A outer s2 H2 C8.E0) [] (startF N [v] ws) H2 { s2 with heap := h₁, toks := s2.toks + ([(x, u)] : List (Str × Value)).length } :=
    inv_startN (ps := [x]) (us := [u]) S hr.hd e0 rfl (.cons r .nil) (CellsAt.un C un) hns kp
  refine PySem.W.kla_codeExpr (wpAny_mono (hp.run [] _ _ H2 Q J hq) (fun v s' hq => ?_) fun e s' hq => hq)
  obtain ⟨w', H', J', rv, q'⟩ := hq
  exact ⟨w', H', J'.os, J'.bare, J'.base, J'.hok, rv, q'⟩
end
section
variable {X : Cx} {j k ka kb : Nat} {x y : Str} {e : Expr} {te : TE} {p lpos pos : Pos} {sp : TL → List V → Hp → VK → Prop} {T : List (Addr × Str)} {c P : Addr} {params : Arguments} {body : Expr} {scope : Scope} {N fr : List Str} {js : List Nat} {tl : List (Option V) → TL}
/-- x(e, lambda y: body) -/
theorem pe_lamA (cx : CalA X.prog X.w X.K X.mg X.base ka k x sp) (hr : Room j X.A) (hk : k ≤ j) (hka : kb + 1 ≤ ka) (hg : Gl X x) (he1 : PE X e te)
    (TB : TabB X.base X.mg c P) (hcode : X.env.code = .ref c) (hmT : (P, X.env.qual ++ "<lambda>") ∈ T) (hu : ∀ p ∈ T, p.1 = P → p.2 = X.env.qual ++ "<lambda>") (hdef : defaultsOf params X.env = ([], []))
    (hnd : ndefB X.env.scope scope fr = true) (hjs : js.map (fun j => X.N[j]?) = fr.map some) (S : NScope N [y] fr scope)
    (hbind : ∀ (q : Str) (cl : List (Str × Addr)) (pm cv ctv u : Value), bindArgs (PySem.W.kla_fn "<lambda>" q params body scope cl pm cv ctv) ⟨[u], []⟩ = pure [(y, u)])
    (hbody : ∀ (ws : List (Option V)) (f c' : Addr) (cl : List (Str × Addr)) (A : Around) (outer : List Env) (s : Shared) (H : Hp) (v : V) (Q : VK), Room kb (A.deeper (envF (lamNF (X.env.qual ++ "<lambda>") params scope cl c') f s.heap.objs.size)) → tl ws v H Q →
      ∃ te, PE (ncx C8.CX0 X.prog X.w X.K X.mg X.base N (lamNF (X.env.qual ++ "<lambda>") params scope cl c') f A outer s H C8.E0) body te ∧ te (startF N [v] ws) H Q)
    (hdb : (x == ("__debug__" : Str)) = false := by decide) (he : starEach [e, .Lambda params body scope lpos] X.env = (false, eval e X.env) :: starEach [.Lambda params body scope lpos] X.env := by rfl) (hpl : (backTo pos (starEach [.Lambda params body scope lpos] X.env)).any (·.1) = false := by rfl) :
    PE X (.Call (.Name x p) [e, .Lambda params body scope lpos] [] pos) (fun σ H Q => te σ H fun v H1 => Tabs T H1 ∧ ∀ (c' : Addr) (H2 : Hp), ExtN H1 H2 → Tabs T H2 → H2 c' = some (CodeO c' (X.env.qual ++ "<lambda>")) → sp (tlOf c' (X.env.qual ++ "<lambda>") (tl (js.map (slotAt σ)))) [v] H2 Q) := by
  obtain ⟨g, hm, kp, F⟩ := cx.ex
  refine ⟨fun pins s σ H Q I ht => ?_⟩
  refine wpAny_Call_Name_kw (ld_glob I hg hm ?_ hdb)
  have hfree := ndef_free hnd
  have hfc : ∀ y ∈ scope.names, y.2 = .free → ∃ c, X.env.cells.lookup y.1 = some c := fun y hy e => (hfree y hy e).elim (fun z => I.ok.has _ (.inl z)) fun z => I.ok.has _ (.inr z)
  refine PySem.W.callWith_K (h₀ := X.base) I.ok.mod.kin kp ?_ he hpl
  rw [he, show starEach [.Lambda params body scope lpos] X.env = (false, eval (.Lambda params body scope lpos) X.env) :: starEach [] X.env from rfl]
  show wpAny _ _ (spliced ((false, eval e X.env) :: (false, eval (.Lambda params body scope lpos) X.env) :: backTo pos (starEach [] X.env))) _ _ s
  refine Calls.spliced_cons (thn (he1.run pins s σ H _ I ht) fun u1 s1 ⟨v, H1, I1, r1, hT, q⟩ => ?_)
  refine Calls.spliced_cons (lam_make2 I1 TB hcode hmT hu hT hdef hfc fun f c' pm' ctv H2 s2 I2 eN T2 hf hfn hfr hco => ?_)
  refine Calls.spliced_nil ⟨I2.kIn, ?_⟩
  have C : CellsAt (cloFrom X.env.cells scope.names []) fr (js.map (slotAt σ)) s2.heap H2 := cells_of I2 (Caps.made I2.ok hfree (ndef_fr hnd) hjs)
  have act := acts_made (P := X.prog) (w := X.w) (K := X.K) (mg := X.mg) (base := X.base) (fs := frs X.stack) (tl := tl (js.map (slotAt σ))) hf hfn hfr C S (fun cv u => hbind _ _ _ _ _ _) (hbody _ _ _ _)
  exact wpAny_call (call_end I2 (F X.A X.stack s2 H2 [u1] [v] f _ Q (hr.mono hk) I2.env0 (act.mono hka) (.cons r1 .nil) (q c' H2 eN T2 hco)))
end
end Lk
end
section
set_option maxRecDepth 100000
set_option maxHeartbeats 2000000
/-! How long the text of data is. -/
namespace Lk
open PySem PySem.Spec PyProof.Rows L2
theorem textFrom_le : ∀ (ts : List Str) (k : Nat) (acc : Str), (textFrom k acc ts).length ≤ acc.length + piled ts
  | [], _, acc => Nat.le_add_right _ _
  | t :: r, k, acc => by
    have ih := textFrom_le r (k + 1) (acc ++ (if k > 0 then ", " else "" : String) ++ t)
    have e : (acc ++ (if k > 0 then ", " else "" : String) ++ t).length ≤ acc.length + 2 + t.length := by
      rw [strLen_append, strLen_append]
      split
      · exact Nat.le_refl _
      · show acc.length + 0 + t.length ≤ _
        omega
    rw [piled_cons]
    show (textFrom (k + 1) _ r).length ≤ _
    omega
theorem listText_le (ts : List Str) : (listText ts).length ≤ 2 + piled ts := by
  unfold listText
  rw [strLen_append]
  have h := textFrom_le ts 0 "["
  have e1 : (("[" : String) : Str).length = 1 := rfl
  have e2 : (("]" : String) : Str).length = 1 := rfl
  omega
theorem tupleText_le (ts : List Str) : (tupleText ts).length ≤ 3 + piled ts := by
  unfold tupleText
  rw [strLen_append, strLen_append]
  have e1 : ((("(" : String) : Str)).length = 1 := rfl
  have e3 : (((if ts.length == 1 then ",)" else ")" : String) : Str)).length ≤ 2 := by split <;> decide
  by_cases h : ts = []
  · subst h
    have e4 : (Str.join ", " []).length = 0 := rfl
    omega
  · have j := join_length_add ts h
    omega
mutual
/-- a bound of the length of the text -/
def wt : PyData → Nat
  | .none => 4
  | .bool _ => 5
  | .int i => (toString i).length
  | .str x => (reprText x).length
  | .list ds => 2 + wts ds
  | .tuple ds => 3 + wts ds
  | .dict kvs => (dictText (PyData.shownKv kvs)).length
def wts : List PyData → Nat
  | [] => 0
  | d :: ds => wt d + 2 + wts ds
end
mutual
theorem shown_wt : ∀ d : PyData, d.shown.length ≤ wt d
  | .none => by simp only [PyData.shown, wt]; decide
  | .bool b => by cases b <;> (simp only [PyData.shown, wt]; decide)
  | .int i => by simp only [PyData.shown, wt]; rw [PySem.ofString_length]; exact Nat.le_refl _
  | .str x => by simp only [PyData.shown, wt]; exact Nat.le_refl _
  | .list ds => by
    simp only [PyData.shown, wt]
    have h := listText_le (PyData.shownAll ds)
    have g := piled_wts ds
    omega
  | .tuple ds => by
    simp only [PyData.shown, wt]
    have h := tupleText_le (PyData.shownAll ds)
    have g := piled_wts ds
    omega
  | .dict kvs => by simp only [PyData.shown, wt]; exact Nat.le_refl _
theorem piled_wts : ∀ ds : List PyData, piled (PyData.shownAll ds) ≤ wts ds
  | [] => by simp [PyData.shownAll, wts, piled]
  | d :: ds => by
    have h := shown_wt d
    have g := piled_wts ds
    simp only [PyData.shownAll, wts, piled_cons]
    omega
end
theorem wts_append : ∀ ds es : List PyData, wts (ds ++ es) = wts ds + wts es
  | [], es => by simp [wts]
  | d :: ds, es => by
    show wt d + 2 + wts (ds ++ es) = wt d + 2 + wts ds + wts es
    rw [wts_append ds es]
    omega
theorem wts_le {B : Nat} : ∀ {ds : List PyData}, (∀ d ∈ ds, wt d ≤ B) → wts ds ≤ ds.length * (B + 2)
  | [], _ => Nat.zero_le _
  | d :: ds, h => by
    have ih := wts_le (ds := ds) fun x hx => h x (List.mem_cons_of_mem _ hx)
    have h1 := h d List.mem_cons_self
    show wt d + 2 + wts ds ≤ (ds.length + 1) * (B + 2)
    rw [Nat.add_mul, Nat.one_mul]
    omega
theorem wt_int {i : Int} (h : i.natAbs < 10 ^ 45) : wt (.int i) ≤ 46 := int_text_length_le10 (by decide) h
theorem wt_nat {n : Nat} (h : n < 10 ^ 45) : wt (dN n) ≤ 46 := wt_int (by omega)
theorem wts_nats {ls : List Nat} (h : ∀ n ∈ ls, n < 10 ^ 45) : wts (ls.map dN) ≤ ls.length * 48 := by
  have z := wts_le (B := 46) (ds := ls.map dN) fun d hd => by
    obtain ⟨n, hn, rfl⟩ := List.mem_map.mp hd
    exact wt_nat (h n hn)
  rw [List.length_map] at z
  exact z
theorem showAll_nats : ∀ {ls : List Nat}, (∀ n ∈ ls, n < 10 ^ 45) → PyData.showableAll (ls.map dN) = true
  | [], _ => by simp [PyData.showableAll]
  | n :: ls, h => by
    have h1 := h n List.mem_cons_self
    have lt : ((n : Int).natAbs).log2 < 1920 := by
      have e : ((n : Int).natAbs) = n := by omega
      rw [e]
      by_cases z : n = 0
      · subst z
        decide
      · exact (Nat.log2_lt z).mpr (Nat.lt_trans h1 (by decide +kernel))
    simp only [List.map_cons, PyData.showableAll, PyData.showable, showAll_nats (fun x hx => h x (List.mem_cons_of_mem _ hx)), decide_eq_true lt, Bool.and_self]
theorem show_cd {c : Cd} (h0 : c.1 < 10 ^ 45) (h : ∀ n ∈ c.2, n < 10 ^ 45) : (cdD c).showable = true := by
  have a := showAll_nats h
  have b := showAll_nats (ls := [c.1]) fun n hn => by rw [List.mem_singleton.mp hn]; exact h0
  simp only [List.map_cons, List.map_nil, PyData.showableAll, Bool.and_true] at b
  simp only [cdD, PyData.showable, PyData.showableAll, a, Bool.and_true]
  simpa only [PyData.showable] using b
theorem wt_cd {c : Cd} (h0 : c.1 < 10 ^ 45) (h : ∀ n ∈ c.2, n < 10 ^ 45) (h12 : c.2.length ≤ 12) : wt (cdD c) ≤ 1000 := by
  have a := wts_nats h
  have b := wt_nat h0
  have e : wt (cdD c) = 3 + (wt (dN c.1) + 2 + (3 + wts (c.2.map dN) + 2 + 0)) := rfl
  omega
theorem depth_cd (c : Cd) : (cdD c).depth ≤ 64 := by
  simp only [cdD, PyData.depth, PyData.depthAll, depthAll_ints]
  decide
/-- what the repr of a coder asks, and tells -/
theorem rep_cd {K : PySem.W.Frag} {H : Hp} {Q : VK} {v : V} {c : Cd} (cat : Cat H v c) (ok : CdOk c) (h : ∀ n ∈ c.2, n < 10 ^ 45) (q : Q (.str (cdD c).shown) H) : rRep K [v] H Q := by
  have h0 : c.1 < 10 ^ 45 := Nat.lt_trans ok.1 (Nat.lt_of_le_of_lt ok.2 (by decide +kernel))
  refine ⟨v, cdD c, rfl, Th.dq _ cat.th, (fun kvs z => nomatch z), show_cd h0 h, depth_cd c, ?_, q⟩
  have a := shown_wt (cdD c)
  have b := wt_cd h0 h ok.2
  rw [sizeLine_eq]
  omega
end Lk
end
section
set_option maxRecDepth 100000
set_option maxHeartbeats 2000000
/-! == of coders. -/
namespace Lk
open PySem PySem.Spec PyProof.Rows L2
theorem eqvAll_ints : ∀ l m : List Nat, PyData.eqvAll (l.map dN) (m.map dN) = decide (l = m) := by
  intro l
  induction l with
  | nil => intro m; cases m <;> simp [PyData.eqvAll]
  | cons a l ih =>
    intro m
    cases m with
    | nil => simp [PyData.eqvAll]
    | cons b m =>
      simp only [List.map_cons, PyData.eqvAll, PyData.eqv, ih]
      by_cases e : a = b
      · subst e
        simp
      · have e2 : ¬ ((a : Int) = (b : Int)) := by omega
        simp [e, e2]
theorem eqv_cd (c d : Cd) : PyData.eqv (cdD c) (cdD d) = decide (c = d) := by
  obtain ⟨a, l⟩ := c
  obtain ⟨b, m⟩ := d
  simp only [cdD, PyData.eqv, PyData.eqvAll, eqvAll_ints]
  by_cases e : a = b
  · subst e
    by_cases e2 : l = m
    · subst e2
      simp
    · simp [e2]
  · have e3 : ¬ ((a : Int) = (b : Int)) := by omega
    simp [e, e3]
theorem lay_cd (c : Cd) : (cdD c).canLay0 = true := by
  simp [cdD, PyData.canLay0, PyData.canLayAll0, layAll_ints]
theorem shaped_cd (c : Cd) : SeqAt.shaped (cdD c) = true := by
  unfold SeqAt.shaped
  rw [Bool.and_eq_true]
  refine ⟨lay_cd c, decide_eq_true ?_⟩
  simp only [cdD, PyData.depth, PyData.depthAll, depthAll_ints]
  decide
end Lk
end
section
set_option maxRecDepth 100000
set_option maxHeartbeats 2000000
/-! Tuples of places as texts, held against one another. -/
namespace Lk
open PySem PySem.Spec PyProof.Rows L2
theorem free_hw {c : Cd} (h : COk c) : Free c ↔ ∀ i, i < c.2.length → hw c c.2.length i = c.1 :=
  ⟨fun f i hi => (hw_home h hi (by omega)).mpr (f i hi), fun f i hi => (hw_home h hi (by omega)).mp (f i hi)⟩
def tD (t : List Nat) : PyData := .tuple (t.map dN)
theorem th_tD {H : Hp} {p : Addr} {t : List Nat} (e : H p = some (.tup (t.map vN))) : Th H (.ref p) (tD t) := .tup e (ints_nat t)
theorem lay_tD (t : List Nat) : (tD t).canLay0 = true := by
  simp [tD, PyData.canLay0, layAll_ints]
theorem shaped_tD (t : List Nat) : SeqAt.shaped (tD t) = true := by
  unfold SeqAt.shaped
  rw [Bool.and_eq_true]
  refine ⟨lay_tD t, decide_eq_true ?_⟩
  simp only [tD, PyData.depth, depthAll_ints]
  decide
theorem eqv_tD (t u : List Nat) : PyData.eqv (tD t) (tD u) = decide (t = u) := by
  simp only [tD, PyData.eqv, eqvAll_ints]
theorem rep_tD {K : PySem.W.Frag} {H : Hp} {Q : VK} {p : Addr} {t : List Nat} (e : H p = some (.tup (t.map vN))) (h12 : t.length ≤ 12) (h : ∀ n ∈ t, n < 10 ^ 45) (q : Q (.str (tD t).shown) H) : rRep K [.ref p] H Q := by
  refine ⟨.ref p, tD t, rfl, Th.dq _ (th_tD e), (fun kvs z => nomatch z), ?_, ?_, ?_, q⟩
  · simp only [tD, PyData.showable, showAll_nats h]
  · simp only [tD, PyData.depth, depthAll_ints]
    decide
  · have a := shown_wt (tD t)
    have b := wts_nats h
    have c : wt (tD t) = 3 + wts (t.map dN) := rfl
    rw [sizeLine_eq]
    omega
theorem tree_three : TreeOf (0, [0, 0, 0]) [0, 1] := by
  have ok : ∀ n, COk (it n (0, [0, 0, 0])) := fun n => it_ok n (show (0 : Nat) < 3 by decide)
  refine ⟨2, 5, ⟨(free_hw (ok 2)).mpr (by decide), fun m hm => ?_⟩, ⟨by decide, fun k hk => ?_⟩, by decide⟩
  · match m, hm with
    | 0, _ => exact fun f => absurd ((free_hw (ok 0)).mp f) (by decide)
    | 1, _ => exact fun f => absurd ((free_hw (ok 1)).mp f) (by decide)
  · revert k
    decide
end Lk
end
section
set_option maxRecDepth 100000
set_option maxHeartbeats 2000000
/-! Rows of goals as coders; trees. -/
namespace Lk
open PySem PySem.Spec PyProof.Rows L2
/-- a coder at place 0 whose last goings are these -/
def cdOf (g : List Nat) : Cd := (0, (List.range g.length).map fun i => (g.getD i 0 + (g.length - i)) % g.length)
theorem cdOf_len (g : List Nat) : (cdOf g).2.length = g.length := by
  show ((List.range g.length).map _).length = _
  rw [List.length_map, List.length_range]
theorem cdOf_ok {g : List Nat} (h : 0 < g.length) : COk (cdOf g) := by
  show 0 < (cdOf g).2.length
  rw [cdOf_len]
  exact h
theorem cdOf_lenAt {g : List Nat} {i : Nat} (h : i < g.length) : len (cdOf g) i = (g.getD i 0 + (g.length - i)) % g.length := by
  show ((List.range g.length).map _).getD i 0 = _
  rw [List.getD_eq_getElem?_getD, List.getElem?_map, List.getElem?_range h]
  rfl
theorem cdOf_go {g : List Nat} (hg : ∀ x ∈ g, x < g.length) {i : Nat} (h : i < g.length) : go (cdOf g) i = g.getD i 0 := by
  have e : g.getD i 0 < g.length := hg _ (by
    rw [List.getD_eq_getElem?_getD, List.getElem?_eq_getElem h]
    exact List.getElem_mem h)
  show (i + len (cdOf g) i) % (cdOf g).2.length = _
  rw [cdOf_len, cdOf_lenAt h, Nat.add_mod_mod, show i + (g.getD i 0 + (g.length - i)) = g.getD i 0 + g.length by omega, Nat.add_mod_right, Nat.mod_eq_of_lt e]
theorem cdOf_gos {g : List Nat} (hg : ∀ x ∈ g, x < g.length) : gos (cdOf g) = g := by
  refine List.ext_getElem? fun i => ?_
  by_cases h : i < g.length
  · rw [gos_at (by rw [cdOf_len]; exact h), cdOf_go hg h, List.getD_eq_getElem?_getD, List.getElem?_eq_getElem h]
    rfl
  · rw [List.getElem?_eq_none (by rw [gos_len, cdOf_len]; omega), List.getElem?_eq_none (by omega)]
theorem gon_home {c : Cd} (h0 : c.1 = 0) (hg : go c 0 = 0) : ∀ k, gon c k 0 = 0
  | 0 => rfl
  | k + 1 => by rw [gon_succ, gon_home h0 hg k, hg]
/-- all come first who have come behind so many turns -/
theorem come_all {c : Cd} (h : COk c) (h0 : c.1 = 0) (hg : go c 0 = 0) : (∀ i, i < c.2.length → gon c c.2.length i = 0) ↔ Free c := by
  refine ⟨fun f i hi => ⟨c.2.length, (f i hi).trans h0.symm⟩, fun f i hi => ?_⟩
  obtain ⟨j, hj, e⟩ := rch_near h hi (f i hi)
  rw [show c.2.length = j + (c.2.length - j) by omega, gon_add, e, h0]
  exact gon_home h0 hg _
/-- what is a tree of p places -/
def IsTr (p : Nat) (d : PyData) : Prop := ∃ t : List Nat, d = tD t ∧ t.length + 1 = p ∧ (∀ x ∈ t, x < p) ∧ Free (cdOf (0 :: t))
theorem tD_inj {t u : List Nat} (e : tD t = tD u) : t = u := by
  have z : t.map dN = u.map dN := PyData.tuple.inj e
  have inj : ∀ a b : Nat, dN a = dN b → a = b := fun a b e => by injection e with e; omega
  exact List.map_inj_right (fun a b e => inj a b e) |>.mp z
def spCome : Sp := fun vs H Q _ => ∃ a t, vs = [.ref a] ∧ H a = some (.tup (t.map vN)) ∧ t.length ≤ 11 ∧ (∀ x ∈ t, x < t.length + 1) ∧ ∀ b H', (b = true ↔ Free (cdOf (0 :: t))) → Same H H' → Q (.bl b) H'
def spIsTree (C : Addr) : Sp := fun vs H Q E => ∃ u v e d, vs = [u, v] ∧ Th H u e ∧ Th H v d ∧ (inR e 1 12 = false → ∀ H', Same H H' → E (.ref C) none H') ∧
  (∀ p : Nat, e = .int (p : Int) → 1 ≤ p → p ≤ 12 → ∀ b H', (b = true ↔ IsTr p d) → Same H H' → Q (.bl b) H')
def spDue : Sp := fun vs H Q _ => ∃ (p : Nat) (v : V) (d : PyData), vs = [.int (p : Int), v] ∧ Th H v d ∧ 1 ≤ p ∧ p ≤ 12 ∧ ∀ b H', (b = true ↔ IsTr p d) → Same H H' → Q (.bl b) H'
theorem all_take {bs : List Bool} {n : Nat} (h : n = bs.length) : bs.take n = bs := by rw [h, List.take_length]
end Lk
end
section
set_option maxRecDepth 100000
set_option maxHeartbeats 2000000
/-! Drawn trees; heaps but for one object. -/
namespace Lk
open PySem PySem.Spec PyProof.Rows L2
/-- a list's method within a comprehension -/
theorem pe_bmK {X : Cx} {K : PySem.W.Frag} {o e : Expr} {es : List Expr} {to : TE} {t : TA} {name : Str} {apos cpos : Pos} {T id : String} {r : V → List V → Hp → VK → Prop} (hK : X.K = K) (pa : PlainAttrs T) (slot : Slot T name id) (hty : typeOf (.builtin id) = pure (.type "method_descriptor")) (hm : MtR X id r) (ho : PE X o to) (ha : PA X (e :: es) t)
    (hbase : attributeBase o name X.env (eval o X.env) = eval o X.env := by rfl)
    (hfew : ((backTo cpos (starEach (e :: es) X.env)).all (fun x => !x.1) && (backToKw cpos (keywordEach [] X.env)).all (fun x => x.1.isSome)
      && decide ((e :: es).length + ([] : List Keyword).length + (if ([] : List Keyword).isEmpty then 0 else 1) < 30)) = true := by rfl)
    (hline : (apos.endLine == cpos.line) = true := by rfl) (hs : starEach (e :: es) X.env = (false, eval e X.env) :: starEach es X.env := by rfl) (hplain : (backTo cpos (starEach es X.env)).any (·.1) = false := by rfl) :
    PE X (.Call (.Attribute o name apos) (e :: es) [] cpos) (tBM K T r to t) := by
  subst hK
  exact pe_bm pa slot hty hm ho ha hbase hfew hline hs hplain
theorem flat_rep (x : Nat) : ∀ n : Nat, (List.replicate n [V.int (x : Int)]).flatten = (List.replicate n x).map vN
  | 0 => rfl
  | n + 1 => by
    rw [List.replicate_succ, List.replicate_succ, List.flatten_cons, flat_rep x n]
    rfl
theorem ixN_at {n j : Nat} (hj : j < n) : ixN n (j : Int) = some j := by
  unfold ixN
  rw [if_pos (by omega), if_pos (by omega)]
  simp
theorem seq_at {n : Nat} {i : Int} (h0 : 0 ≤ i) (h1 : i < n) : seqIndex? i n = some i.toNat := by
  have z := ixN_seq (n := n) (i := i) (j := i.toNat) (by
    have e : i = ((i.toNat : Nat) : Int) := by omega
    rw [e]
    exact ixN_at (by omega))
  exact z.1
def spDTree : Sp := fun vs H Q _ => ∃ (a : Addr) (p : Nat) (n : Int), vs = [.ref a, .int (p : Int)] ∧ Urn H a n ∧ n ≤ 99000 ∧ 1 ≤ p ∧ p ≤ 12 ∧
  ∀ (t : List Nat) (pt : Addr) H', t.length + 1 = p → (∀ x ∈ t, x < p) → Urn H' a (n + 30) → SameBut a H H' → H pt = none → H' pt = some (.tup (t.map vN)) → Q (.ref pt) H'
/-- the heap without one object -/
def rm (a : Addr) (H : Hp) : Hp := fun b => if b = a then none else H b
theorem rm_ne {a b : Addr} {H : Hp} (h : b ≠ a) : rm a H b = H b := if_neg h
theorem rm_same {a : Addr} {H : Hp} : Same (rm a H) H := fun b o e => by
  by_cases h : b = a
  · rw [h] at e
    unfold rm at e
    rw [if_pos rfl] at e
    cases e
  · rw [← rm_ne (H := H) h]
    exact e
theorem rm_but {a : Addr} {H H2 : Hp} (s : SameBut a H H2) : Same (rm a H) (rm a H2) := fun b o e => by
  by_cases h : b = a
  · rw [h] at e
    unfold rm at e
    rw [if_pos rfl] at e
    cases e
  · rw [rm_ne h] at e ⊢
    exact s b o h e
theorem eraseIdx_map {l : List Nat} (k : Nat) : (l.map vN).eraseIdx k = (l.eraseIdx k).map vN := by
  induction l generalizing k with
  | nil => rfl
  | cons x l ih =>
    cases k with
    | zero => rfl
    | succ k =>
      show vN x :: (l.map vN).eraseIdx k = vN x :: (l.eraseIdx k).map vN
      rw [ih]
end Lk
end
section
set_option maxRecDepth 100000
set_option maxHeartbeats 2000000
/-! Things that are shown; things that hang not on the urn. -/
namespace Lk
open PySem PySem.Spec PyProof.Rows L2
def Good (d : PyData) : Prop := d.showable = true ∧ d.depth ≤ 8 ∧ wt d ≤ 2000
theorem th_tup {H : Hp} {a p : Addr} {n : Int} {xs : List V} {ds : List PyData} (u : Urn H a n) (e : H p = some (.tup xs)) (m : ThAll (rm a H) xs ds) : Th (rm a H) (.ref p) (.tuple ds) := by
  refine .tup ?_ m
  rw [rm_ne (fun z => ?_)]
  · exact e
  · obtain ⟨_, _, _, e2, _⟩ := u
    rw [z, e2] at e
    cases e
theorem th_lst {H : Hp} {a p : Addr} {xs : List V} {ds : List PyData} (ne : p ≠ a) (e : H p = some (.lst xs)) (m : ThAll (rm a H) xs ds) : Th (rm a H) (.ref p) (.list ds) := .lst (by rw [rm_ne ne]; exact e) m
theorem th_dct {H : Hp} {a p : Addr} (ne : p ≠ a) (e : H p = some (.dK [])) : Th (rm a H) (.ref p) (.dict []) := .dct (by rw [rm_ne ne]; exact e)
theorem Th.up {H H2 : Hp} {a : Addr} {v : V} {d : PyData} (h : Th (rm a H) v d) (s : SameBut a H H2) : Th (rm a H2) v d := Th.same (rm_but s) d h
theorem ThAll.up {H H2 : Hp} {a : Addr} {vs : List V} {ds : List PyData} (h : ThAll (rm a H) vs ds) (s : SameBut a H H2) : ThAll (rm a H2) vs ds := ThAll.same (rm_but s) ds h
theorem wt_small {n : Nat} (h : n < 10 ^ 45) : wt (dN n) ≤ 46 := wt_nat h
theorem dep_ints : ∀ l : List Nat, PyData.depthAll (l.map dN) = 0 := depthAll_ints
theorem good_tup {t : List Nat} (h : ∀ x ∈ t, x < 10 ^ 45) (l : t.length ≤ 30) : Good (.tuple (t.map dN)) := by
  refine ⟨?_, ?_, ?_⟩
  · simp only [PyData.showable, showAll_nats h]
  · simp only [PyData.depth, depthAll_ints]
    decide
  · have b := wts_nats h
    show 3 + wts (t.map dN) ≤ 2000
    omega
theorem good_lst {t : List Nat} (h : ∀ x ∈ t, x < 10 ^ 45) (l : t.length ≤ 30) : Good (.list (t.map dN)) := by
  refine ⟨?_, ?_, ?_⟩
  · simp only [PyData.showable, showAll_nats h]
  · simp only [PyData.depth, depthAll_ints]
    decide
  · have b := wts_nats h
    show 2 + wts (t.map dN) ≤ 2000
    omega
def GoodS (d : PyData) : Prop := d.showable = true ∧ d.depth ≤ 6 ∧ wt d ≤ 200
theorem GoodS.good {d : PyData} (h : GoodS d) : Good d := ⟨h.1, by have := h.2.1; omega, by have := h.2.2; omega⟩
theorem showAll_app : ∀ {ds es : List PyData}, PyData.showableAll ds = true → PyData.showableAll es = true → PyData.showableAll (ds ++ es) = true
  | [], _, _, h => h
  | d :: ds, es, h1, h2 => by
    simp only [PyData.showableAll, Bool.and_eq_true] at h1
    simp only [List.cons_append, PyData.showableAll, Bool.and_eq_true]
    exact ⟨h1.1, showAll_app h1.2 h2⟩
theorem depAll_le {B : Nat} : ∀ {ds : List PyData}, (∀ d ∈ ds, d.depth ≤ B) → PyData.depthAll ds ≤ B
  | [], _ => by simp [PyData.depthAll]
  | d :: ds, h => by
    have a := h d List.mem_cons_self
    have b := depAll_le (ds := ds) fun x hx => h x (List.mem_cons_of_mem _ hx)
    simp only [PyData.depthAll]
    omega
theorem showAll_of : ∀ {ds : List PyData}, (∀ d ∈ ds, d.showable = true) → PyData.showableAll ds = true
  | [], _ => by simp [PyData.showableAll]
  | d :: ds, h => by
    simp only [PyData.showableAll, Bool.and_eq_true]
    exact ⟨h d List.mem_cons_self, showAll_of fun x hx => h x (List.mem_cons_of_mem _ hx)⟩
theorem goodS_int {i : Int} (h : i.natAbs < 10 ^ 45) : GoodS (.int i) := by
  refine ⟨?_, by simp [PyData.depth], ?_⟩
  · have z := showAll_nats (ls := [i.natAbs]) (by intro n hn; rw [List.mem_singleton.mp hn]; exact h)
    simp only [List.map_cons, PyData.showableAll, PyData.showable, Bool.and_eq_true] at z ⊢
    simpa using z.1
  · have := wt_int h
    omega
/-- a tuple of a few small things -/
theorem good_some {ds : List PyData} (h : ∀ d ∈ ds, GoodS d ∧ wt d ≤ 60) (l : ds.length ≤ 30) : Good (.tuple ds) := by
  refine ⟨?_, ?_, ?_⟩
  · simp only [PyData.showable]
    exact showAll_of fun d hd => (h d hd).1.1
  · have z := depAll_le (B := 6) fun d hd => (h d hd).1.2.1
    simp only [PyData.depth]
    omega
  · have z := wts_le (B := 60) (ds := ds) fun d hd => (h d hd).2
    have z2 : ds.length * 62 ≤ 30 * 62 := Nat.mul_le_mul_right _ l
    show 3 + wts ds ≤ 2000
    omega
/-- what the repr of a list of such things asks -/
theorem rep_good {K : PySem.W.Frag} {H : Hp} {Q : VK} {p : Addr} {xs : List V} {ds : List PyData} (e : H p = some (.lst xs)) (m : ThAll H xs ds) (g : ∀ d ∈ ds, Good d) (l : ds.length ≤ 100) (q : Q (.str (PyData.list ds).shown) H) : rRep K [.ref p] H Q := by
  refine ⟨.ref p, .list ds, rfl, Th.dq _ (.lst e m), (fun kvs z => nomatch z), ?_, ?_, ?_, q⟩
  · simp only [PyData.showable]
    exact showAll_of fun d hd => (g d hd).1
  · have z := depAll_le (B := 8) fun d hd => (g d hd).2.1
    simp only [PyData.depth]
    omega
  · have a := shown_wt (.list ds)
    have z := wts_le (B := 2000) (ds := ds) fun d hd => (g d hd).2.2
    have z2 : ds.length * 2002 ≤ 100 * 2002 := Nat.mul_le_mul_right _ l
    have c : wt (.list ds) = 2 + wts ds := rfl
    rw [sizeLine_eq]
    omega
theorem rm_mono {a : Addr} {H H2 : Hp} (s : Same H H2) : Same (rm a H) (rm a H2) := rm_but fun b o _ e => s b o e
theorem rm_new {S : Addr} {H H2 : Hp} (h : H S = none) (s : Same H H2) : Same H (rm S H2) := fun b o e => by
  rw [rm_ne (ne_of_none e h)]
  exact s b o e
theorem rm_none {a S : Addr} {H : Hp} (h : H S = none) : rm a H S = none := by
  unfold rm
  split
  · rfl
  · exact h
theorem rm_upd {S : Addr} {H : Hp} {o : HO} : Same (rm S H) (rm S (upd H S o)) := rm_but sameBut_upd
theorem rm_upd2 {a S : Addr} {H : Hp} {o : HO} : Same (rm S (rm a H)) (rm S (rm a (upd H S o))) := fun b x e => by
  by_cases h : b = S
  · rw [h] at e
    unfold rm at e
    rw [if_pos rfl] at e
    cases e
  · rw [rm_ne h] at e ⊢
    by_cases h2 : b = a
    · rw [h2] at e
      unfold rm at e
      rw [if_pos rfl] at e
      cases e
    · rw [rm_ne h2] at e ⊢
      rw [upd_ne h]
      exact e
theorem th2_tup {H : Hp} {a S p : Addr} {n : Int} {xs ws : List V} {ds : List PyData} (u : Urn H a n) (eS : H S = some (.lst ws)) (e : H p = some (.tup xs)) (m : ThAll (rm S (rm a H)) xs ds) : Th (rm S (rm a H)) (.ref p) (.tuple ds) := by
  refine .tup ?_ m
  rw [rm_ne (fun z => ?_), rm_ne (fun z => ?_)]
  · exact e
  · obtain ⟨_, _, _, e2, _⟩ := u
    rw [z, e2] at e
    cases e
  · rw [z, eS] at e
    cases e
theorem th2_lst {H : Hp} {a S p : Addr} {xs : List V} {ds : List PyData} (n1 : p ≠ a) (n2 : p ≠ S) (e : H p = some (.lst xs)) (m : ThAll (rm S (rm a H)) xs ds) : Th (rm S (rm a H)) (.ref p) (.list ds) := .lst (by rw [rm_ne n2, rm_ne n1]; exact e) m
theorem th2_dct {H : Hp} {a S p : Addr} (n1 : p ≠ a) (n2 : p ≠ S) (e : H p = some (.dK [])) : Th (rm S (rm a H)) (.ref p) (.dict []) := .dct (by rw [rm_ne n2, rm_ne n1]; exact e)
theorem flat_any (x : V) : ∀ n : Nat, (List.replicate n [x]).flatten = List.replicate n x
  | 0 => rfl
  | n + 1 => by
    rw [List.replicate_succ, List.replicate_succ, List.flatten_cons, flat_any x n]
    rfl
theorem thAll_rep {H : Hp} {v : V} {d : PyData} (h : Th H v d) : ∀ n : Nat, ThAll H (List.replicate n v) (List.replicate n d)
  | 0 => .nil
  | n + 1 => .cons h (thAll_rep h n)
theorem good_rep {d : PyData} (g : GoodS d) (w : wt d ≤ 60) {n : Nat} (h : n ≤ 30) : Good (.tuple (List.replicate n d)) :=
  good_some (fun x hx => by rw [List.eq_of_mem_replicate hx]; exact ⟨g, w⟩) (by rw [List.length_replicate]; exact h)
def spThings : Sp := fun vs H Q _ => ∃ (a : Addr) (p : Nat) (n : Int), vs = [.ref a, .int (p : Int)] ∧ Urn H a n ∧ n ≤ 98000 ∧ 1 ≤ p ∧ p ≤ 12 ∧
  ∀ D H' ws ds, H' D = some (.lst ws) → ThAll (rm a H') ws ds → (∀ d ∈ ds, Good d) → ds.length ≤ 40 → Urn H' a (n + 130) → SameBut a H H' → Q (.ref D) H'
end Lk
end
section
set_option maxRecDepth 100000
set_option maxHeartbeats 2000000
/-! enumerate(t, start=k) of a tuple. -/
namespace Lk
open PySem PySem.Spec PyProof.Rows L2
theorem callWithT_kw {M : Model} {A : Around} {E : Value → Shared → Prop} {s : Shared} {env : Env} {pos : Pos} {T : String} {e : Expr} {rest : List Expr} {kws : List Keyword} {Q : Value → Shared → Prop}
    (h : wpAny M A (spliced (backTo pos (starEach (e :: rest) env))) (fun vs s₁ => wpAny M A (evalAll ((backToKw pos (keywordEach kws env)).map (·.2)))
      (fun kvs s₂ => wpAny M A (call (.type T) vs (((backToKw pos (keywordEach kws env)).filterMap (·.1)).zip kvs)) Q E s₂) E s₁) E s)
    (he : backTo pos (starEach (e :: rest) env) = (false, eval e env) :: backTo pos (starEach rest env))
    (hplain : (backTo pos (starEach (e :: rest) env)).any (·.1) = false)
    (hall : (backToKw pos (keywordEach kws env)).all (·.1.isSome) = true)
    (hkw : (backToKw pos (keywordEach kws env)).any (·.1.isNone) = false) :
    wpAny M A (callWith pos (.type T) [] (backTo pos (starEach (e :: rest) env)) (backToKw pos (keywordEach kws env))) Q E s := by
  unfold callWith
  refine wpAny_bind (wpAny_holding (wpAny_mono (?_ : wpAny M A (evalArgs (.type T) true (backTo pos (starEach (e :: rest) env)) (backToKw pos (keywordEach kws env))) (fun a s₁ => wpAny M A (call (.type T) ([] ++ a.pos) a.kw) Q E s₁) E s) (fun a s₁ h₁ => wpAny_bind (wpAny_standAt ?_)) fun _ _ x => x))
  · rw [he] at h ⊢
    exact evalArgs_kwB hall h
  · simp only [hplain, hkw, Bool.or_false]
    refine wpAny_bind (wpAny_pure ?_)
    exact wpAny_bind (wpAny_mono h₁ (fun r s₂ hr => wpAny_bind (wpAny_holding (wpAny_point (wpAny_pure hr)))) fun _ _ x => x)
def iEnumS (K : PySem.W.Frag) (ta tk : TA) : TI := fun σ H R => ta σ H fun vs H1 => tk σ H1 fun zs H2 => ∃ (a : Addr) (xs : List V) (c : Int), vs = [.ref a] ∧ zs = [.int c] ∧ 0 ≤ c ∧ c < 1000 ∧ SqT K H2 a xs ∧ R (IteT K a c) H2
theorem pi_enumS {X : Cx} {e e2 : Expr} {ta tk : TA} {p pos tpos kpos : Pos} {elts : List Expr} {kk : Nat} (hg : Gl X "enumerate") (hm : X.mg "enumerate" = none) (ha : PA X [e] ta) (hk : PK X [⟨some "start", e2, kpos⟩] tk)
    (he : backTo pos (starEach [e] X.env) = (false, eval e X.env) :: backTo pos (starEach [] X.env) := by rfl) (hpl : (backTo pos (starEach [e] X.env)).any (·.1) = false := by rfl)
    (hall : (backToKw pos (keywordEach [⟨some "start", e2, kpos⟩] X.env)).all (·.1.isSome) = true := by rfl) (hnone : (backToKw pos (keywordEach [⟨some "start", e2, kpos⟩] X.env)).any (·.1.isNone) = false := by rfl)
    (hks : (backToKw pos (keywordEach [⟨some "start", e2, kpos⟩] X.env)).filterMap (·.1) = [Str.ofString "start"] := by rfl) :
    PI X (.Tuple elts kk tpos) (.Call (.Name "enumerate" p) [e] [⟨some "start", e2, kpos⟩] pos) (iEnumS X.K ta tk) := by
  refine ⟨fun pins s σ H R I h => wpAny_Call_Name_kw (ld_blt I hg hm boot_enumerate ?_)⟩
  refine callWithT_kw (thn (ha.run pos pins s σ H _ I h) fun us s1 ⟨vs, H1, I1, r1, q1⟩ => thn (hk.run pos pins s1 σ H1 _ I1 q1) fun ws s2 ⟨zs, H2, I2, r2, q2⟩ => ?_) he hpl hall hnone
  rw [hks]
  obtain ⟨a, xs, c, ex, ez, c0, c1, hq, q⟩ := q2
  subst ex ez
  cases r1 with
  | cons r rr =>
    cases rr
    cases r
    cases r2 with
    | cons r2 rr2 =>
      cases rr2
      obtain ⟨tt, rfl⟩ := r2
      obtain ⟨its, rv, tp, hz⟩ := I2.tuple hq
      refine enum_begins_start (begins_tuple a its.toArray) tp (by omega) (by omega) fun h2 he hit hsz hk2 => wpAny_pyIter_enum he ?_
      have I3 : Inv X pins σ H2 { s2 with heap := h2 } := I2.kept (t' := s2.toks) hk2
      refine ⟨s2.heap.objs.size + 1, [s2.heap.objs.size + 1, s2.heap.objs.size], _, _, H2, rfl, I3, turn_enumT a (s2.heap.objs.size + 1) s2.heap.objs.size, ⟨⟨.none, ?_⟩, ⟨_, hit, rfl, rfl⟩, Nat.succ_ne_self _⟩, fun b hb => ?_, q⟩
      · rw [show c + ((0 : Nat) : Int) = c by omega]
        exact he
      · have hle : s2.heap.objs.size ≤ b := by
          rcases List.mem_cons.mp hb with z | z
          · rw [z]; exact Nat.le_add_right _ _
          · rw [List.mem_singleton.mp z]; exact Nat.le_refl _
        exact I2.fpOk hle (I2.hok.fresh hle)
end Lk
end
section
set_option maxRecDepth 100000
set_option maxHeartbeats 2000000
/-! The coder of a tree. -/
namespace Lk
open PySem PySem.Spec PyProof.Rows L2
def lensOf (t : List Nat) : List Nat := (List.range t.length).map fun i => (t.getD i 0 + (t.length + 1 - (i + 1))) % (t.length + 1)
theorem lensOf_len (t : List Nat) : (lensOf t).length = t.length := by
  unfold lensOf
  rw [List.length_map, List.length_range]
theorem lensOf_at {t : List Nat} {i : Nat} (h : i < t.length) : (lensOf t)[i]? = some ((t.getD i 0 + (t.length + 1 - (i + 1))) % (t.length + 1)) := by
  unfold lensOf
  rw [List.getElem?_map, List.getElem?_range h]
  rfl
theorem cdOf_cons (t : List Nat) : cdOf (0 :: t) = (0, 0 :: lensOf t) := by
  show (0, (List.range (t.length + 1)).map _) = _
  rw [List.range_succ_eq_map, List.map_cons, List.map_map]
  refine Prod.ext rfl ?_
  show ((0 :: t).getD 0 0 + ((0 :: t).length - 0)) % (0 :: t).length :: _ = 0 :: lensOf t
  rw [List.length_cons]
  have e : ((0 :: t).getD 0 0 + (t.length + 1 - 0)) % (t.length + 1) = 0 := by
    show (0 + (t.length + 1)) % (t.length + 1) = 0
    rw [Nat.zero_add, Nat.mod_self]
  rw [e]
  refine congrArg (List.cons 0) ?_
  unfold lensOf
  refine List.map_congr_left fun i _ => ?_
  rfl
/-- a row of goals that is a tree -/
def TOk (p : Nat) (t : List Nat) : Prop := t.length + 1 = p ∧ (∀ x ∈ t, x < p) ∧ Free (cdOf (0 :: t))
theorem TOk.isTr {p : Nat} {t : List Nat} (h : TOk p t) : IsTr p (tD t) := ⟨t, rfl, h.1, h.2.1, h.2.2⟩
theorem TOk.cons {p : Nat} {t : List Nat} (h : TOk p t) : ∀ x ∈ 0 :: t, x < (0 :: t).length := fun x hx => by
  rw [List.length_cons, h.1]
  rcases List.mem_cons.mp hx with e | m
  · have := h.1
    omega
  · exact h.2.1 x m
theorem cdOf_home (t : List Nat) : Home0 (cdOf (0 :: t)) := by
  refine ⟨rfl, ?_⟩
  rw [cdOf_cons]
  show 0 % _ = 0
  exact Nat.zero_mod _
theorem tree_cdOf {p : Nat} {t : List Nat} (h : TOk p t) : TreeOf (cdOf (0 :: t)) t := by
  refine ⟨0, 0, ⟨h.2.2, fun m hm => absurd hm (Nat.not_lt_zero _)⟩, ⟨cdOf_home t, fun k hk => absurd hk (Nat.not_lt_zero _)⟩, ?_⟩
  show t = (gos (cdOf (0 :: t))).drop 1
  rw [cdOf_gos h.cons]
  rfl
theorem cdOf_cdOk {p : Nat} {t : List Nat} (h : TOk p t) (p12 : p ≤ 12) : CdOk (cdOf (0 :: t)) := ⟨cdOf_ok (Nat.succ_pos _), by rw [cdOf_len, List.length_cons, h.1]; exact p12⟩
theorem gon_same {d : Cd} (h : COk d) : ∀ (k i : Nat), i < d.2.length → gon (cdOf (gos d)) k i = gon d k i
  | 0, _, _ => rfl
  | k + 1, i, hi => by
    have hg : ∀ x ∈ gos d, x < (gos d).length := fun x hx => by
      rw [gos_len]
      unfold gos at hx
      obtain ⟨j, _, rfl⟩ := List.mem_map.mp hx
      exact go_lt h j
    have e : go (cdOf (gos d)) i = go d i := by
      rw [cdOf_go hg (by rw [gos_len]; exact hi), List.getD_eq_getElem?_getD, gos_at hi]
      rfl
    show gon (cdOf (gos d)) k (go (cdOf (gos d)) i) = gon d k (go d i)
    rw [e]
    exact gon_same h k _ (go_lt h i)
/-- the tree of a coder is one -/
theorem treeOf_ok {c : Cd} (h : COk c) {t : List Nat} (a : TreeOf c t) : TOk c.2.length t := by
  have hp : 0 < c.2.length := Nat.lt_of_le_of_lt (Nat.zero_le _) h
  have l := treeOf_len a
  refine ⟨by omega, treeOf_lt h a, ?_⟩
  obtain ⟨n, j, a1, a2, rfl⟩ := a
  rw [it_add]
  have okd : COk (it j (it n c)) := it_ok j (it_ok n h)
  have frd : Free (it j (it n c)) := free_it j (it_ok n h) a1.1
  have h0 := a2.1
  generalize hd : it j (it n c) = d at *
  have dl : d.2.length = c.2.length := by rw [← hd, it_len, it_len]
  have e0 : go d 0 = 0 := by
    show (0 + len d 0) % d.2.length = 0
    rw [Nat.zero_add]
    exact h0.2
  have eg : 0 :: (gos d).drop 1 = gos d := by
    cases hg : gos d with
    | nil =>
      have z := gos_len d
      rw [hg] at z
      have z2 : 0 = d.2.length := z
      omega
    | cons x l =>
      have z := gos_at (c := d) (i := 0) (by omega)
      rw [hg, e0] at z
      have z2 : x = 0 := Option.some.inj z
      rw [z2]
      rfl
  rw [eg]
  intro i hi
  rw [cdOf_len, gos_len] at hi
  obtain ⟨k, hk⟩ := frd i hi
  refine ⟨k, ?_⟩
  rw [gon_same okd k i hi, hk]
  exact h0.1
def spCoderOf : Sp := fun vs H Q _ => ∃ (p : Nat) (a : Addr) (t : List Nat), vs = [.int (p : Int), .ref a] ∧ H a = some (.tup (t.map vN)) ∧ TOk p t ∧ p ≤ 12 ∧ ∀ v H', Same H H' → Cat H' v (cdOf (0 :: t)) → Q v H'
theorem ist_of {C1 : Addr} {Q : VK} {E : XK} {H : Hp} {v : V} {d : PyData} {p : Nat} (p1 : 1 ≤ p) (p12 : p ≤ 12) (h : Th H v d) (k : ∀ b H', (b = true ↔ IsTr p d) → Same H H' → Q (.bl b) H') : spIsTree C1 [.int (p : Int), v] H Q E := by
  refine ⟨_, v, .int (p : Int), d, rfl, .int _, h, fun z => ?_, fun p' e _ _ b H' hb s => ?_⟩
  · exfalso
    have y : (decide ((1 : Int) ≤ (p : Int)) && decide ((p : Int) ≤ 12)) = false := z
    rw [decide_eq_true (by omega), decide_eq_true (by omega)] at y
    cases y
  · have e2 : p' = p := by
      injection e with e
      omega
    subst e2
    exact k b H' hb s
def spLeast : Sp := fun vs H Q _ => ∃ (i g p : Nat), vs = [.int (i : Int), .int (g : Int), .int (p : Int)] ∧ i ≤ p ∧ g < p ∧ p ≤ 12 ∧ ∀ H', Same H H' → Q (.int (((g + (p - i)) % p : Nat) : Int)) H'
end Lk
end
section
set_option maxRecDepth 100000
set_option maxHeartbeats 2000000
/-! A drawn tree is one. -/
namespace Lk
open PySem PySem.Spec PyProof.Rows L2
theorem all_in {p : Nat} {os : List Nat} (nd : os.Nodup) (l : os.length + 1 = p) (b : ∀ x ∈ os, 1 ≤ x ∧ x < p) {i : Nat} (h1 : 1 ≤ i) (h2 : i < p) : i ∈ os := by
  refine Classical.byContradiction fun no => ?_
  have nd2 : (0 :: i :: os).Nodup := by
    refine List.nodup_cons.mpr ⟨fun m => ?_, List.nodup_cons.mpr ⟨no, nd⟩⟩
    rcases List.mem_cons.mp m with e | m
    · omega
    · have := b 0 m
      omega
  have z := nodup_below (p := p) nd2 fun x hx => by
    rcases List.mem_cons.mp hx with e | m
    · omega
    · rcases List.mem_cons.mp m with e | m
      · omega
      · exact (b x m).2
  simp only [List.length_cons] at z
  omega
theorem getD_mem {l : List Nat} {i : Nat} (h : i < l.length) : l.getD i 0 ∈ l := by
  rw [List.getD_eq_getElem?_getD, List.getElem?_eq_getElem h]
  exact List.getElem_mem h
theorem drawn_free {p : Nat} {os gs : List Nat} (nd : os.Nodup) (l : os.length + 1 = p) (b : ∀ x ∈ os, 1 ≤ x ∧ x < p) (gl : gs.length = p) (gb : ∀ x ∈ gs, x < p)
    (H : ∀ j, j < os.length → ∃ v, v ≤ j ∧ gs.getD (os.getD j 0) 0 = (0 :: os).getD v 0) : TOk p (gs.drop 1) := by
  have l1 : (gs.drop 1).length + 1 = p := by rw [List.length_drop]; omega
  have b1 : ∀ x ∈ gs.drop 1, x < p := fun x hx => gb x (List.mem_of_mem_drop hx)
  refine ⟨l1, b1, ?_⟩
  have hg : ∀ x ∈ 0 :: gs.drop 1, x < (0 :: gs.drop 1).length := fun x hx => by
    rw [List.length_cons, l1]
    rcases List.mem_cons.mp hx with e | m
    · omega
    · exact b1 x m
  have goat : ∀ i, 1 ≤ i → i < p → go (cdOf (0 :: gs.drop 1)) i = gs.getD i 0 := fun i h1 h2 => by
    rw [cdOf_go hg (by rw [List.length_cons, l1]; exact h2)]
    obtain ⟨k, rfl⟩ : ∃ k, i = k + 1 := ⟨i - 1, by omega⟩
    rw [List.getD_cons_succ, List.getD_eq_getElem?_getD, List.getElem?_drop, Nat.add_comm 1 k, ← List.getD_eq_getElem?_getD]
  have r0 : Rch (cdOf (0 :: gs.drop 1)) 0 := ⟨0, rfl⟩
  have up : ∀ i, Rch (cdOf (0 :: gs.drop 1)) (go (cdOf (0 :: gs.drop 1)) i) → Rch (cdOf (0 :: gs.drop 1)) i := fun i ⟨m, e⟩ => ⟨m + 1, e⟩
  have key : ∀ n j, j < n → j < os.length → Rch (cdOf (0 :: gs.drop 1)) (os.getD j 0) := by
    intro n
    induction n with
    | zero => exact fun j h => absurd h (Nat.not_lt_zero _)
    | succ n ih =>
      intro j hj hjl
      have hb := b _ (getD_mem hjl)
      refine up _ ?_
      rw [goat _ hb.1 hb.2]
      obtain ⟨v, hv, e⟩ := H j hjl
      rw [e]
      cases v with
      | zero => exact r0
      | succ v =>
        rw [List.getD_cons_succ]
        exact ih v (by omega) (by omega)
  intro i hi
  rw [cdOf_len, List.length_cons, l1] at hi
  by_cases h0 : i = 0
  · rw [h0]
    exact r0
  · obtain ⟨j, hj, e⟩ := List.mem_iff_getElem.mp (all_in nd l b (by omega) hi)
    have z := key (j + 1) j (by omega) hj
    rw [List.getD_eq_getElem?_getD, List.getElem?_eq_getElem hj] at z
    rw [← e]
    exact z
def spDTree2 : Sp := fun vs H Q _ => ∃ (a : Addr) (p : Nat) (n : Int), vs = [.ref a, .int (p : Int)] ∧ Urn H a n ∧ n ≤ 99000 ∧ 1 ≤ p ∧ p ≤ 12 ∧
  ∀ (t : List Nat) (pt : Addr) H', TOk p t → Urn H' a (n + 30) → SameBut a H H' → H' pt = some (.tup (t.map vN)) → Q (.ref pt) H'
theorem erase_perm : ∀ (l : List Nat) (k : Nat) (h : k < l.length), (l[k] :: l.eraseIdx k).Perm l
  | [], _, h => absurd h (Nat.not_lt_zero _)
  | x :: l, 0, _ => List.Perm.refl _
  | x :: l, k + 1, h => by
    have hk : k < l.length := by simpa using h
    show (l[k] :: x :: l.eraseIdx k).Perm (x :: l)
    exact (List.Perm.swap x (l[k]) (l.eraseIdx k)).trans ((erase_perm l k hk).cons x)
theorem nodup_move {ls os : List Nat} {k : Nat} (h : k < ls.length) (nd : (ls ++ os).Nodup) : (ls.eraseIdx k ++ (os ++ [ls[k]])).Nodup := by
  have p1 : (ls.eraseIdx k ++ (os ++ [ls[k]])).Perm (ls ++ os) := by
    have a : (ls[k] :: ls.eraseIdx k).Perm ls := erase_perm ls k h
    have b : (ls.eraseIdx k ++ (os ++ [ls[k]])).Perm (ls[k] :: (ls.eraseIdx k ++ os)) := by
      rw [← List.append_assoc]
      exact List.perm_append_comm (l₂ := [ls[k]])
    exact b.trans (a.append_right os)
  exact p1.nodup_iff.mpr nd
end Lk
end
section
set_option maxRecDepth 100000
set_option maxHeartbeats 2000000
/-! max of a tuple of ints. -/
namespace Lk
open PySem PySem.Spec PyProof.Rows L2
section
variable {prog : Program} {w : World} {A : Around} {E : Value → Shared → Prop} {s : Shared} {l : Addr}
theorem max_tupRaw {its : List Value} {ns : List Int} {Q : Value → Shared → Prop} (hh : A.handled = none) (hl : s.heap.IsTuple l its.toArray) (hi : IntsAre its ns) (hne : 0 < ns.length)
    (h : ∀ h' tk M t', (∀ b o, s.heap.get? b = some o → h'.get? b = some o) → M ∈ ns → (∀ a, a ∈ ns → a ≤ M) → Q (.int M t') { s with heap := h', toks := tk }) : wpAny (model prog w) A (call (.builtin "max") [.ref l]) Q E s := by
  obtain ⟨xs, e⟩ := hi.allInts.items
  have hn : numsOf (intItems xs).toList = ns := by rw [← e]; exact hi.numsOf
  rw [nums_intItems] at hn
  subst hn
  rw [e] at hl
  have hsz : 0 < xs.size := by simpa using hne
  have fin : ∀ v h' tk, (intItems xs)[argBest (fun i j => decide (numAt xs i > numAt xs j)) (xs.size - 1)]? = some v → (∀ b o, s.heap.get? b = some o → h'.get? b = some o) → Q v { s with heap := h', toks := tk } := fun v h' tk hv hk => by
    obtain ⟨t, rfl⟩ := intItems_at hv
    obtain ⟨h1, h2⟩ := argBest_gt (numAt xs) (xs.size - 1)
    refine h h' tk _ t hk ?_ fun a ha => ?_
    · rw [numAt_eq]; exact PySem.getD_mem (by rw [List.length_map, Array.length_toList]; omega)
    · obtain ⟨j, hj, rfl⟩ := mem_getD ha
      rw [List.length_map, Array.length_toList] at hj
      rw [← numAt_eq]; exact h2 j (by omega)
  have hll : l < s.heap.objs.size := by obtain ⟨o, ho, _⟩ := id hl; exact Heap.lt_size ho
  have hne2 : l ≠ s.heap.objs.size := Nat.ne_of_lt hll
  refine PySem.call_max_walk (wpAny_pyIter_tuple hl ?_)
  refine ⟨s.heap.objs.size, _, _, _, _, _, _, rfl, Walks.tuple (A := A.in1) hh _ l hne2 (intItems xs), ⟨?_, ?_⟩, fun b hb => ?_, by simpa [intItems] using hsz, CmpOf.ints_gt (numAt xs) (fun _ _ => intItems_at), fun v h' tk hP hk => ?_⟩
  · exact ⟨_, Heap.get?_push_size _ rfl, rfl, rfl⟩
  · exact hl.at fun o e => Heap.get?_push_of_some _ e
  · rw [Heap.size_push]
    rcases List.mem_cons.mp hb with z | z
    · rw [z]; exact Nat.lt_succ_self _
    · rw [List.mem_singleton.mp z]; exact Nat.lt_succ_of_lt hll
  · refine fin v h' tk (by simpa [intItems] using hP) fun b o e => hk b o (fun hb => ?_) (Heap.get?_push_of_some _ e)
    have z := Heap.lt_size e
    rw [List.mem_singleton.mp hb] at z
    exact Nat.lt_irrefl _ z
end
def rMaxT (K : PySem.W.Frag) : List V → Hp → VK → Prop := fun vs H Q => ∃ (a : Addr) (ns : List Int), vs = [V.ref a] ∧ SqT K H a (ns.map V.int) ∧ 0 < ns.length ∧ ∀ m, m ∈ ns → (∀ y, y ∈ ns → y ≤ m) → Q (.int m) H
theorem cr_maxT {X : Cx} (hc : X.calm = true) : CallR X (.builtin "max") (rMaxT X.K) := by
  intro pins s σ H vs us Q I r h
  obtain ⟨a, ns, rfl, hs, hne, q⟩ := h
  obtain ⟨its, rv, hl, _⟩ := I.tuple hs
  rw [Vals.ref1 r]
  exact max_tupRaw (I.ok.hd hc) hl rv.ints hne fun h' tk m t' hk h1 h2 => ⟨.int _, H, I.kept hk, ⟨_, rfl⟩, q m h1 h2⟩
end Lk
end
section
set_option maxRecDepth 100000
set_option maxHeartbeats 2000000
/-! Far words. -/
namespace Lk
open PySem PySem.Spec PyProof.Rows L2
theorem count_of1 {e : PyData} {m : Nat} (h : inR e 1 m = true) : ∃ n : Nat, e = .int n ∧ 1 ≤ n ∧ n ≤ m := by
  cases e with
  | int i =>
    have z : (decide ((1 : Int) ≤ i) && decide (i ≤ (m : Int))) = true := h
    rw [Bool.and_eq_true, decide_eq_true_eq, decide_eq_true_eq] at z
    exact ⟨i.toNat, by rw [Int.toNat_of_nonneg (by omega)], by omega, by omega⟩
  | _ => cases h
/-- NoCoder, NoCount of a number below 1 or beyond m; else told -/
def spOf1 (C1 C2 : Addr) (m : Nat) (told : Cd → Nat → VK → Hp → Prop) : Sp := fun vs H Q E => ∃ v u d e, vs = [v, u] ∧ Th H v d ∧ Th H u e ∧ (isCd d = false → ∀ H', Same H H' → E (.ref C1) none H') ∧
  (isCd d = true → inR e 1 m = false → ∀ H', Same H H' → E (.ref C2) none H') ∧ (∀ c (n : Nat), d = cdD c → CdOk c → e = .int n → 1 ≤ n → n ≤ m → told c n Q H)
def toldWd (c : Cd) (n : Nat) (Q : VK) (H : Hp) : Prop := ∀ q H', Same H H' → H' q = some (.tup [.int ((wd (it (n - 1) c)).1 : Int), .int ((wd (it (n - 1) c)).2 : Int)]) → Q (.ref q) H'
theorem of1_of {C1 C2 : Addr} {m : Nat} {told : Cd → Nat → VK → Hp → Prop} {Q : VK} {E : XK} {H : Hp} {v : V} {c : Cd} {n : Nat} (cat : Cat H v c) (ok : CdOk c) (h1 : 1 ≤ n) (hn : n ≤ m) (k : told c n Q H) : spOf1 C1 C2 m told [v, .int (n : Int)] H Q E := by
  refine ⟨v, .int (n : Int), cdD c, .int (n : Int), rfl, cat.th, .int _, fun z => ?_, fun _ z => ?_, fun c2 n2 ec _ en _ _ => ?_⟩
  · rw [isCd_cdD ok] at z
    cases z
  · exfalso
    have y : (decide ((1 : Int) ≤ (n : Int)) && decide ((n : Int) ≤ (m : Int))) = false := z
    rw [decide_eq_true (by omega), decide_eq_true (by omega)] at y
    cases y
  · have e := cdD_inj ec
    have e2 : n2 = n := by injection en with en; omega
    subst e e2
    exact k
theorem ofB_of {C1 C2 : Addr} {m : Nat} {told : Cd → Nat → VK → Hp → Prop} {Q : VK} {E : XK} {H : Hp} {v : V} {c : Cd} {n : Nat} (cat : Cat H v c) (ok : CdOk c) (hn : n ≤ m) (k : told c n Q H) : spOf C1 C2 m told [v, .int (n : Int)] H Q E := by
  refine ⟨v, .int (n : Int), cdD c, .int (n : Int), rfl, cat.th, .int _, fun z => ?_, fun _ z => ?_, fun c2 n2 ec _ en _ => ?_⟩
  · rw [isCd_cdD ok] at z
    cases z
  · exfalso
    have y : (decide ((0 : Int) ≤ (n : Int)) && decide ((n : Int) ≤ (m : Int))) = false := z
    rw [decide_eq_true (by omega), decide_eq_true (by omega)] at y
    cases y
  · have e := cdD_inj ec
    have e2 : n2 = n := by injection en with en; omega
    subst e e2
    exact k
/-- the greatest of the lengths -/
def IsMax (l : List Nat) (m : Nat) : Prop := m ∈ l ∧ ∀ x ∈ l, x ≤ m
theorem isMax_one {l : List Nat} {m n : Nat} (a : IsMax l m) (b : IsMax l n) : m = n := Nat.le_antisymm (b.2 _ a.1) (a.2 _ b.1)
def toldMax (c : Cd) (n : Nat) (Q : VK) (H : Hp) : Prop := ∀ (m : Nat) H', IsMax (it n c).2 m → Same H H' → Q (.int (m : Int)) H'
theorem ints_vN (l : List Nat) : l.map vN = (l.map fun n => ((n : Nat) : Int)).map V.int := by rw [List.map_map]; rfl
theorem isMax_of {l : List Nat} {m : Int} (h1 : m ∈ l.map fun n => ((n : Nat) : Int)) (h2 : ∀ y ∈ l.map (fun n => ((n : Nat) : Int)), y ≤ m) : ∃ n : Nat, m = (n : Int) ∧ IsMax l n := by
  obtain ⟨n, hn, rfl⟩ := List.mem_map.mp h1
  refine ⟨n, rfl, hn, fun x hx => ?_⟩
  have z := h2 (x : Int) (List.mem_map.mpr ⟨x, hx, rfl⟩)
  omega
/-- the law's pot -/
def spPot (K : PySem.W.Frag) : Sp := fun vs H Q _ => ∃ (S : Addr) (ns : List Int) (k : Nat), vs = [.ref S, .int (k : Int)] ∧ SqL K H S (ns.map V.int) ∧ k ≤ 63 ∧ ns.length ≤ 63 ∧ ∀ p H', H p = none → Same H H' → Urn H' p 0 → Q (.ref p) H'
def spFCoder : Sp := fun vs H Q _ => ∃ (a : Addr) (n : Int), vs = [.ref a] ∧ Urn H a n ∧ n ≤ 90000 ∧
  ∀ v c H', CdOk c → (∀ x ∈ c.2, x ≤ 10 ^ 30) → Urn H' a (n + 60) → SameBut a H H' → Cat H' v c → Q v H'
def spNumber : Sp := fun vs H Q _ => ∃ (a : Addr) (n : Int), vs = [.ref a] ∧ Urn H a n ∧ n ≤ 90000 ∧
  ∀ p H' m1 m2 m3 m4, H p = none → (∀ m ∈ [m1, m2, m3, m4], 1 ≤ m ∧ m ≤ 10 ^ 18 - 20) → Urn H' a (n + 3) → SameBut a H H' → H' p = some (.lst (([m1, m2, m3, m4] : List Nat).map vN)) → Q (.ref p) H'
end Lk
end
section
/-! Signs of coders: mathematics. -/
namespace Lk
/-- how many of the words of 1 to L letters from b on end just ahead of k -/
def cnt (p b k : Nat) : Nat → Nat
  | 0 => 0
  | L + 1 => cnt p b k L + (if (b + (L + 1)) % p = k then 1 else 0)
/-- a sum over the places -/
def sumR (p : Nat) (f : Nat → Int) : Int := ((List.range p).map f).sum
theorem sumR_zero (f : Nat → Int) : sumR 0 f = 0 := rfl
theorem sumR_succ (p : Nat) (f : Nat → Int) : sumR (p + 1) f = sumR p f + f p := by
  unfold sumR
  rw [List.range_succ, List.map_append, List.sum_append]
  simp
theorem sumR_congr {p : Nat} {f g : Nat → Int} (h : ∀ k, k < p → f k = g k) : sumR p f = sumR p g := by
  unfold sumR
  congr 1
  exact List.map_congr_left fun k hk => h k (List.mem_range.mp hk)
theorem sumR_add (p : Nat) (f g : Nat → Int) : sumR p (fun k => f k + g k) = sumR p f + sumR p g := by
  induction p with
  | zero => rfl
  | succ p ih => rw [sumR_succ, sumR_succ, sumR_succ, ih]; omega
theorem sumR_sub (p : Nat) (f g : Nat → Int) : sumR p (fun k => f k - g k) = sumR p f - sumR p g := by
  induction p with
  | zero => rfl
  | succ p ih => rw [sumR_succ, sumR_succ, sumR_succ, ih]; omega
theorem sumR_const (p : Nat) (x : Int) : sumR p (fun _ => x) = (p : Int) * x := by
  induction p with
  | zero => rw [sumR_zero]; simp
  | succ p ih => rw [sumR_succ, ih, Int.natCast_add, Int.add_mul]; simp
theorem sumR_swap (p q : Nat) (f : Nat → Nat → Int) : sumR p (fun i => sumR q (fun j => f i j)) = sumR q (fun j => sumR p (fun i => f i j)) := by
  induction p with
  | zero =>
    rw [sumR_zero]
    have : sumR q (fun j => sumR 0 fun i => f i j) = sumR q (fun _ => 0) := sumR_congr fun _ _ => rfl
    rw [this, sumR_const, Int.mul_zero]
  | succ p ih =>
    rw [sumR_succ, ih, ← sumR_add]
    exact sumR_congr fun j _ => (sumR_succ p _).symm
theorem sumR_one {p k : Nat} (h : k < p) (v : Int) : sumR p (fun i => if i = k then v else 0) = v := by
  induction p with
  | zero => omega
  | succ p ih =>
    rw [sumR_succ]
    by_cases e : k = p
    · subst e
      rw [if_pos rfl]
      have : sumR k (fun i => if i = k then v else 0) = sumR k (fun _ => 0) := sumR_congr fun i hi => if_neg (by omega)
      rw [this, sumR_const]
      omega
    · rw [ih (by omega), if_neg (by omega)]
      omega
theorem cnt_sum {p : Nat} (hp : 0 < p) (b : Nat) : ∀ L : Nat, sumR p (fun k => (cnt p b k L : Int)) = (L : Int)
  | 0 => by
    have : sumR p (fun k => (cnt p b k 0 : Int)) = sumR p (fun _ => 0) := sumR_congr fun _ _ => rfl
    rw [this, sumR_const]
    simp
  | L + 1 => by
    have h : (b + (L + 1)) % p < p := Nat.mod_lt _ hp
    have e : sumR p (fun k => (cnt p b k (L + 1) : Int)) = sumR p (fun k => (cnt p b k L : Int) + (if k = (b + (L + 1)) % p then 1 else 0)) := sumR_congr fun k _ => by
      show ((cnt p b k L + (if (b + (L + 1)) % p = k then 1 else 0) : Nat) : Int) = _
      by_cases g : (b + (L + 1)) % p = k
      · rw [if_pos g, if_pos g.symm]
        rfl
      · rw [if_neg g, if_neg (fun z => g z.symm)]
        rfl
    rw [e, sumR_add, cnt_sum hp b L, sumR_one h]
    rfl
/-- by how many letters the shortest such word is told -/
def wayOf (p : Nat) (b k : Int) : Int := (k - b - 1) % p + 1
theorem cnt_way {p : Nat} {b k : Nat} (hb : b < p) (hk : k < p) : ∀ L : Nat, ((L : Int) - wayOf p b k) / (p : Int) + 1 = (cnt p b k L : Int) := by
  have hp : (0 : Int) < p := by omega
  have w0 : 0 ≤ ((k : Int) - b - 1) % p := Int.emod_nonneg _ (by omega)
  have w1 : ((k : Int) - b - 1) % p < p := Int.emod_lt_of_pos _ hp
  have qd := Int.emod_add_mul_ediv ((k : Int) - b - 1) p
  intro L
  induction L with
  | zero =>
    show (((0 : Nat) : Int) - (((k : Int) - b - 1) % p + 1)) / (p : Int) + 1 = 0
    have : (((0 : Nat) : Int) - (((k : Int) - b - 1) % p + 1)) / (p : Int) = -1 := by
      refine (Int.ediv_emod_unique hp (r := (p : Int) - (((k : Int) - b - 1) % p + 1)) (q := -1)).mpr ⟨?_, by omega, by omega⟩ |>.1
      rw [Int.mul_neg, Int.mul_one]
      omega
    omega
  | succ L ih =>
    generalize hm : ((L : Int) - wayOf p b k) / (p : Int) = m at ih
    have rd := Int.emod_add_mul_ediv ((L : Int) - wayOf p b k) p
    have r0 : 0 ≤ ((L : Int) - wayOf p b k) % p := Int.emod_nonneg _ (by omega)
    have r1 : ((L : Int) - wayOf p b k) % p < p := Int.emod_lt_of_pos _ hp
    rw [hm] at rd
    generalize hr : ((L : Int) - wayOf p b k) % p = r at rd r0 r1
    have key : (((b + (L + 1)) % p : Nat) : Int) = ((k : Int) + r + 1) % p := by
      rw [Int.natCast_emod]
      have e : (((b + (L + 1) : Nat)) : Int) = ((k : Int) + r + 1) + (p : Int) * (m - ((k : Int) - b - 1) / p) := by
        rw [Int.mul_sub]
        unfold wayOf at rd
        generalize (p : Int) * m = M at *
        generalize (p : Int) * (((k : Int) - b - 1) / p) = N at *
        push_cast
        omega
      rw [e, Int.add_mul_emod_self_left]
    show (((L + 1 : Nat) : Int) - wayOf p b k) / (p : Int) + 1 = ((cnt p b k L + (if (b + (L + 1)) % p = k then 1 else 0) : Nat) : Int)
    rw [show ((cnt p b k L + (if (b + (L + 1)) % p = k then 1 else 0) : Nat) : Int) = (cnt p b k L : Int) + ((if (b + (L + 1)) % p = k then 1 else 0 : Nat) : Int) from Int.natCast_add _ _, ← ih]
    by_cases g : r + 1 = p
    · have e2 : (((L + 1 : Nat) : Int) - wayOf p b k) / (p : Int) = m + 1 := by
        refine (Int.ediv_emod_unique hp (r := 0) (q := m + 1)).mpr ⟨?_, by omega, by omega⟩ |>.1
        rw [Int.mul_add, Int.mul_one]
        omega
      have e3 : (b + (L + 1)) % p = k := by
        have z : ((k : Int) + r + 1) % p = k := by
          rw [show (k : Int) + r + 1 = (k : Int) + p by omega, Int.add_emod_right]
          exact Int.emod_eq_of_lt (by omega) (by omega)
        rw [z] at key
        omega
      rw [e2, if_pos e3]
      omega
    · have e2 : (((L + 1 : Nat) : Int) - wayOf p b k) / (p : Int) = m := by
        refine (Int.ediv_emod_unique hp (r := r + 1) (q := m)).mpr ⟨by omega, by omega, by omega⟩ |>.1
      have e3 : ¬ (b + (L + 1)) % p = k := by
        intro z
        rw [z] at key
        rcases Int.lt_or_le ((k : Int) + r + 1) p with l | l
        · rw [Int.emod_eq_of_lt (by omega) l] at key
          omega
        · have : ((k : Int) + r + 1) % p = (k : Int) + r + 1 - p := by
            rw [← Int.sub_emod_right]
            exact Int.emod_eq_of_lt (by omega) (by omega)
          omega
      rw [e2, if_neg e3]
      omega
/-- how many of the words of these lengths end just ahead of k -/
def endsI (ls : List Nat) (k : Nat) : Int := sumR ls.length fun b => (cnt ls.length b k (ls.getD b 0) : Int)
/-- what is counted at a place -/
def num (c : Cd) (k : Nat) : Int := (len c k : Int) - endsI c.2 k + (if k = c.1 then 1 else 0)
def sgn (c : Cd) : List Nat := (List.range c.2.length).map fun k => ((num c k - num c 0) % (c.2.length : Int)).toNat
theorem sgn_len (c : Cd) : (sgn c).length = c.2.length := by
  unfold sgn
  rw [List.length_map, List.length_range]
theorem sgn_at {c : Cd} {k : Nat} (h : k < c.2.length) : (sgn c)[k]? = some (((num c k - num c 0) % (c.2.length : Int)).toNat) := by
  unfold sgn
  rw [List.getElem?_map, List.getElem?_range h]
  rfl
theorem sgn_lt {c : Cd} : ∀ x ∈ sgn c, x < c.2.length := by
  intro x hx
  obtain ⟨k, hk, rfl⟩ := List.mem_map.mp hx
  have hk := List.mem_range.mp hk
  have h1 := Int.emod_nonneg (num c k - num c 0) (show (c.2.length : Int) ≠ 0 by omega)
  have h2 := Int.emod_lt_of_pos (num c k - num c 0) (show (0 : Int) < (c.2.length : Int) by omega)
  omega
theorem sgn_zero {c : Cd} (h : 0 < c.2.length) : (sgn c).getD 0 0 = 0 := by
  rw [List.getD_eq_getElem?_getD, sgn_at h, Int.sub_self]
  simp
theorem num_sum {c : Cd} (h : COk c) : sumR c.2.length (num c) = 1 := by
  have e : sumR c.2.length (num c) = sumR c.2.length (fun k => ((len c k : Int) - endsI c.2 k) + (if k = c.1 then 1 else 0)) := sumR_congr fun _ _ => rfl
  rw [e, sumR_add, sumR_sub, sumR_one h]
  have e2 : sumR c.2.length (fun k => endsI c.2 k) = sumR c.2.length fun b => (len c b : Int) := by
    unfold endsI
    rw [sumR_swap]
    exact sumR_congr fun b _ => cnt_sum (Nat.lt_of_le_of_lt (Nat.zero_le _) h) b _
  rw [e2]
  omega
theorem emod_sum {p : Nat} (hp : 0 < p) (n : Nat) (f : Nat → Int) : (sumR n fun k => (((f k) % (p : Int)).toNat : Int)) % (p : Int) = sumR n f % (p : Int) := by
  induction n with
  | zero => rfl
  | succ n ih =>
    have h1 := Int.emod_nonneg (f n) (show (p : Int) ≠ 0 by omega)
    rw [sumR_succ, sumR_succ, Int.add_emod, ih, Int.toNat_of_nonneg h1, Int.emod_emod, ← Int.add_emod]
theorem sum_nat (n : Nat) (f : Nat → Nat) : ((((List.range n).map f).sum : Nat) : Int) = sumR n fun k => (f k : Int) := by
  induction n with
  | zero => rfl
  | succ n ih => rw [sumR_succ, ← ih, List.range_succ, List.map_append, List.sum_append]; simp
theorem sgn_sum {c : Cd} (h : COk c) : (sgn c).sum % c.2.length = 1 % c.2.length := by
  have z : (((sgn c).sum % c.2.length : Nat) : Int) = ((1 % c.2.length : Nat) : Int) := by
    unfold sgn
    rw [Int.natCast_emod, sum_nat, emod_sum (Nat.lt_of_le_of_lt (Nat.zero_le _) h), sumR_sub, num_sum h, sumR_const, Int.sub_mul_emod_self_left, Int.natCast_emod]
    rfl
  exact Int.ofNat.inj z
/-- a table over the places -/
theorem emod_same {p : Nat} {a b : Int} (h : ∃ k : Int, a = b + p * k) : a % (p : Int) = b % (p : Int) := by
  obtain ⟨k, rfl⟩ := h
  exact Int.add_mul_emod_self_left _ _ _
end Lk
end
section
/-! What signs tell of rounds: mathematics. -/
namespace Lk
theorem endsI_eq (c : Cd) (k : Nat) : endsI c.2 k = sumR c.2.length fun b => (cnt c.2.length b k (len c b) : Int) := rfl
theorem num_nx {c : Cd} (h : COk c) (k : Nat) : num (nx c) k = num c k := by
  unfold num
  rw [endsI_eq, endsI_eq, nx_len]
  have e : sumR c.2.length (fun b => (cnt c.2.length b k (len (nx c) b) : Int)) = sumR c.2.length (fun b => (cnt c.2.length b k (len c b) : Int) + (if b = c.1 then (if k = (nx c).1 then 1 else 0) else 0)) := sumR_congr fun b _ => by
    by_cases g : b = c.1
    · subst g
      rw [len_nx_same h, if_pos rfl]
      show ((cnt c.2.length c.1 k (len c c.1) + (if (c.1 + (len c c.1 + 1)) % c.2.length = k then 1 else 0) : Nat) : Int) = _
      by_cases g2 : k = (nx c).1
      · rw [if_pos g2, if_pos (show (c.1 + (len c c.1 + 1)) % c.2.length = k from g2.symm)]
        rfl
      · rw [if_neg g2, if_neg (show ¬ (c.1 + (len c c.1 + 1)) % c.2.length = k from fun z => g2 z.symm)]
        rfl
    · rw [len_nx_ne g, if_neg g]
      omega
  rw [e, sumR_add, sumR_one h]
  by_cases g : k = c.1
  · subst g
    rw [len_nx_same h, if_pos rfl]
    push_cast
    omega
  · rw [len_nx_ne g, if_neg g]
    omega
theorem num_it : ∀ (n : Nat) {c : Cd}, COk c → ∀ k, num (it n c) k = num c k
  | 0, _, _, _ => rfl
  | n + 1, _, h, k => (num_it n (nx_ok h) k).trans (num_nx h k)
theorem sgn_of_num {c d : Cd} (l : c.2.length = d.2.length) (h : ∀ k, k < c.2.length → (num c k - num c 0) % (c.2.length : Int) = (num d k - num d 0) % (c.2.length : Int)) : sgn c = sgn d := by
  unfold sgn
  rw [← l]
  exact List.map_congr_left fun k hk => by rw [h k (List.mem_range.mp hk)]
theorem sgn_it (n : Nat) {c : Cd} (h : COk c) : sgn (it n c) = sgn c :=
  sgn_of_num (it_len n) fun k _ => by rw [num_it n h, num_it n h]
theorem sgn_num {c d : Cd} (l : c.2.length = d.2.length) (e : sgn c = sgn d) {k : Nat} (hk : k < c.2.length) : (num c k - num c 0) % (c.2.length : Int) = (num d k - num d 0) % (c.2.length : Int) := by
  have h1 := sgn_at hk
  rw [e, sgn_at (l ▸ hk)] at h1
  have h2 := Option.some.inj h1
  rw [← l] at h2
  have p1 := Int.emod_nonneg (num c k - num c 0) (show (c.2.length : Int) ≠ 0 by omega)
  have p2 := Int.emod_nonneg (num d k - num d 0) (show (c.2.length : Int) ≠ 0 by omega)
  omega
theorem cnt_add (p b k m : Nat) (hb : b < p) (hk : k < p) (L : Nat) : (cnt p b k (L + p * m) : Int) = (cnt p b k L : Int) + m := by
  rw [← cnt_way hb hk, ← cnt_way hb hk]
  have e : ((L + p * m : Nat) : Int) - wayOf p b k = ((L : Int) - wayOf p b k) + (p : Int) * (m : Int) := by
    push_cast
    omega
  rw [e, Int.add_mul_ediv_left _ _ (by omega)]
  omega
theorem num_more {c d : Cd} (l : d.2.length = c.2.length) (e1 : d.1 = c.1) {m : Nat → Nat} (h : ∀ k, k < c.2.length → len d k = len c k + c.2.length * m k) {k : Nat} (hk : k < c.2.length) :
    num d k = num c k + (c.2.length : Int) * m k - sumR c.2.length fun b => (m b : Int) := by
  unfold num
  rw [endsI_eq, endsI_eq, l, e1]
  have e : sumR c.2.length (fun b => (cnt c.2.length b k (len d b) : Int)) = sumR c.2.length (fun b => (cnt c.2.length b k (len c b) : Int) + (m b : Int)) := sumR_congr fun b hb => by
    rw [h b hb, cnt_add _ _ _ _ hb hk]
  rw [e, sumR_add, h k hk]
  push_cast
  omega
theorem sgn_more {c d : Cd} (l : d.2.length = c.2.length) (e1 : d.1 = c.1) {m : Nat → Nat} (h : ∀ k, k < c.2.length → len d k = len c k + c.2.length * m k) : sgn d = sgn c := by
  refine (sgn_of_num l.symm fun k hk => ?_).symm
  rw [num_more l e1 h hk, num_more l e1 h (Nat.lt_of_le_of_lt (Nat.zero_le _) hk)]
  rw [show num c k + (c.2.length : Int) * m k - sumR c.2.length (fun b => (m b : Int)) - (num c 0 + (c.2.length : Int) * m 0 - sumR c.2.length fun b => (m b : Int)) = (num c k - num c 0) + (c.2.length : Int) * ((m k : Int) - m 0) by
    rw [Int.mul_sub]
    omega]
  rw [Int.add_mul_emod_self_left]
/-- the lengths modulo the places -/
def bs (c : Cd) : Cd := (c.1, c.2.map (· % c.2.length))
theorem bs_len (c : Cd) : (bs c).2.length = c.2.length := List.length_map _
theorem bs_at {c : Cd} {k : Nat} (h : k < c.2.length) : len (bs c) k = len c k % c.2.length := by
  show (c.2.map (· % c.2.length)).getD k 0 = c.2.getD k 0 % c.2.length
  rw [List.getD_eq_getElem?_getD, List.getElem?_map, List.getD_eq_getElem?_getD, List.getElem?_eq_getElem h]
  rfl
theorem sgn_bs (c : Cd) : sgn (bs c) = sgn c := by
  refine (sgn_more (c := bs c) (d := c) (bs_len c).symm rfl (m := fun k => len c k / c.2.length) fun k hk => ?_).symm
  rw [bs_len] at hk ⊢
  rw [bs_at hk, Nat.add_comm, Nat.div_add_mod]
theorem ext_len {c d : Cd} (l : c.2.length = d.2.length) (e1 : c.1 = d.1) (h : ∀ k, k < c.2.length → len c k = len d k) : c = d := by
  refine Prod.ext e1 (List.ext_getElem l fun k h1 h2 => ?_)
  have z := h k h1
  unfold len at z
  rw [List.getD_eq_getElem?_getD, List.getD_eq_getElem?_getD, List.getElem?_eq_getElem h1, List.getElem?_eq_getElem h2] at z
  exact z
theorem sgn_cong {c d : Cd} (l : c.2.length = d.2.length) (e1 : c.1 = d.1) (h : ∀ k, k < c.2.length → len c k % c.2.length = len d k % c.2.length) : sgn c = sgn d := by
  rw [← sgn_bs c, ← sgn_bs d]
  refine congrArg sgn (ext_len (by rw [bs_len, bs_len, l]) e1 fun k hk => ?_)
  rw [bs_len] at hk
  rw [bs_at hk, bs_at (l ▸ hk), h k hk, l]
theorem go_cong {c d : Cd} (l : c.2.length = d.2.length) {k : Nat} (h : len c k % c.2.length = len d k % c.2.length) : go c k = go d k := by
  unfold go
  rw [← l, Nat.add_mod, h, ← Nat.add_mod]
theorem gon_cong {c d : Cd} (hc : COk c) (l : c.2.length = d.2.length) (h : ∀ k, k < c.2.length → len c k % c.2.length = len d k % c.2.length) : ∀ (n i : Nat), i < c.2.length → gon c n i = gon d n i
  | 0, _, _ => rfl
  | n + 1, i, hi => by
    show gon c n (go c i) = gon d n (go d i)
    rw [← go_cong l (h i hi)]
    exact gon_cong hc l h n _ (Nat.mod_lt _ (Nat.lt_of_le_of_lt (Nat.zero_le _) hc))
theorem free_cong {c d : Cd} (hc : COk c) (l : c.2.length = d.2.length) (e1 : c.1 = d.1) (h : ∀ k, k < c.2.length → len c k % c.2.length = len d k % c.2.length) (f : Free c) : Free d := fun i hi => by
  obtain ⟨k, e⟩ := f i (l ▸ hi)
  exact ⟨k, by rw [← gon_cong hc l h k i (l ▸ hi), e, e1]⟩
theorem cnt_mono (p b k : Nat) {L M : Nat} (h : L ≤ M) : cnt p b k L ≤ cnt p b k M := by
  induction h with
  | refl => exact Nat.le_refl _
  | step _ ih => exact Nat.le_trans ih (Nat.le_add_right _ _)
theorem cnt_lt {p b k L M : Nat} (h : L < M) (e : (b + M) % p = k) : cnt p b k L < cnt p b k M := by
  obtain ⟨m, rfl⟩ : ∃ m, M = m + 1 := ⟨M - 1, by omega⟩
  have z := cnt_mono p b k (show L ≤ m by omega)
  show _ < cnt p b k m + (if (b + (m + 1)) % p = k then 1 else 0)
  rw [if_pos e]
  omega
theorem sumR_le {p : Nat} {f g : Nat → Int} (h : ∀ k, k < p → f k ≤ g k) : sumR p f ≤ sumR p g := by
  induction p with
  | zero => exact Int.le_refl _
  | succ p ih =>
    rw [sumR_succ, sumR_succ]
    have a := ih fun k hk => h k (by omega)
    have b := h p (by omega)
    omega
theorem sumR_lt {p : Nat} {f g : Nat → Int} (h : ∀ k, k < p → f k ≤ g k) {j : Nat} (hj : j < p) (l : f j < g j) : sumR p f < sumR p g := by
  induction p with
  | zero => omega
  | succ p ih =>
    rw [sumR_succ, sumR_succ]
    by_cases e : j = p
    · subst e
      have a := sumR_le (p := j) fun k hk => h k (by omega)
      omega
    · have a := ih (fun k hk => h k (by omega)) (by omega)
      have b := h p (by omega)
      omega
theorem ends_le {x d : Cd} (l : d.2.length = x.2.length) (h : ∀ i, i < x.2.length → len x i ≤ len d i) (k : Nat) : endsI x.2 k ≤ endsI d.2 k := by
  rw [endsI_eq, endsI_eq, l]
  exact sumR_le fun b hb => Int.ofNat_le.mpr (cnt_mono _ _ _ (h b hb))
theorem ends_lt {x d : Cd} (l : d.2.length = x.2.length) (h : ∀ i, i < x.2.length → len x i ≤ len d i) {b : Nat} (hb : b < x.2.length) (hl : len x b < len d b) : endsI x.2 (go d b) < endsI d.2 (go d b) := by
  rw [endsI_eq, endsI_eq, l]
  exact sumR_lt (fun b hb => Int.ofNat_le.mpr (cnt_mono _ _ _ (h b hb))) hb (Int.ofNat_lt.mpr (cnt_lt hl (by unfold go; rw [l])))
/-- who is home with last goings that lead there has been walked to, where all that was counted is the same -/
theorem best : ∀ (n : Nat) {x d : Cd}, COk x → d.2.length = x.2.length → COk d → Free d → (∀ i, i < x.2.length → len x i ≤ len d i) → (∀ k, k < x.2.length → num x k = num d k) → d.2.sum = x.2.sum + n → d = it n x
  | 0, x, d, hx, l, hd, fr, le, nu, sm => by
    have eq : ∀ i, i < x.2.length → len x i = len d i := by
      refine S_eq x.2.length le ?_
      have a := S_getD x.2
      have b := S_getD d.2
      rw [l] at b
      show S x.2.length (fun i => x.2.getD i 0) = S x.2.length (fun i => d.2.getD i 0)
      omega
    have e1 : ((0, d.2) : Cd) = ((0, x.2) : Cd) := ext_len (c := (0, d.2)) (d := (0, x.2)) l rfl fun k hk => (eq k (l ▸ hk)).symm
    have e2' := congrArg Prod.snd e1
    have e2 : d.2 = x.2 := e2'
    have z := nu x.1 hx
    unfold num at z
    rw [if_pos rfl, e2, eq x.1 hx] at z
    by_cases g : x.1 = d.1
    · exact Prod.ext g.symm e2
    · rw [if_neg g] at z
      omega
  | n + 1, x, d, hx, l, hd, fr, le, nu, sm => by
    have key : len x x.1 < len d x.1 := by
      refine Nat.lt_of_not_le fun no => ?_
      have eqx : len x x.1 = len d x.1 := Nat.le_antisymm (le _ hx) no
      have z := nu x.1 hx
      have zl := ends_le l le x.1
      unfold num at z
      rw [if_pos rfl, eqx] at z
      have home : x.1 = d.1 := by
        by_cases g : x.1 = d.1
        · exact g
        · rw [if_neg g] at z
          omega
      rw [if_pos home] at z
      have ends0 : endsI x.2 x.1 = endsI d.2 x.1 := by omega
      obtain ⟨b, hb, hlb⟩ : ∃ b, b < x.2.length ∧ len x b < len d b := by
        refine Classical.byContradiction fun q => ?_
        have all : ∀ b, b < x.2.length → len d b ≤ len x b := fun b hb => Nat.le_of_not_lt fun z => q ⟨b, hb, z⟩
        have a := S_getD x.2
        have c := S_getD d.2
        rw [l] at c
        have m := S_mono x.2.length (f := fun i => d.2.getD i 0) (g := fun i => x.2.getD i 0) all
        omega
      have walk : ∀ (m b : Nat), b < x.2.length → len x b < len d b → gon d m b = d.1 → False := by
        intro m
        induction m with
        | zero =>
          intro b hb hlb e
          have e2 : b = x.1 := e.trans home.symm
          rw [e2] at hlb
          omega
        | succ m ih =>
          intro b hb hlb e
          have e2 : gon d m (go d b) = d.1 := e
          have hv : go d b < x.2.length := by
            rw [← l]
            exact Nat.mod_lt _ (Nat.lt_of_le_of_lt (Nat.zero_le _) hd)
          have lt := ends_lt l le hb hlb
          by_cases g : go d b = x.1
          · rw [g] at lt
            omega
          · refine ih _ hv ?_ e2
            have z2 := nu _ hv
            unfold num at z2
            rw [if_neg g, if_neg (fun y => g (y.trans home.symm))] at z2
            omega
      obtain ⟨m, e⟩ := fr b (l ▸ hb)
      exact walk m b hb hlb e
    refine best n (nx_ok hx) (l.trans nx_len.symm) hd fr (fun i hi => ?_) (fun k hk => ?_) ?_
    · rw [nx_len] at hi
      by_cases g : i = x.1
      · rw [g, len_nx_same hx]
        exact key
      · rw [len_nx_ne g]
        exact le i hi
    · rw [nx_len] at hk
      rw [num_nx hx]
      exact nu k hk
    · rw [sum_nx hx]
      omega
/-- one sign: the one comes to the other's place, lengths alike modulo the places -/
theorem sgn_best {c d : Cd} (hc : COk c) (hd : COk d) (l : d.2.length = c.2.length) (fr : Free d) (e : sgn c = sgn d) :
    ∃ n d', it n c = d' ∧ d'.2.length = d.2.length ∧ d'.1 = d.1 ∧ ∀ k, k < d.2.length → len d k ≤ len d' k ∧ len d' k % d.2.length = len d k % d.2.length := by
  have hp : 0 < c.2.length := Nat.lt_of_le_of_lt (Nat.zero_le _) hc
  have dv : ∀ k, k < c.2.length → ∃ q : Int, (num d k - num d 0) - (num c k - num c 0) = (c.2.length : Int) * q := fun k hk => by
    have z := sgn_num l.symm e hk
    exact Int.dvd_of_emod_eq_zero (by rw [Int.sub_emod, z, Int.sub_self, Int.zero_emod])
  obtain ⟨q, hq⟩ : ∃ q : Nat → Int, ∀ k, k < c.2.length → (num d k - num d 0) - (num c k - num c 0) = (c.2.length : Int) * q k := by
    refine ⟨fun k => ((num d k - num d 0) - (num c k - num c 0)) / (c.2.length : Int), fun k hk => ?_⟩
    obtain ⟨y, hy⟩ := dv k hk
    rw [hy]
    show (c.2.length : Int) * y = (c.2.length : Int) * (((num d k - num d 0) - (num c k - num c 0)) / (c.2.length : Int))
    rw [hy, Int.mul_ediv_cancel_left _ (by omega)]
  have sq : (c.2.length : Int) * (num d 0 - num c 0) + (c.2.length : Int) * sumR c.2.length q = 0 := by
    have s1 := num_sum hc
    have s2 := num_sum hd
    rw [l] at s2
    have s3 : sumR c.2.length (fun k => (c.2.length : Int) * q k) = sumR c.2.length (fun k => (num d k - num c k) - (num d 0 - num c 0)) := sumR_congr fun k hk => by
      have := hq k hk
      omega
    have s4 : sumR c.2.length (fun k => (num d k - num c k) - (num d 0 - num c 0)) = sumR c.2.length (num d) - sumR c.2.length (num c) - (c.2.length : Int) * (num d 0 - num c 0) := by
      rw [sumR_sub c.2.length (fun k => num d k - num c k) (fun _ => num d 0 - num c 0), sumR_const]
      have : sumR c.2.length (fun k => num d k - num c k) = sumR c.2.length (num d) - sumR c.2.length (num c) := sumR_sub _ _ _
      rw [this]
    have s5 : ∀ p : Nat, sumR p (fun k => (c.2.length : Int) * q k) = (c.2.length : Int) * sumR p q := fun p => by
      induction p with
      | zero => rw [sumR_zero, sumR_zero, Int.mul_zero]
      | succ p ih => rw [sumR_succ, sumR_succ, ih, Int.mul_add]
    rw [s5, s4, s1, s2] at s3
    omega
  have sq2 : num d 0 - num c 0 = - sumR c.2.length q := by
    have z : (c.2.length : Int) * ((num d 0 - num c 0) + sumR c.2.length q) = 0 := by rw [Int.mul_add]; exact sq
    rcases Int.mul_eq_zero.mp z with h | h
    · omega
    · omega
  obtain ⟨f0, hf0⟩ : ∃ f0 : Int, ∀ k, k < c.2.length → q k + (len c k : Int) ≤ f0 := by
    have ex : ∀ p : Nat, ∃ f0 : Int, ∀ k, k < p → q k + (len c k : Int) ≤ f0 := fun p => by
      induction p with
      | zero => exact ⟨0, fun k hk => absurd hk (Nat.not_lt_zero k)⟩
      | succ p ih =>
        obtain ⟨f, hf⟩ := ih
        refine ⟨max f (q p + (len c p : Int)), fun k hk => ?_⟩
        by_cases g : k = p
        · rw [g]
          exact Int.le_max_right _ _
        · exact Int.le_trans (hf k (by omega)) (Int.le_max_left _ _)
    exact ex _
  have hm : ∀ k, k < c.2.length → (((f0 - q k).toNat : Nat) : Int) = f0 - q k := fun k hk => Int.toNat_of_nonneg (by have := hf0 k hk; omega)
  let d' : Cd := (d.1, (List.range c.2.length).map fun k => len d k + c.2.length * (f0 - q k).toNat)
  have ld : d'.2.length = c.2.length := by
    show ((List.range c.2.length).map _).length = _
    rw [List.length_map, List.length_range]
  have ad : ∀ k, k < c.2.length → len d' k = len d k + c.2.length * (f0 - q k).toNat := fun k hk => by
    show ((List.range c.2.length).map _).getD k 0 = _
    rw [List.getD_eq_getElem?_getD, List.getElem?_map, List.getElem?_range hk]
    rfl
  have cg : ∀ k, k < d.2.length → len d k % d.2.length = len d' k % d.2.length := fun k hk => by
    rw [ad k (l ▸ hk), l, Nat.add_mul_mod_self_left]
  have hd' : COk d' := by
    show d.1 < d'.2.length
    rw [ld, ← l]
    exact hd
  have fr' : Free d' := free_cong hd (l.trans ld.symm) rfl cg fr
  have le : ∀ i, i < c.2.length → len c i ≤ len d' i := fun i hi => by
    rw [ad i hi]
    have z := hf0 i hi
    have z2 := hm i hi
    have z3 : (f0 - q i).toNat ≤ c.2.length * (f0 - q i).toNat := Nat.le_mul_of_pos_left _ hp
    omega
  have nu : ∀ k, k < c.2.length → num c k = num d' k := fun k hk => by
    have z := num_more (c := d) (d := d') (ld.trans l.symm) rfl (m := fun k => (f0 - q k).toNat) (fun k hk => by rw [l]; exact ad k (l ▸ hk)) (k := k) (by rw [l]; exact hk)
    rw [l] at z
    have z2 : sumR c.2.length (fun b => (((f0 - q b).toNat : Nat) : Int)) = (c.2.length : Int) * f0 - sumR c.2.length q := by
      rw [sumR_congr (g := fun b => f0 - q b) fun b hb => hm b hb, sumR_sub c.2.length (fun _ => f0) q, sumR_const]
    rw [z2, hm k hk, Int.mul_sub] at z
    have z3 := hq k hk
    omega
  have ls : c.2.sum ≤ d'.2.sum := sum_le ld.symm fun i hi => le i (ld ▸ hi)
  refine ⟨d'.2.sum - c.2.sum, d', (best (d'.2.sum - c.2.sum) hc ld hd' fr' le nu (by omega)).symm, ld.trans l.symm, rfl, fun k hk => ⟨?_, (cg k hk).symm⟩⟩
  rw [ad k (l ▸ hk)]
  exact Nat.le_add_right _ _
end Lk
end
section
set_option maxRecDepth 100000
set_option maxHeartbeats 2000000
/-! One tree just where there is one sign. -/
namespace Lk
open PySem PySem.Spec PyProof.Rows L2
theorem orbit {C : Cd} (h : COk C) (f : Free C) (h0 : Home0 C) {N : Nat} (hN : Home0 (it N C)) : ∃ j, it N C = (C.1, C.2.map (· + j * C.2.length)) := by
  have hp : 0 < C.2.length := Nat.lt_of_le_of_lt (Nat.zero_le _) h
  obtain ⟨z1, z2⟩ := h0
  obtain ⟨y1, y2⟩ := hN
  rw [it_len] at y2
  have mono := len_mono N 0 h
  obtain ⟨j, hj⟩ : ∃ j, len (it N C) 0 = len C 0 + j * C.2.length := by
    have d1 := Nat.dvd_of_mod_eq_zero z2
    have d2 := Nat.dvd_of_mod_eq_zero y2
    obtain ⟨a, ha⟩ := d1
    obtain ⟨b, hb⟩ := d2
    refine ⟨b - a, ?_⟩
    have ab : a ≤ b := Nat.le_of_mul_le_mul_left (by rw [← ha, ← hb]; exact mono) hp
    rw [ha, hb, Nat.mul_comm (b - a), Nat.mul_sub]
    have := Nat.mul_le_mul_left C.2.length ab
    omega
  have e := it_rounds h f j
  have el : len (it (j * (C.2.length * C.2.length)) C) 0 = len C 0 + j * C.2.length := by
    rw [e]
    exact getD_map_add _ _ hp
  have eh : (it (j * (C.2.length * C.2.length)) C).1 = 0 := by rw [e]; exact z1
  refine ⟨j, ?_⟩
  generalize j * (C.2.length * C.2.length) = M at e el eh
  rcases Nat.lt_trichotomy N M with l | l | l
  · exfalso
    have s := len_nx_same (it_ok N h)
    rw [y1] at s
    have m := len_mono (M - (N + 1)) 0 (it_ok (N + 1) h)
    rw [← it_add, show N + 1 + (M - (N + 1)) = M by omega, it_succ] at m
    omega
  · rw [l]
    exact e
  · exfalso
    have s := len_nx_same (it_ok M h)
    rw [eh] at s
    have m := len_mono (N - (M + 1)) 0 (it_ok (M + 1) h)
    rw [← it_add, show M + 1 + (N - (M + 1)) = N by omega, it_succ] at m
    omega
theorem gos_cong {c d : Cd} (l : c.2.length = d.2.length) (h : ∀ k, k < c.2.length → len c k % c.2.length = len d k % c.2.length) : gos c = gos d := by
  refine List.ext_getElem? fun i => ?_
  by_cases hi : i < c.2.length
  · rw [gos_at hi, gos_at (l ▸ hi), go_cong l (h i hi)]
  · rw [List.getElem?_eq_none (by rw [gos_len]; omega), List.getElem?_eq_none (by rw [gos_len]; omega)]
theorem len_of_go {c d : Cd} (l : c.2.length = d.2.length) {i : Nat} (h : go c i = go d i) : len c i % c.2.length = len d i % c.2.length := by
  unfold go at h
  rw [← l] at h
  have z : ((i : Int) + len c i) % (c.2.length : Int) = ((i : Int) + len d i) % (c.2.length : Int) := by
    have y := congrArg (fun n : Nat => (n : Int)) h
    simpa using y
  have z2 : ((len c i : Nat) : Int) % (c.2.length : Int) = ((len d i : Nat) : Int) % (c.2.length : Int) := by
    refine Int.emod_emod_of_dvd _ (Int.dvd_refl _) ▸ ?_
    have a := Int.emod_emod_of_dvd (((i : Int) + len c i)) (Int.dvd_refl (c.2.length : Int))
    have b : (((i : Int) + len c i) - i) % (c.2.length : Int) = (((i : Int) + len d i) - i) % (c.2.length : Int) := by rw [Int.sub_emod, z, ← Int.sub_emod]
    rw [show (i : Int) + len c i - i = len c i by omega, show (i : Int) + len d i - i = len d i by omega] at b
    simpa using b
  exact Int.ofNat.inj (by simpa using z2)
/-- one tree just where there is one sign -/
theorem tree_sgn {c d : Cd} {t u : List Nat} (hc : COk c) (hd : COk d) (l : d.2.length = c.2.length) (a : TreeOf c t) (b : TreeOf d u) : t = u ↔ sgn c = sgn d := by
  obtain ⟨n, j, an, ⟨hm, _⟩, rfl⟩ := a
  obtain ⟨m, k, bm, ⟨hk, _⟩, rfl⟩ := b
  rw [← it_add] at hm hk
  have frC : Free (it (n + j) c) := by rw [it_add]; exact free_it j (it_ok n hc) an.1
  have frD : Free (it (m + k) d) := by rw [it_add]; exact free_it k (it_ok m hd) bm.1
  have okC := it_ok (n + j) hc
  have okD := it_ok (m + k) hd
  rw [← sgn_it (n + j) hc, ← sgn_it (m + k) hd]
  have lC : (it (n + j) c).2.length = c.2.length := it_len _
  have lD : (it (m + k) d).2.length = d.2.length := it_len _
  generalize it (n + j) c = C at hm frC okC lC
  generalize it (m + k) d = D at hk frD okD lD
  have lcd : C.2.length = D.2.length := by rw [lC, lD, l]
  constructor
  · intro e
    refine sgn_cong lcd (hm.1.trans hk.1.symm) fun i hi => ?_
    by_cases g : i = 0
    · subst g
      rw [hm.2, lcd, hk.2]
    · refine len_of_go lcd ?_
      have z := congrArg (fun x : List Nat => x[i - 1]?) e
      simp only [List.getElem?_drop] at z
      rw [show 1 + (i - 1) = i by omega, gos_at hi, gos_at (lcd ▸ hi)] at z
      exact Option.some.inj z
  · intro e
    obtain ⟨N, d', hN, ld, h1, hl⟩ := sgn_best okC okD lcd.symm frD e
    have pos : 0 < D.2.length := Nat.lt_of_le_of_lt (Nat.zero_le _) okD
    have hd0 : Home0 (it N C) := by
      rw [hN]
      refine ⟨h1.trans hk.1, ?_⟩
      rw [ld, (hl 0 pos).2]
      exact hk.2
    obtain ⟨q, hq⟩ := orbit okC frC hm hd0
    have e1 : gos C = gos (it N C) := by
      refine gos_cong (it_len N).symm fun i hi => ?_
      rw [hq]
      show _ = ((C.2.map (· + q * C.2.length)).getD i 0) % C.2.length
      rw [getD_map_add _ _ hi, Nat.add_mul_mod_self_right]
      rfl
    have e2 : gos d' = gos D := gos_cong ld fun i hi => by
      rw [ld] at hi ⊢
      exact (hl i hi).2
    rw [e1, hN, e2]
end Lk
end
section
set_option maxRecDepth 100000
set_option maxHeartbeats 2000000
/-! sum of a tuple of ints. -/
namespace Lk
open PySem PySem.Spec PyProof.Rows L2
section
variable {prog : Program} {w : World} {A : Around} {E : Value → Shared → Prop} {s : Shared} {l : Addr}
theorem sum_tupRaw {its : List Value} {ns : List Int} {Q : Value → Shared → Prop} (hh : A.handled = none) (hl : s.heap.IsTuple l its.toArray) (hi : IntsAre its ns)
    (h : ∀ h' tk t', (∀ b o, s.heap.get? b = some o → h'.get? b = some o) → Q (.int ns.sum t') { s with heap := h', toks := tk }) : wpAny (model prog w) A (call (.builtin "sum") [.ref l]) Q E s := by
  obtain ⟨xs, e⟩ := hi.allInts.items
  have hn : numsOf (intItems xs).toList = ns := by rw [← e]; exact hi.numsOf
  rw [nums_intItems] at hn
  rw [e] at hl
  have hll : l < s.heap.objs.size := by obtain ⟨o, ho, _⟩ := id hl; exact Heap.lt_size ho
  have hne2 : l ≠ s.heap.objs.size := Nat.ne_of_lt hll
  refine PySem.call_sum_walkG (wpAny_pyIter_tuple hl ?_)
  refine ⟨s.heap.objs.size, _, _, _, _, _, numAt xs, rfl, Walks.tuple (A := A.in1) hh _ l hne2 (intItems xs), ⟨?_, ?_⟩, fun b hb => ?_, (fun _ _ => intItems_at), fun h' tk t' hk => ?_⟩
  · exact ⟨_, Heap.get?_push_size _ rfl, rfl, rfl⟩
  · exact hl.at fun o e => Heap.get?_push_of_some _ e
  · rw [Heap.size_push]
    rcases List.mem_cons.mp hb with z | z
    · rw [z]; exact Nat.lt_succ_self _
    · rw [List.mem_singleton.mp z]; exact Nat.lt_succ_of_lt hll
  · have g := h h' tk t' fun b o e => hk b o (fun hb => by
      have z := Heap.lt_size e
      rw [List.mem_singleton.mp hb] at z
      exact Nat.lt_irrefl _ z) (Heap.get?_push_of_some _ e)
    have e3 : preSum (numAt xs) (intItems xs).size = ns.sum := by
      rw [show (intItems xs).size = xs.size by simp [intItems], preSum_eq, List.take_of_length_le (by simp), hn]
    rw [e3]
    exact g
end
def rSumT (K : PySem.W.Frag) : List V → Hp → VK → Prop := fun vs H Q => ∃ (a : Addr) (ns : List Int), vs = [V.ref a] ∧ SqT K H a (ns.map V.int) ∧ Q (.int ns.sum) H
theorem cr_sumT {X : Cx} (hc : X.calm = true) : CallR X (.builtin "sum") (rSumT X.K) := by
  intro pins s σ H vs us Q I r h
  obtain ⟨a, ns, rfl, hs, q⟩ := h
  obtain ⟨its, rv, hl, _⟩ := I.tuple hs
  rw [Vals.ref1 r]
  exact sum_tupRaw (I.ok.hd hc) hl rv.ints fun h' tk t' hk => ⟨.int _, H, I.kept hk, ⟨_, rfl⟩, q⟩
theorem sum_vN : ∀ t : List Nat, ∃ ns : List Int, t.map vN = ns.map V.int ∧ ns.sum = ((t.sum : Nat) : Int)
  | [] => ⟨[], rfl, rfl⟩
  | n :: t => by
    obtain ⟨ns, e, h⟩ := sum_vN t
    refine ⟨(n : Int) :: ns, ?_, ?_⟩
    · rw [List.map_cons, List.map_cons, e]
    · rw [List.sum_cons, List.sum_cons, h, Int.natCast_add]
end Lk
end
section
set_option maxRecDepth 100000
set_option maxHeartbeats 2000000
/-! t[::-1] of a tuple. -/
namespace Lk
open PySem PySem.Spec PyProof.Rows L2 HT
section
variable {prog : Program} {w : World} {A : Around} {E : Value → Shared → Prop} {s : Shared}
theorem sliceApplied_rev {sl : Addr} {vk : Value} {n : Nat} {Q : Int × Int × Nat → Shared → Prop} (hs : s.heap.IsSliceOf sl .none .none vk) (pk : IsPart vk (some (-1)))
    (h : Q ((n : Int) - 1, -1, n) s) : wpAny (model prog w) A (Builtin.Slice.sliceApplied (.ref sl) (pure (n : Int))) Q E s := by
  obtain ⟨os, hos, hcs, hds⟩ := id hs
  unfold Builtin.Slice.sliceApplied Builtin.Slice.sliceFields
  refine wpAny_bind (wpAny_bind (wpAny_field hos hds (x := .none) rfl (wpAny_bind (wpAny_field hos hds (x := .none) rfl (wpAny_bind (wpAny_field hos hds (x := vk) rfl (wpAny_pure ?_)))))))
  refine wpAny_bind (slicePart_ pk ?_)
  show wpAny _ _ (if ((-1 : Int) == 0) = true then _ else _) _ _ s
  rw [if_neg (by decide)]
  refine wpAny_bind (slicePart_none (wpAny_bind (slicePart_none (wpAny_bind (wpAny_pure ?_)))))
  have e : Builtin.Slice.sliceAdjust none none (-1) (n : Int) = ((n : Int) - 1, -1) := by
    unfold Builtin.Slice.sliceAdjust
    simp
  have e2 : Builtin.Slice.slicePlaces ((n : Int) - 1) (-1) (-1) = n := by
    unfold Builtin.Slice.slicePlaces
    have h1 : ¬ ((-1 : Int) > 0) := by decide
    simp only [h1, if_false]
    by_cases g : (n : Int) - 1 > -1
    · rw [if_pos g, show (- -1 : Int) = 1 by decide, Int.ediv_one]
      omega
    · rw [if_neg g]
      show (0 : Nat) = n
      omega
  show wpAny _ _ (match Builtin.Slice.sliceAdjust none none (-1) (n : Int) with | (lo, hi) => pure (lo, (-1 : Int), Builtin.Slice.slicePlaces lo hi (-1))) _ _ s
  rw [e]
  show wpAny _ _ (pure ((n : Int) - 1, (-1 : Int), Builtin.Slice.slicePlaces ((n : Int) - 1) (-1) (-1))) _ _ s
  rw [e2]
  exact wpAny_pure h
theorem fm_congr {α β : Type} {f g : α → Option β} : ∀ l : List α, (∀ a, a ∈ l → f a = g a) → l.filterMap f = l.filterMap g
  | [], _ => rfl
  | a :: l, h => by
    rw [List.filterMap_cons, List.filterMap_cons, h a List.mem_cons_self, fm_congr l fun b hb => h b (List.mem_cons_of_mem _ hb)]
theorem fm_all {α : Type} : ∀ l : List α, (List.range l.length).filterMap (fun m => l[m]?) = l
  | [] => rfl
  | a :: l => by
    rw [List.length_cons, List.range_succ_eq_map, List.filterMap_cons, List.filterMap_map]
    show a :: (List.range l.length).filterMap (fun m => (a :: l)[m + 1]?) = a :: l
    congr 1
    exact fm_all l
theorem pick_rev (xs : Array Value) : ((List.range xs.size).filterMap fun (m : Nat) => xs[(((xs.size : Int) - 1) + (m : Int) * -1).toNat]?).toArray = xs.toList.reverse.toArray := by
  congr 1
  have e : ∀ m, m ∈ List.range xs.size → xs[(((xs.size : Int) - 1) + (m : Int) * -1).toNat]? = xs.toList.reverse[m]? := by
    intro m hm
    have hm := List.mem_range.mp hm
    rw [List.getElem?_reverse (by rw [Array.length_toList]; exact hm), Array.length_toList, ← Array.getElem?_toList]
    congr 1
    omega
  rw [fm_congr _ e]
  have z := fm_all xs.toList.reverse
  rw [List.length_reverse, Array.length_toList] at z
  exact z
theorem getItem_tuple_rev {t sl : Addr} {items : Array Value} {vk : Value} {Q : Value → Shared → Prop} (ht : IsTup s.heap t items) (hs : s.heap.IsSliceOf sl .none .none vk) (pk : IsPart vk (some (-1)))
    (h : Q (.ref s.heap.objs.size) { s with heap := s.heap.push { cls := .type "tuple", data := .seq items.toList.reverse.toArray } })
    (hsz : items.size ≤ sizeLine) : wpAny (model prog w) A (getItem (.ref t) (.ref sl)) Q E s := by
  have htake : sizeOk (.seq items.toList.reverse.toArray) := by
    show items.toList.reverse.toArray.size ≤ sizeLine
    rw [List.size_toArray, List.length_reverse, Array.length_toList]
    exact hsz
  obtain ⟨os, hos, hcs, hds⟩ := id hs
  have hTs : s.TypeIs (.ref sl) "slice" := ⟨os, hos, hcs⟩
  unfold getItem
  try with_reducible refine wpAny_holding ?_
  first | refine wpAny_bind (wpAny_pure ?_) | skip
  refine wpAny_bind (wpAny_sequenceKey ht.typeIs (by decide) ?_)
  refine wpAny_bind (wpAny_callSpecial?_slot (name := Str.ofString "__getitem__") ht.typeIs PyProof.Rows.slot_tuple_getitem
    (wpAny_call_entry PyProof.Rows.slot_tuple_getitem ht.typeIs entry_tuple_getitem ?_ (args_tuple_getitem _ _)))
  show wpAny _ _ (Builtin.Tuple.tupleItemsOf (.ref t) >>= _) _ _ s
  refine wpAny_bind (tupleItemsOf_ ht ?_)
  refine wpAny_bind (wpAny_typeOf hTs ?_)
  rw [if_pos (by decide)]
  refine wpAny_bind (sliceApplied_rev hs pk ?_)
  have hno : ¬ ((((items.size : Int) - 1) == 0 && (-1 : Int) == 1 && items.size == items.size) = true) := by
    intro q
    rw [Bool.and_eq_true, Bool.and_eq_true] at q
    exact absurd q.1.2 (by decide)
  show wpAny _ _ (if (((items.size : Int) - 1) == 0 && (-1 : Int) == 1 && items.size == items.size) = true then _ else _) _ _ s
  rw [if_neg hno, pick_rev]
  first
    | exact wpAny_bind (m := Builtin.Tuple.tupleExact _) (wpAny_newObj_type (wpAny_pure ⟨_, rfl, wpAny_pure h⟩) htake)
    | exact wpAny_bind (m := Builtin.Tuple.tupleExact _) (wpAny_newObj_type (wpAny_bind (wpAny_pure (wpAny_pure ⟨_, rfl, wpAny_pure h⟩))) htake)
    | exact wpAny_bind (wpAny_bind (m := Builtin.Tuple.tupleExact _) (wpAny_newObj_type (wpAny_pure (wpAny_pure ⟨_, rfl, wpAny_pure h⟩)) htake))
    | exact wpAny_bind (wpAny_bind (m := Builtin.Tuple.tupleExact _) (wpAny_newObj_type (wpAny_pure ⟨_, rfl, wpAny_pure h⟩) htake))
end
def tRv (K : PySem.W.Frag) (te : TE) (ts : TO) : TE := fun σ H Q => te σ H fun x H1 => ts σ H1 fun k H2 => k = some (-1) ∧ ∃ a xs, x = .ref a ∧ SqT K H2 a xs ∧ ∀ p H3, H2 p = none → Same H2 H3 → H3 p = some (.tup xs.reverse) → Q (.ref p) H3
section
variable {X : Cx} {e : Expr} {te : TE} {st : Option Expr} {ts : TO}
theorem pe_revT {p2 pos : Pos} (he : PE X e te) (hk : PO X st ts) (hsub : ∀ v u, ∃ ops, subscripted (.Slice none none st p2) false v u = operate ops (getItem v u) := by intros; exact ⟨_, by with_unfolding_all rfl⟩) : PE X (.Subscript e (.Slice none none st p2) pos) (tRv X.K te ts) := by
  refine ⟨fun pins s σ H Q I h => ?_⟩
  refine Subscript_ (thn (he.run pins s σ H _ I h) fun v s1 ⟨x, H1, I1, r1, q1⟩ => ?_)
  refine wpAny_Slice ?_
  rw [evalPart_none]
  refine wpAny_pure (wpAny_pure ?_)
  refine thn (hk.run pins s1 σ H1 _ I1 q1) fun vk s3 ⟨k, H3, I3, pk, q3⟩ => ?_
  obtain ⟨rfl, a, xs, rfl, hx, q⟩ := q3
  have I4 : Inv X pins σ H3 { s3 with heap := s3.heap.push { cls := .type "slice", data := .fields #[.none, .none, vk] } } := I3.kept (t' := s3.toks) fun b ob q => Heap.get?_push_of_some _ q
  cases r1
  obtain ⟨its, r, ht, hz⟩ := I4.tuple hx
  have hlen : its.toArray.size = xs.length := by rw [List.size_toArray]; exact r.length.symm
  obtain ⟨ops, hops⟩ := hsub (.ref a) (.ref s3.heap.objs.size)
  refine tail_any (ops := ops) ht.typeIs PyProof.Rows.slot_tuple_getitem.lookup (getItem_tuple_rev ht (Heap.IsSliceOf.new ..) pk ?_ (by rw [hlen]; exact hz)) hops
  refine ⟨.ref _, _, I4.laid (t' := s3.toks) (o := .tup xs.reverse) (fun b ob q => Heap.get?_push_of_some _ q) (Nat.le_refl _) ?_, rfl, q _ _ (I4.hok.fresh (Nat.le_refl _)) (same_new (I4.hok.fresh (Nat.le_refl _))) upd_same⟩
  refine ⟨by rw [List.length_reverse]; exact hz, _, r.reverse, IsTup.new _ _⟩
end
end Lk
end
section
set_option maxRecDepth 100000
set_option maxHeartbeats 2000000
/-! Signs. -/
namespace Lk
open PySem PySem.Spec PyProof.Rows L2
/-- what is a sign of p places -/
def IsSg (p : Nat) (d : PyData) : Prop := ∃ t : List Nat, d = tD t ∧ t.length = p ∧ (∀ x ∈ t, x < p) ∧ t.getD 0 0 = 0 ∧ t.sum % p = 1 % p
def spIsSign (C : Addr) : Sp := fun vs H Q E => ∃ u v e d, vs = [u, v] ∧ Th H u e ∧ Th H v d ∧ (inR e 1 12 = false → ∀ H', Same H H' → E (.ref C) none H') ∧
  (∀ p : Nat, e = .int (p : Int) → 1 ≤ p → p ≤ 12 → ∀ b H', (b = true ↔ IsSg p d) → Same H H' → Q (.bl b) H')
def spDueS : Sp := fun vs H Q _ => ∃ (p : Nat) (v : V) (d : PyData), vs = [.int (p : Int), v] ∧ Th H v d ∧ 1 ≤ p ∧ p ≤ 12 ∧ ∀ b H', (b = true ↔ IsSg p d) → Same H H' → Q (.bl b) H'
def spDSign : Sp := fun vs H Q _ => ∃ (a : Addr) (p : Nat) (n : Int), vs = [.ref a, .int (p : Int)] ∧ Urn H a n ∧ n ≤ 99000 ∧ 1 ≤ p ∧ p ≤ 12 ∧
  ∀ (t : List Nat) (pt : Addr) H', t.length = p → (∀ x ∈ t, x < p) → t.getD 0 0 = 0 → t.sum % p = 1 % p → Urn H' a (n + 30) → SameBut a H H' → H pt = none → H' pt = some (.tup (t.map vN)) → Q (.ref pt) H'
/-- the two ways in which it is said that the sum is one more than nought -/
theorem sum_one {p : Nat} (h : 1 ≤ p) (s : Nat) : ((s : Int) - 1) % (p : Int) = 0 ↔ s % p = 1 % p := by
  constructor
  · intro e
    obtain ⟨k, hk⟩ := Int.dvd_of_emod_eq_zero e
    rcases Nat.eq_zero_or_pos s with z | z
    · subst z
      have hk2 : (p : Int) * (-k) = 1 := by
        rw [Int.mul_neg]
        omega
      have hp : (p : Int) ∣ 1 := ⟨_, hk2.symm⟩
      have : p ∣ 1 := Int.natCast_dvd_natCast.mp hp
      have p1 : p = 1 := Nat.dvd_one.mp this
      subst p1
      simp
    · have e2 : ((s - 1 : Nat) : Int) % (p : Int) = 0 := by
        rw [show ((s - 1 : Nat) : Int) = (s : Int) - 1 by omega]
        exact e
      have e3 : (s - 1) % p = 0 := by
        rw [← Int.natCast_emod] at e2
        omega
      rw [show s = (s - 1) + 1 by omega, Nat.add_mod, e3, Nat.zero_add, Nat.mod_mod]
  · intro e
    have e2 : (s : Int) % (p : Int) = 1 % (p : Int) := by
      have z : ((s % p : Nat) : Int) = ((1 % p : Nat) : Int) := congrArg _ e
      rw [Int.natCast_emod, Int.natCast_emod] at z
      exact z
    exact Int.emod_eq_zero_of_dvd (Int.dvd_of_emod_eq_zero (by rw [Int.sub_emod, e2, Int.sub_self, Int.zero_emod]))
theorem sign_drawn {p : Nat} (p1 : 1 ≤ p) (ls : List Nat) (hl : ls.length = p - 2) (hb : ∀ x ∈ ls, x < p) (r : Nat) (hr : (r : Int) = (1 - ((ls.sum : Nat) : Int)) % (p : Int)) (t : List Nat) (ht : t = (0 :: (ls ++ [r])).take p) :
    t.length = p ∧ (∀ x ∈ t, x < p) ∧ t.getD 0 0 = 0 ∧ t.sum % p = 1 % p := by
  have hr0 : 0 ≤ (r : Int) := Int.natCast_nonneg r
  have hr1 : (r : Int) < (p : Int) := by rw [hr]; exact Int.emod_lt_of_pos _ (by omega)
  have all : ∀ x ∈ (0 :: (ls ++ [r])), x < p := fun x hx => by
    rcases List.mem_cons.mp hx with e | h
    · omega
    · rcases List.mem_append.mp h with h | h
      · exact hb x h
      · rw [List.mem_singleton.mp h]
        omega
  subst ht
  refine ⟨?_, fun x hx => all x (List.mem_of_mem_take hx), ?_, ?_⟩
  · rw [List.length_take, List.length_cons, List.length_append, hl]
    show min p (p - 2 + 1 + 1) = p
    omega
  · cases p with
    | zero => omega
    | succ p => rfl
  · rcases Nat.lt_or_ge p 2 with h | h
    · have e : p = 1 := by omega
      subst e
      show (0 : Nat) % 1 = 1 % 1
      rfl
    · rw [List.take_of_length_le (by rw [List.length_cons, List.length_append, hl]; show p - 2 + 1 + 1 ≤ p; omega), List.sum_cons, List.sum_append, List.sum_singleton, Nat.zero_add]
      have z : (((ls.sum + r) % p : Nat) : Int) = ((1 % p : Nat) : Int) := by
        rw [Int.natCast_emod, Int.natCast_add, hr, Int.add_emod_emod, show ((ls.sum : Nat) : Int) + (1 - ((ls.sum : Nat) : Int)) = 1 by omega, Int.natCast_emod]
        rfl
      exact Int.ofNat.inj z
end Lk
end
section
set_option maxRecDepth 100000
set_option maxHeartbeats 2000000
/-! xs[i] += e of a list. -/
namespace Lk
open PySem PySem.Spec PyProof.Rows L2
theorem get_list {X : Cx} : PGet X (rIxL X.K) := by
  intro pins s σ H x y v u Q I rx ry h
  obtain ⟨p, xs, i, z, rfl, rfl, hq, he, q⟩ := h
  cases rx
  obtain ⟨t, rfl⟩ := ry
  obtain ⟨its, r, pl, hz⟩ := I.list hq
  obtain ⟨j, h1, h2, h3, h4, h5⟩ := atI_get he
  obtain ⟨w, ew, rw'⟩ := r.get h2
  have hl := r.length
  have hn := line63
  have fin : EP X pins σ Q w s := ⟨z, H, I, rw', q⟩
  by_cases h0 : 0 ≤ i
  · have hj : i.toNat = j := by
      rw [seqIndex_of h0 h5] at h1
      exact Option.some.inj h1
    exact wpAny_getItem_list pl.isList h0 (by omega) (by rw [hj]; simpa using ew) fin
  · have hj : (i + (its.toArray.size : Int)).toNat = j := by
      rw [seqIndex_neg (by omega) h4] at h1
      rw [List.size_toArray, ← hl]
      exact Option.some.inj h1
    exact wpAny_getItem_list_neg pl.isList (by omega) (by rw [List.size_toArray] <;> omega) (by omega) (by rw [hj]; simpa using ew) fin
end Lk
end
section
set_option maxRecDepth 100000
set_option maxHeartbeats 2000000
/-! zip of a tuple and a list. -/
namespace Lk
open PySem PySem.Spec PyProof.Rows L2
/-- the tuple at a, the list at b, their items in new pairs -/
def ItzM (K : PySem.W.Frag) (a b : Addr) : It :=
  ⟨fun i H => ∃ (xs ys : List V) (x y : V), SqT K H a xs ∧ SqL K H b ys ∧ xs[i]? = some x ∧ ys[i]? = some y,
    fun i H v H' => ∃ T x y, v = .ref T ∧ H T = none ∧ H' = upd H T (.tup [x, y]) ∧ (∀ xs, SqT K H a xs → xs[i]? = some x) ∧ ∀ ys, SqL K H b ys → ys[i]? = some y,
    fun i H => ∃ xs ys : List V, SqT K H a xs ∧ SqL K H b ys ∧ (xs.length ≤ i ∨ ys.length ≤ i) ∧ i ≤ xs.length ∧ i ≤ ys.length⟩
theorem walk_zipM {K : PySem.W.Frag} {a b : Addr} {xs ys : List V} (hl : xs.length = ys.length) : Walk (ItzM K a b) xs.length (fun H => SqT K H a xs ∧ SqL K H b ys) (YPair (fun i => xs[i]?) (fun i => ys[i]?)) := by
  refine ⟨fun i _ hi q => ⟨xs, ys, xs[i], ys[i], q.1, q.2, by simp [hi], by simp⟩, fun _ q => ⟨xs, ys, q.1, q.2, .inl (Nat.le_refl _), Nat.le_refl _, by omega⟩, fun i H v H2 _ q ⟨T, x, y, h1, h2, h3, h4, h5⟩ => ?_⟩
  exact ⟨T, x, y, h1, h2, h3, h4 xs q.1, h5 ys q.2⟩
theorem turn_zipM {P : Program} {w : World} {K : PySem.W.Frag} {elts : List Expr} {kk : Nat} {tpos : Pos} {a b z TI TO i1 i2 : Addr} (D : ZipApart z TI TO i1 i2 a b) :
    Turn P w K (.Tuple elts kk tpos) (ItzM K a b) [z, TI, TO, i1, i2] z (fun i h => IsZip h z TI TO .none ∧ IsTupOf2 h TI (.ref i1) (.ref i2) ∧ (∃ x y, IsTupOf2 h TO x y) ∧ h.IsTupleIter i1 a i ∧ h.IsListIter i2 b i) where
  mem := by simp
  obj := fun i h st c hc => by
    obtain ⟨hz, hTI, ⟨x, y, hTO⟩, ⟨o1, e1, _, d1⟩, ⟨o2, e2, _, d2⟩⟩ := st
    have e' : c = z ∨ c = TI ∨ c = TO ∨ c = i1 ∨ c = i2 := by simpa using hc
    rcases e' with q | q | q | q | q
    · rw [q]; exact ⟨_, hz, fun v q => nomatch q⟩
    · rw [q]; exact ⟨_, hTI, fun v q => nomatch q⟩
    · rw [q]; exact ⟨_, hTO, fun v q => nomatch q⟩
    · rw [q]; exact ⟨o1, e1, fun v q => by rw [d1] at q; cases q⟩
    · rw [q]; exact ⟨o2, e2, fun v q => by rw [d2] at q; cases q⟩
  keep := fun i h h' st k => by
    obtain ⟨hz, hTI, ⟨x, y, hTO⟩, h1, h2⟩ := st
    exact ⟨k z (by simp) _ hz, k TI (by simp) _ hTI, ⟨x, y, k TO (by simp) _ hTO⟩, h1.at fun o q => k i1 (by simp) o q, h2.at fun o q => k i2 (by simp) o q⟩
  item := by
    intro X hP hw hK hc i pins s σ H E I hf st hg
    subst hP hw hK
    obtain ⟨hz, hTI, ⟨x0, y0, hTO⟩, h1, h2⟩ := st
    obtain ⟨xs, ys, x, y, hqx, hqy, hx, hy⟩ := hg
    obtain ⟨its, rv, p, _⟩ := I.tuple hqx
    obtain ⟨its2, rv2, p2, _⟩ := I.list hqy
    obtain ⟨u, hu, ru⟩ := rv.get hx
    obtain ⟨u2, hu2, ru2⟩ := rv2.get hy
    have hzl : z < s.heap.objs.size := Heap.lt_size hz
    have S : ZipSep2 z TI TO i1 i2 [i1, a] [i2, b] := ⟨D.TIz, D.TOz, D.TITO, D.TIi1, by simp, by simp [D.i1z.symm, D.l1z.symm], by simp [D.TOi1, D.l1TO.symm], D.TIi2, by simp, by simp [D.i2z.symm, D.l2z.symm], by simp [D.TOi2, D.l2TO.symm], by simp [D.i12, D.l2i1.symm], by simp [D.i12.symm, D.l1i2.symm]⟩
    have hi1 : i < its.toArray.size := by rw [List.size_toArray]; exact (List.getElem?_eq_some_iff.mp hu).1
    have hi2 : i < its2.toArray.size := by rw [List.size_toArray]; exact (List.getElem?_eq_some_iff.mp hu2).1
    have hn : X.A.in1.handled = none := I.ok.hd hc
    refine wpAny_pyNext_zipD2_item S (Draws.tuple hn i1 a D.l1i1 its.toArray) (Draws.list hn i2 b D.l2i2 its2.toArray) hz hTI hTO ⟨h1, (show s.heap.IsTuple a its.toArray from p)⟩ ⟨h2, p2.isList⟩ hi1 hi2 fun v1 v2 h' tk' hv1 hv2 z' TO' h1' h2' hT hsz hk => ?_
    have e1 : v1 = u := by
      have q : its.toArray[i]? = some v1 := hv1
      rw [List.getElem?_toArray, hu] at q
      exact (Option.some.inj q).symm
    have e2 : v2 = u2 := by
      have q : its2.toArray[i]? = some v2 := hv2
      rw [List.getElem?_toArray, hu2] at q
      exact (Option.some.inj q).symm
    subst e1 e2
    refine ⟨_, rfl, wpAny_letOwnedTupleGo_zip (s := { s with heap := h', toks := tk' }) z' fun h'' z'' sb => ?_⟩
    have hT2 : h''.get? s.heap.objs.size = some { cls := .type "tuple", data := .seq #[v1, v2] } := (sb.2 _ (Nat.ne_of_gt hzl)).trans hT
    have new : ObjOk X.prog X.w (upd H s.heap.objs.size (.tup [x, y])) h'' s.heap.objs.size (.tup [x, y]) :=
      ⟨by show 2 ≤ sizeLine; decide, [v1, v2], .cons ru (.cons ru2 .nil), ⟨_, hT2, rfl, _, rfl⟩⟩
    have I1 : Inv X pins σ (upd H s.heap.objs.size (.tup [x, y])) { s with heap := h'', toks := tk' } :=
      I.turnedNew (t' := tk') (ch := [z, TI, TO, i1, i2]) (fun c o hb q => (sb.2 c (fun q' => hb (by simp [q']))).trans (hk c o (fun q' => hb (by simp [q'])) (fun q' => hb (by simp [q'])) (fun q' => hb (by simp [q'])) (fun q' => hb (by simp [q'])) q)) hf (Nat.le_refl _) new
    refine ⟨.ref s.heap.objs.size, _, I1, rfl, ⟨_, x, y, rfl, I.hok.fresh (Nat.le_refl _), rfl, fun l hl => by rw [I.tuple_inj hl hqx]; exact hx, fun l hl => by rw [I.list_inj hl hqy]; exact hy⟩, ⟨z'', ?_, ⟨v1, v2, ?_⟩, ?_, ?_⟩, fun c hcm => ?_⟩
    · exact (sb.2 _ D.TIz).trans (hk _ _ D.TIz D.TITO D.TIi1 D.TIi2 hTI)
    · exact (sb.2 _ D.TOz).trans TO'
    · exact h1'.1.at fun o q => (sb.2 _ D.i1z).trans q
    · exact h2'.1.at fun o q => (sb.2 _ D.i2z).trans q
    · have hlt : c < s.heap.objs.size := by
        have e' : c = z ∨ c = TI ∨ c = TO ∨ c = i1 ∨ c = i2 := by simpa using hcm
        rcases e' with q | q | q | q | q
        · rw [q]; exact hzl
        · rw [q]; exact Heap.lt_size hTI
        · rw [q]; exact Heap.lt_size hTO
        · rw [q]; obtain ⟨_, e1, _⟩ := h1; exact Heap.lt_size e1
        · rw [q]; obtain ⟨_, e2, _⟩ := h2; exact Heap.lt_size e2
      rw [upd_ne (Nat.ne_of_lt hlt)]
      exact (hf c hcm).1
  done := by
    intro X hP hw hK hc i pins s σ H E I hf st hg
    subst hP hw hK
    obtain ⟨hz, hTI, ⟨x0, y0, hTO⟩, h1, h2⟩ := st
    obtain ⟨xs, ys, hqx, hqy, hend, g1, g2⟩ := hg
    obtain ⟨its, rv, p, _⟩ := I.tuple hqx
    obtain ⟨its2, rv2, p2, _⟩ := I.list hqy
    have l1 := rv.length
    have l2 := rv2.length
    have S : ZipSep2 z TI TO i1 i2 [i1, a] [i2, b] := ⟨D.TIz, D.TOz, D.TITO, D.TIi1, by simp, by simp [D.i1z.symm, D.l1z.symm], by simp [D.TOi1, D.l1TO.symm], D.TIi2, by simp, by simp [D.i2z.symm, D.l2z.symm], by simp [D.TOi2, D.l2TO.symm], by simp [D.i12, D.l2i1.symm], by simp [D.i12.symm, D.l1i2.symm]⟩
    have hn : X.A.in1.handled = none := I.ok.hd hc
    have s1 : its.toArray.size = xs.length := by rw [List.size_toArray, ← l1]
    have s2 : its2.toArray.size = ys.length := by rw [List.size_toArray, ← l2]
    refine wpAny_pyNext_zipD2_end S (Draws.tuple hn i1 a D.l1i1 its.toArray) (Draws.list hn i2 b D.l2i2 its2.toArray) hz hTI hTO ⟨h1, (show s.heap.IsTuple a its.toArray from p)⟩ ⟨h2, p2.isList⟩ (by omega) (by omega) (by omega) fun h' tk' hk => ⟨rfl, I.turnedL (t' := tk') (ch := [z, TI, TO, i1, i2]) (fun c o hb q =>
      hk c o (fun q' => hb (by simp [q'])) (fun q' => hb (by simp [q'])) (fun q' => hb (by simp [q'])) (fun q' => hb (by simp [q'])) q) hf⟩
  self := fun A i s Q E st h => wpAny_pyIter_zip st.1 h
def iZipM (K : PySem.W.Frag) (ta : TA) : TI := fun σ H R => ta σ H fun vs H1 => ∃ a b xs ys, vs = [.ref a, .ref b] ∧ SqT K H1 a xs ∧ SqL K H1 b ys ∧ R (ItzM K a b) H1
theorem pi_zipM {X : Cx} {e e2 : Expr} {ta : TA} {p pos tpos : Pos} {elts : List Expr} {kk : Nat} (hg : Gl X "zip") (hm : X.mg "zip" = none) (ha : PA X [e, e2] ta)
    (hs : starEach [e, e2] X.env = (false, eval e X.env) :: starEach [e2] X.env := by rfl) (hpl : (backTo pos (starEach [e2] X.env)).any (·.1) = false := by rfl) :
    PI X (.Tuple elts kk tpos) (.Call (.Name "zip" p) [e, e2] [] pos) (iZipM X.K ta) := by
  refine ⟨fun pins s σ H R I h => ?_⟩
  refine Call_ (ld_blt I hg hm PyProof.Rows.boot_zip (PyProof.Rows.callWith_type1 (thn (ha.run pos pins s σ H _ I h) fun us s1 ⟨vs, H1, I1, r1, q1⟩ => ?_) hs hpl))
  obtain ⟨a, b, xs, ys, ex, hqx, hqy, q⟩ := q1
  subst ex
  cases r1 with
  | cons r rr =>
    cases rr with
    | cons r' rr =>
      cases rr
      cases r
      cases r'
      have fresh5 : ∀ c, c ∈ [s1.heap.objs.size + 4, s1.heap.objs.size + 2, s1.heap.objs.size + 3, s1.heap.objs.size, s1.heap.objs.size + 1] → FpOk X pins H1 c := fun c hcm => by
        have e' : c = s1.heap.objs.size + 4 ∨ c = s1.heap.objs.size + 2 ∨ c = s1.heap.objs.size + 3 ∨ c = s1.heap.objs.size ∨ c = s1.heap.objs.size + 1 := by simpa using hcm
        have hle : s1.heap.objs.size ≤ c := by
          rcases e' with z | z | z | z | z
          · rw [z]; exact Nat.le_add_right _ _
          · rw [z]; exact Nat.le_add_right _ _
          · rw [z]; exact Nat.le_add_right _ _
          · rw [z]; exact Nat.le_refl _
          · rw [z]; exact Nat.le_add_right _ _
        exact I1.fpOk hle (I1.hok.fresh hle)
      obtain ⟨its, rv, p1, _⟩ := I1.tuple hqx
      obtain ⟨its2, rv2, p2, _⟩ := I1.list hqy
      obtain ⟨o1, ho1, _⟩ := id p1
      refine zip_begins2 (begins_tuple a its.toArray) (begins_list b its2.toArray) p1 p2.isList fun h' hz hTI hTO h1 h2 hsz hk => wpAny_pyIter_zip hz ?_
      have I2 : Inv X pins σ H1 { s1 with heap := h' } := I1.kept (t' := s1.toks) hk
      exact ⟨s1.heap.objs.size + 4, [s1.heap.objs.size + 4, s1.heap.objs.size + 2, s1.heap.objs.size + 3, s1.heap.objs.size, s1.heap.objs.size + 1], _, _, H1, rfl, I2, turn_zipM (PySem.W.ktu_apart s1.heap.objs.size a b (Heap.lt_size ho1) p2.lt), ⟨hz, hTI, ⟨_, _, hTO⟩, ⟨_, h1, rfl, rfl⟩, ⟨_, h2, rfl, rfl⟩⟩, fresh5, q⟩
end Lk
end
section
set_option maxRecDepth 100000
set_option maxHeartbeats 2000000
/-! Signs of coders: tables of numbers, and what is told. -/
namespace Lk
open PySem PySem.Spec PyProof.Rows L2
/-- a table over the places -/
def tab (p : Nat) (f : Nat → Int) : List V := (List.range p).map fun k => V.int (f k)
theorem tab_len (p : Nat) (f : Nat → Int) : (tab p f).length = p := by
  unfold tab
  rw [List.length_map, List.length_range]
theorem tab_at {p k : Nat} (f : Nat → Int) (h : k < p) : (tab p f)[k]? = some (.int (f k)) := by
  unfold tab
  rw [List.getElem?_map, List.getElem?_range h]
  rfl
theorem tab_congr {p : Nat} {f g : Nat → Int} (h : ∀ k, k < p → f k = g k) : tab p f = tab p g :=
  List.map_congr_left fun k hk => congrArg V.int (h k (List.mem_range.mp hk))
theorem tab_set {p j : Nat} (f : Nat → Int) (v : Int) : (tab p f).set j (.int v) = tab p (fun k => if k = j then v else f k) := by
  refine List.ext_getElem? fun k => ?_
  by_cases hk : k < p
  · rw [tab_at _ hk]
    by_cases e : k = j
    · subst e
      rw [List.getElem?_set_self (by rw [tab_len]; exact hk), if_pos rfl]
    · rw [List.getElem?_set_ne (Ne.symm e), tab_at _ hk, if_neg e]
  · rw [List.getElem?_eq_none (by rw [List.length_set, tab_len]; omega), List.getElem?_eq_none (by rw [tab_len]; omega)]
theorem tab_ints (p : Nat) (f : Nat → Int) : tab p f = ((List.range p).map f).map V.int := by
  unfold tab
  rw [List.map_map]
  rfl
theorem tab_rep (p : Nat) (x : Int) : List.replicate p (V.int x) = tab p fun _ => x := by
  refine List.ext_getElem? fun k => ?_
  by_cases hk : k < p
  · rw [tab_at _ hk, List.getElem?_replicate, if_pos hk]
  · rw [List.getElem?_eq_none (by rw [List.length_replicate]; omega), List.getElem?_eq_none (by rw [tab_len]; omega)]
theorem sgn_tab (c : Cd) : (sgn c).map vN = tab c.2.length fun k => (num c k - num c 0) % (c.2.length : Int) := by
  unfold sgn tab
  rw [List.map_map]
  refine List.map_congr_left fun k hk => ?_
  have hk := List.mem_range.mp hk
  show V.int ((((num c k - num c 0) % (c.2.length : Int)).toNat : Nat) : Int) = _
  rw [Int.toNat_of_nonneg (Int.emod_nonneg _ (by omega))]
theorem sgn_isSg {c : Cd} (h : CdOk c) : IsSg c.2.length (tD (sgn c)) :=
  ⟨sgn c, rfl, sgn_len c, sgn_lt, sgn_zero h.pos, sgn_sum h.1⟩
/-- how many words end ahead of a place -/
def spEnds : Sp := fun vs H Q _ => ∃ (b : Addr) (ls : List Nat) (k : Nat), vs = [.ref b, .int (k : Int)] ∧ H b = some (.tup (ls.map vN)) ∧ k < ls.length ∧ ls.length ≤ 12 ∧ ∀ H', Same H H' → Q (.int (endsI ls k)) H'
def toldSign (c : Cd) (Q : VK) (H : Hp) : Prop := ∀ p H', Same H H' → H' p = some (.tup ((sgn c).map vN)) → Q (.ref p) H'
/-- the law's own -/
def spSign : Sp := fun vs H Q _ => ∃ v c, vs = [v] ∧ Cat H v c ∧ CdOk c ∧ toldSign c Q H
def spByWords : Sp := fun vs H Q _ => ∃ v c, vs = [v] ∧ Cat H v c ∧ CdOk c ∧ (∀ x ∈ c.2, x ≤ 100) ∧ toldSign c Q H
/-- what the law has counted when it has gone by the first i places -/
def cntA (c : Cd) (i : Nat) (k : Nat) : Int := (if k = c.1 then 1 else 0) + (if k < i then (len c k : Int) else 0) - sumR i fun b => (cnt c.2.length b k (len c b) : Int)
theorem cntA_zero (c : Cd) (k : Nat) : cntA c 0 k = if k = c.1 then 1 else 0 := by
  unfold cntA
  rw [if_neg (Nat.not_lt_zero k), sumR_zero]
  omega
theorem cntA_all {c : Cd} {k : Nat} (h : k < c.2.length) : cntA c c.2.length k = num c k := by
  unfold cntA num endsI
  rw [if_pos h]
  show _ + _ - sumR c.2.length (fun b => (cnt c.2.length b k (len c b) : Int)) = _ - sumR c.2.length (fun b => (cnt c.2.length b k (len c b) : Int)) + _
  omega
theorem cntA_succ (c : Cd) (i k : Nat) : cntA c (i + 1) k = cntA c i k + (if k = i then (len c i : Int) else 0) - (cnt c.2.length i k (len c i) : Int) := by
  unfold cntA
  rw [sumR_succ]
  rcases Nat.lt_trichotomy k i with h | h | h
  · rw [if_pos h, if_pos (show k < i + 1 by omega), if_neg (show ¬ k = i by omega)]
    omega
  · subst h
    rw [if_neg (Nat.lt_irrefl k), if_pos (Nat.lt_succ_self k), if_pos rfl]
    omega
  · rw [if_neg (show ¬ k < i by omega), if_neg (show ¬ k < i + 1 by omega), if_neg (show ¬ k = i by omega)]
    omega
theorem pull_way {p i k : Nat} (hi : i < p) (hk : k < p) (L : Nat) : (if (L : Int) - wayOf p i k + (p : Int) > 0 then (L : Int) - wayOf p i k + (p : Int) else 0) / (p : Int) = (cnt p i k L : Int) := by
  have hp : (0 : Int) < p := by omega
  have w0 : 0 ≤ ((k : Int) - i - 1) % p := Int.emod_nonneg _ (by omega)
  have w1 : ((k : Int) - i - 1) % p < p := Int.emod_lt_of_pos _ hp
  have e : (if (L : Int) - wayOf p i k + (p : Int) > 0 then (L : Int) - wayOf p i k + (p : Int) else 0) = (L : Int) - wayOf p i k + (p : Int) := by
    split
    · rfl
    · unfold wayOf at *
      omega
  rw [e, ← cnt_way hi hk]
  rw [show (L : Int) - wayOf p i k + (p : Int) = (L : Int) - wayOf p i k + (p : Int) * 1 by omega, Int.add_mul_ediv_left _ _ (by omega)]
/-- NoCoder of the one, of the other, NotLike; else what is told of the two -/
def spTwo (C1 C2 : Addr) (told : Cd → Cd → VK → Hp → Prop) : Sp := fun vs H Q E => ∃ v u d e, vs = [v, u] ∧ Th H v d ∧ Th H u e ∧ (isCd d = false → ∀ H', Same H H' → E (.ref C1) none H') ∧ (isCd d = true → isCd e = false → ∀ H', Same H H' → E (.ref C1) none H') ∧
  (∀ c c2, d = cdD c → CdOk c → e = cdD c2 → CdOk c2 → c.2.length ≠ c2.2.length → ∀ H', Same H H' → E (.ref C2) none H') ∧
  (∀ c c2, d = cdD c → CdOk c → e = cdD c2 → CdOk c2 → c.2.length = c2.2.length → told c c2 Q H)
def toldNone (_ _ : Cd) (Q : VK) (H : Hp) : Prop := ∀ H', Same H H' → Q .non H'
def toldOne (c c2 : Cd) (Q : VK) (H : Hp) : Prop := ∀ b H', (b = true ↔ sgn c = sgn c2) → Same H H' → Q (.bl b) H'
theorem two_of {C1 C2 : Addr} {told : Cd → Cd → VK → Hp → Prop} {Q : VK} {E : XK} {H : Hp} {v u : V} {c c2 : Cd} (cat : Cat H v c) (ok : CdOk c) (cat2 : Cat H u c2) (ok2 : CdOk c2) (l : c.2.length = c2.2.length) (k : told c c2 Q H) : spTwo C1 C2 told [v, u] H Q E := by
  refine ⟨v, u, cdD c, cdD c2, rfl, cat.th, cat2.th, fun z => ?_, fun _ z => ?_, fun a b ea _ eb _ ne => ?_, fun a b ea _ eb _ _ => ?_⟩
  · rw [isCd_cdD ok] at z
    cases z
  · rw [isCd_cdD ok2] at z
    cases z
  · have e1 := cdD_inj ea
    have e2 := cdD_inj eb
    subst e1 e2
    exact absurd l ne
  · have e1 := cdD_inj ea
    have e2 := cdD_inj eb
    subst e1 e2
    exact k
theorem sg_of {C1 : Addr} {Q : VK} {E : XK} {H : Hp} {v : V} {c : Cd} (cat : Cat H v c) (ok : CdOk c) (k : toldSign c Q H) : spOne C1 toldSign [v] H Q E := by
  refine ⟨v, cdD c, rfl, cat.th, fun z => ?_, fun c2 ec hc2 => ?_⟩
  · rw [isCd_cdD ok] at z
    cases z
  · have e2 := cdD_inj ec
    subst e2
    exact k
theorem isg_of {C1 : Addr} {Q : VK} {E : XK} {H : Hp} {v : V} {d : PyData} {p : Nat} (p1 : 1 ≤ p) (p12 : p ≤ 12) (h : Th H v d) (k : ∀ b H', (b = true ↔ IsSg p d) → Same H H' → Q (.bl b) H') : spIsSign C1 [.int (p : Int), v] H Q E := by
  refine ⟨_, v, .int (p : Int), d, rfl, .int _, h, fun z => ?_, fun p' e _ _ b H' hb s => ?_⟩
  · exfalso
    have y : (decide ((1 : Int) ≤ (p : Int)) && decide ((p : Int) ≤ 12)) = false := z
    rw [decide_eq_true (by omega), decide_eq_true (by omega)] at y
    cases y
  · have e2 : p' = p := by
      injection e with e
      omega
    subst e2
    exact k b H' hb s
end Lk
end
section
set_option maxRecDepth 100000
set_option maxHeartbeats 2000000
/-! Drawn coders and their mates. -/
namespace Lk
open PySem PySem.Spec PyProof.Rows L2
theorem good_cd {c : Cd} (ok : CdOk c) (h : ∀ n ∈ c.2, n < 10 ^ 45) : Good (cdD c) := by
  have h0 : c.1 < 10 ^ 45 := Nat.lt_trans ok.1 (Nat.lt_of_le_of_lt ok.2 (by decide +kernel))
  refine ⟨show_cd h0 h, ?_, ?_⟩
  · simp only [cdD, PyData.depth, PyData.depthAll, depthAll_ints]
    decide
  · have b := wt_cd h0 h ok.2
    omega
def spSome : Sp := fun vs H Q _ => ∃ (a : Addr) (p : Nat) (n : Int), vs = [.ref a, .int (p : Int)] ∧ Urn H a n ∧ n ≤ 90000 ∧ 1 ≤ p ∧ p ≤ 12 ∧
  ∀ v c H', CdOk c → c.2.length = p → (∀ n ∈ c.2, n < 10 ^ 31) → Urn H' a (n + 20) → SameBut a H H' → Cat H' v c → Q v H'
def spMate : Sp := fun vs H Q _ => ∃ (a : Addr) (v : V) (c : Cd) (n : Int), vs = [.ref a, v] ∧ Urn H a n ∧ n ≤ 80000 ∧ Cat H v c ∧ CdOk c ∧ (∀ n ∈ c.2, n < 10 ^ 31) ∧
  ∀ u d H', CdOk d → d.2.length = c.2.length → (∀ n ∈ d.2, n < 10 ^ 32) → Urn H' a (n + 30) → SameBut a H H' → Cat H' u d → Q u H'
theorem it_bound {c : Cd} (h : COk c) {B : Nat} (hB : ∀ n ∈ c.2, n < B) : ∀ m, ∀ x ∈ (it m c).2, x < B + m
  | 0 => fun x hx => hB x hx
  | m + 1 => fun x hx => by
    rw [it_succ] at hx
    have okm := it_ok m h
    have ih := it_bound h hB m
    obtain ⟨i, hi, rfl⟩ := List.getElem_of_mem hx
    have e : (nx (it m c)).2[i] = len (nx (it m c)) i := by
      unfold len
      rw [List.getD_eq_getElem?_getD, List.getElem?_eq_getElem hi]
      rfl
    rw [e]
    rw [nx_len] at hi
    have mem : ∀ j, j < (it m c).2.length → len (it m c) j < B + m := fun j hj => by
      refine ih _ ?_
      unfold len
      rw [List.getD_eq_getElem?_getD, List.getElem?_eq_getElem hj]
      exact List.getElem_mem hj
    by_cases g : i = (it m c).1
    · rw [g, len_nx_same okm]
      have := mem _ okm
      omega
    · rw [len_nx_ne g]
      have := mem _ hi
      omega
end Lk
end
section
set_option maxRecDepth 100000
set_option maxHeartbeats 2000000
/-! Letters. -/
namespace Lk
open PySem PySem.Spec PyProof.Rows L2
def tri (l : Nat) : Nat := l * (l + 1) / 2
theorem two_tri (l : Nat) : 2 * tri l = l * (l + 1) := by
  unfold tri
  have h : l * (l + 1) % 2 = 0 := by
    rcases Nat.mod_two_eq_zero_or_one l with e | e
    · rw [Nat.mul_mod, e, Nat.zero_mul, Nat.zero_mod]
    · rw [Nat.mul_mod, Nat.add_mod, e]
  have := Nat.div_add_mod (l * (l + 1)) 2
  omega
theorem tri_two (l k : Nat) : tri (l + (k + k)) + tri l = 2 * tri (l + k) + k * k := by
  have a := two_tri (l + (k + k))
  have b := two_tri l
  have c := two_tri (l + k)
  simp only [Nat.mul_add, Nat.add_mul, Nat.mul_one, Nat.mul_comm k l] at a b c
  generalize l * l = x at *
  generalize l * k = y at *
  generalize k * k = z at *
  omega
/-- how many letters all words of these lengths have -/
def lkI (ls : List Nat) : Int := (ls.map fun l => ((tri l : Nat) : Int)).sum
theorem lkI_cons (l : Nat) (ls : List Nat) : lkI (l :: ls) = (tri l : Int) + lkI ls := by
  unfold lkI
  rw [List.map_cons, List.sum_cons]
theorem lkI_two (k : Nat) : ∀ ls : List Nat, lkI (ls.map (· + (k + k))) - lkI (ls.map (· + k)) = lkI (ls.map (· + k)) - lkI ls + ((ls.length * (k * k) : Nat) : Int)
  | [] => by simp [lkI]
  | l :: ls => by
    have ih := lkI_two k ls
    have t := tri_two l k
    rw [List.map_cons, List.map_cons, lkI_cons, lkI_cons, lkI_cons, List.length_cons, Nat.add_mul, Nat.one_mul]
    push_cast at *
    omega
theorem isMax_add {l : List Nat} {m k : Nat} (h : IsMax l m) : IsMax (l.map (· + k)) (m + k) := by
  refine ⟨List.mem_map.mpr ⟨m, h.1, rfl⟩, fun x hx => ?_⟩
  obtain ⟨y, hy, rfl⟩ := List.mem_map.mp hx
  have := h.2 y hy
  omega
def spLK : Sp := fun vs H Q _ => ∃ v c, vs = [v] ∧ Cat H v c ∧ CdOk c ∧ (∀ x ∈ c.2, x < 10 ^ 60) ∧ ∀ H', Same H H' → Q (.int (lkI c.2)) H'
def toldLet (c : Cd) (n : Nat) (Q : VK) (H : Hp) : Prop := ∀ H', Same H H' → Q (.int (lkI (it n c).2 - lkI c.2)) H'
/-- NoCoder, NoCount; else how many letters -/
def spLet (C1 C2 : Addr) : Sp := fun vs H Q E => ∃ v u d e, vs = [v, u] ∧ Th H v d ∧ Th H u e ∧ (∀ c, d = cdD c → ∀ x ∈ c.2, x < 10 ^ 40) ∧ (isCd d = false → ∀ H', Same H H' → E (.ref C1) none H') ∧
  (isCd d = true → inR e 0 1000000000000000000 = false → ∀ H', Same H H' → E (.ref C2) none H') ∧ (∀ c (n : Nat), d = cdD c → CdOk c → e = .int n → n ≤ 1000000000000000000 → toldLet c n Q H)
theorem let_of {C1 C2 : Addr} {Q : VK} {E : XK} {H : Hp} {v : V} {c : Cd} {n : Nat} (cat : Cat H v c) (ok : CdOk c) (hn : n ≤ 1000000000000000000) (hB : ∀ x ∈ c.2, x < 10 ^ 40) (k : toldLet c n Q H) : spLet C1 C2 [v, .int (n : Int)] H Q E := by
  refine ⟨v, .int (n : Int), cdD c, .int (n : Int), rfl, cat.th, .int _, fun c2 ec => ?_, fun z => ?_, fun _ z => ?_, fun c2 n2 ec _ en _ => ?_⟩
  · rw [← cdD_inj ec]
    exact hB
  · rw [isCd_cdD ok] at z
    cases z
  · exfalso
    have y : (decide ((0 : Int) ≤ (n : Int)) && decide ((n : Int) ≤ 1000000000000000000)) = false := z
    rw [decide_eq_true (by omega), decide_eq_true (by omega)] at y
    cases y
  · have e := cdD_inj ec
    have e2 : n2 = n := by injection en with en; omega
    subst e e2
    exact k
def tabK (p : Nat) (f : Nat → Int) : List V := (List.range p).map fun k => V.int (f k)
end Lk
end
section
/-! Steps between coders in one round: mathematics. -/
namespace Lk
/-- at one place, lengths alike modulo the places -/
def Cong (x d : Cd) : Prop := x.1 = d.1 ∧ ∀ k, k < d.2.length → len x k % d.2.length = len d k % d.2.length
theorem Cong.symm {x d : Cd} (l : x.2.length = d.2.length) (h : Cong x d) : Cong d x := ⟨h.1.symm, fun k hk => by rw [l] at hk ⊢; exact (h.2 k hk).symm⟩
theorem Cong.trans {x y z : Cd} (l : y.2.length = z.2.length) (a : Cong x y) (b : Cong y z) : Cong x z := ⟨a.1.trans b.1, fun k hk => by
  have z1 := a.2 k (l ▸ hk)
  rw [l] at z1
  exact z1.trans (b.2 k hk)⟩
theorem Cong.refl (x : Cd) : Cong x x := ⟨rfl, fun _ _ => rfl⟩
theorem cong_nx {x y : Cd} (l : x.2.length = y.2.length) (hx : COk x) (hy : COk y) (h : Cong x y) : Cong (nx x) (nx y) := by
  have e := h.1
  have hl := h.2 y.1 hy
  refine ⟨?_, fun k hk => ?_⟩
  · show (x.1 + (len x x.1 + 1)) % x.2.length = (y.1 + (len y y.1 + 1)) % y.2.length
    rw [e, l, show y.1 + (len x y.1 + 1) = len x y.1 + (y.1 + 1) by omega, show y.1 + (len y y.1 + 1) = len y y.1 + (y.1 + 1) by omega, Nat.add_mod, hl, ← Nat.add_mod]
  · rw [nx_len] at hk ⊢
    by_cases g : k = y.1
    · subst g
      have z : len (nx x) y.1 = len x y.1 + 1 := by rw [← e]; exact len_nx_same hx
      rw [z, len_nx_same hy, Nat.add_mod, hl, ← Nat.add_mod]
    · rw [len_nx_ne g, len_nx_ne (fun z => g (z.trans e))]
      exact h.2 k hk
theorem cong_it : ∀ (n : Nat) {x y : Cd}, x.2.length = y.2.length → COk x → COk y → Cong x y → Cong (it n x) (it n y)
  | 0, _, _, _, _, _, h => h
  | n + 1, _, _, l, hx, hy, h => cong_it n (by rw [nx_len, nx_len, l]) (nx_ok hx) (nx_ok hy) (cong_nx l hx hy h)
theorem cong_rounds {c : Cd} (h : COk c) (f : Free c) (q : Nat) : Cong (it (q * (c.2.length * c.2.length)) c) c := by
  rw [it_rounds h f q]
  refine ⟨rfl, fun k hk => ?_⟩
  show ((c.2.map (· + q * c.2.length)).getD k 0) % c.2.length = _
  rw [getD_map_add _ _ hk, Nat.add_mul_mod_self_right]
  rfl
theorem no_sooner {X : Cd} (h : COk X) (f : Free X) {d : Nat} (h0 : 0 < d) (h1 : d < X.2.length * X.2.length) (e : Cong (it d X) X) : False := by
  have hp : 0 < X.2.length := Nat.lt_of_le_of_lt (Nat.zero_le _) h
  have bd : Bd X d := bd_all h f d (Nat.le_of_lt h1)
  have more : len X X.1 + 1 ≤ len (it d X) X.1 := by
    have a := len_nx_same h
    have b := len_mono (d - 1) X.1 (nx_ok h)
    have e3 : it (d - 1) (nx X) = it d X := by
      show it ((d - 1) + 1) X = it d X
      rw [show d - 1 + 1 = d by omega]
    rw [e3] at b
    omega
  have le := bd X.1 h
  have cg := e.2 X.1 h
  have full : len (it d X) X.1 = len X X.1 + X.2.length := by
    obtain ⟨k, hk⟩ : ∃ k, len (it d X) X.1 = len X X.1 + k := ⟨len (it d X) X.1 - len X X.1, by omega⟩
    rw [hk] at cg le more ⊢
    have z := mod_ne cg (by omega)
    omega
  have all := all_full h f bd e.1 full
  have s1 := sum_it d h
  have s2 : (it d X).2.sum = X.2.sum + X.2.length * X.2.length := by
    have a := sum_S (c := X) d
    have b : S X.2.length (fun i => len (it d X) i) = S X.2.length (fun i => len X i + X.2.length) := S_congr _ fun i hi => all i hi
    rw [a, b, S_add, S_const]
    have c := S_getD X.2
    show S X.2.length (fun i => X.2.getD i 0) + _ = _
    rw [c]
  omega
theorem btw_unique {c d : Cd} (h : COk c) (f : Free c) (ld : d.2.length = c.2.length) {n m : Nat} (hn : n < c.2.length * c.2.length) (hm : m < c.2.length * c.2.length) (a : Cong (it n c) d) (b : Cong (it m c) d) : n = m := by
  have key : ∀ n m : Nat, n < m → m < c.2.length * c.2.length → Cong (it n c) d → Cong (it m c) d → False := fun n m l hm a b => by
    refine no_sooner (it_ok n h) (free_it n h f) (d := m - n) (by omega) (by rw [it_len]; omega) ?_
    rw [← it_add, show n + (m - n) = m by omega]
    exact b.trans (by rw [it_len]; exact ld) (a.symm (by rw [it_len]; exact ld.symm))
  rcases Nat.lt_trichotomy n m with l | l | l
  · exact (key n m l hm a b).elim
  · exact l
  · exact (key m n l hn b a).elim
def Btw (c d : Cd) : Option Nat → Prop
  | some n => n < c.2.length * c.2.length ∧ Cong (it n c) d
  | none => ∀ n, n < c.2.length * c.2.length → ¬ Cong (it n c) d
theorem btw_one {c d : Cd} (h : COk c) (f : Free c) (ld : d.2.length = c.2.length) : ∀ {r q : Option Nat}, Btw c d r → Btw c d q → r = q
  | some n, some m, a, b => congrArg some (btw_unique h f ld a.1 b.1 a.2 b.2)
  | some n, none, a, b => absurd a.2 (b n a.1)
  | none, some m, a, b => absurd b.2 (a m b.1)
  | none, none, _, _ => rfl
theorem btw_sign {c d : Cd} (hc : COk c) (hd : COk d) (l : d.2.length = c.2.length) (fc : Free c) (fd : Free d) {r : Option Nat} (b : Btw c d r) : sgn c = sgn d ↔ r ≠ none := by
  have hp : 0 < c.2.length := Nat.lt_of_le_of_lt (Nat.zero_le _) hc
  have hqp : 0 < c.2.length * c.2.length := Nat.mul_pos hp hp
  constructor
  · rintro e rfl
    obtain ⟨n, d', hn, ld, h1, hl⟩ := sgn_best hc hd l fd e
    have cg : Cong (it n c) d := by rw [hn]; exact ⟨h1, fun k hk => (hl k hk).2⟩
    have sp : n % (c.2.length * c.2.length) + n / (c.2.length * c.2.length) * (c.2.length * c.2.length) = n := by rw [Nat.mul_comm (n / _)]; exact Nat.mod_add_div _ _
    generalize n % (c.2.length * c.2.length) = r at sp
    have hr : n - n / (c.2.length * c.2.length) * (c.2.length * c.2.length) = r := by omega
    have hr2 : r < c.2.length * c.2.length := by
      rw [← hr, Nat.mul_comm (n / _)]
      have := Nat.mod_add_div n (c.2.length * c.2.length)
      have := Nat.mod_lt n hqp
      omega
    refine b r hr2 ?_
    have z := cong_rounds (it_ok r hc) (free_it r hc fc) (n / (c.2.length * c.2.length))
    rw [it_len, ← it_add, sp] at z
    exact (z.symm (by rw [it_len, it_len])).trans (by rw [it_len]; exact l.symm) cg
  · intro ne
    cases r with
    | none => exact absurd rfl ne
    | some n =>
      rw [← sgn_it n hc]
      refine sgn_cong (by rw [it_len]; exact l.symm) b.2.1 fun k hk => ?_
      rw [it_len] at hk ⊢
      have z := b.2.2 k (l ▸ hk)
      rw [l] at z
      exact z
theorem btw_back {c d : Cd} (hc : COk c) (hd : COk d) (l : d.2.length = c.2.length) (fc : Free c) {s : Nat} (hs : s < c.2.length * c.2.length) (a : Cong (it s c) d) : Btw d c (some ((c.2.length * c.2.length - s) % (c.2.length * c.2.length))) := by
  have hp : 0 < c.2.length := Nat.lt_of_le_of_lt (Nat.zero_le _) hc
  have hqp : 0 < c.2.length * c.2.length := Nat.mul_pos hp hp
  refine ⟨by rw [l]; exact Nat.mod_lt _ hqp, ?_⟩
  have b : Cong d (it s c) := a.symm (by rw [it_len]; exact l.symm)
  rcases Nat.eq_zero_or_pos s with z | z
  · subst z
    rw [Nat.sub_zero, Nat.mod_self]
    exact b
  · rw [Nat.mod_eq_of_lt (by omega)]
    have x := cong_it (c.2.length * c.2.length - s) (by rw [it_len]; exact l) hd (it_ok s hc) b
    rw [← it_add, show s + (c.2.length * c.2.length - s) = c.2.length * c.2.length by omega] at x
    have y := cong_rounds hc fc 1
    rw [Nat.one_mul] at y
    exact x.trans (it_len _) y
end Lk
end
section
set_option maxRecDepth 100000
set_option maxHeartbeats 2000000
/-! a round's words in order, how far lengths come apart, coders that come late. -/
namespace Lk
/-- a place not been at stays where it was -/
theorem len_never {c : Cd} (h : COk c) {n v : Nat} (nv : ∀ t, t ≤ n → (it t c).1 ≠ v) : len (it n c) v = len c v := by
  refine Nat.le_antisymm (Nat.le_of_not_lt fun z => ?_) (len_mono n v h)
  obtain ⟨t, ht, e, _⟩ := step_of n v (len c v + 1) h (Nat.lt_succ_self _) z
  exact nv t (by omega) e
theorem notfree_of {c : Cd} (h : COk c) {n v : Nat} (hv : v < c.2.length) (e : go c v = v) (nv : ∀ t, t ≤ n → (it t c).1 ≠ v) : ¬ Free (it n c) := fun f => by
  obtain ⟨k, hk⟩ := f v (by rw [it_len]; exact hv)
  have g : go (it n c) v = v := by
    unfold go at e ⊢
    rw [len_never h nv, it_len]
    exact e
  have gs : ∀ k, gon (it n c) k v = v := fun k => by
    induction k with
    | zero => rfl
    | succ k ih => rw [gon_succ, ih, g]
  rw [gs k] at hk
  exact nv n (Nat.le_refl _) hk.symm
theorem never_of {c : Cd} (h : COk c) {n : Nat} (nf : ¬ Free (it n c)) : ∃ v, v < c.2.length ∧ ∀ t, t ≤ n → (it t c).1 ≠ v := by
  refine Classical.byContradiction fun no => nf fun i hi => Classical.byContradiction fun nr => no ⟨i, by rw [it_len] at hi; exact hi, fun t ht e => nr ?_⟩
  rw [← e]
  exact rch_been h ht
/-- till its round is come, each place has at most p words more -/
theorem gain_till {c : Cd} (h : COk c) {n : Nat} (a : Ahead c n) (i : Nat) : len (it n c) i ≤ len c i + c.2.length := by
  cases n with
  | zero => exact Nat.le_add_right _ _
  | succ m =>
    obtain ⟨v, hv, nv⟩ := never_of h (a.2 m (Nat.lt_succ_self m))
    have one : len (it (m + 1) c) i ≤ len (it m c) i + 1 := by
      rw [it_succ]
      by_cases e : i = (it m c).1
      · rw [e, len_nx_same (it_ok m h)]
        exact Nat.le_refl _
      · rw [len_nx_ne e]
        exact Nat.le_succ _
    have most : len (it m c) i < len c i + c.2.length := by
      refine Nat.lt_of_not_le fun z => ?_
      obtain ⟨w, w1, w2, w3⟩ := some_to i (len c i) v hv
      obtain ⟨t, ht, e1, e2⟩ := step_of m i w h w1 (Nat.le_trans w2 z)
      exact nv (t + 1) (by omega) (e2.trans w3)
    omega
theorem gain_far {c : Cd} (h : COk c) {n : Nat} (a : Ahead c n) (m : Nat) {i : Nat} (hi : i < c.2.length) :
    ∃ q, len c i + q * c.2.length ≤ len (it (n + (q * (c.2.length * c.2.length) + m)) c) i := by
  refine ⟨0, ?_⟩
  rw [Nat.zero_mul, Nat.add_zero]
  exact len_mono _ _ h
/-- behind so many whole rounds and some steps -/
theorem gain_in {c : Cd} (h : COk c) {n : Nat} (a : Ahead c n) (q m : Nat) (hm : m < c.2.length * c.2.length) {i : Nat} (hi : i < c.2.length) :
    len c i + q * c.2.length ≤ len (it (n + (q * (c.2.length * c.2.length) + m)) c) i ∧ len (it (n + (q * (c.2.length * c.2.length) + m)) c) i ≤ len c i + q * c.2.length + 2 * c.2.length := by
  have ok := it_ok n h
  have e : (it n c).2.length = c.2.length := it_len n
  have er := it_rounds ok a.1 q
  have ok2 := it_ok (q * (c.2.length * c.2.length)) ok
  have fr2 := free_it (q * (c.2.length * c.2.length)) ok a.1
  have bd := bd_all ok2 fr2 m (by rw [it_len, e]; exact Nat.le_of_lt hm) i (by rw [it_len, e]; exact hi)
  rw [it_add, it_add]
  rw [it_len, e] at bd
  rw [e] at er
  have el : len (it (q * (c.2.length * c.2.length)) (it n c)) i = len (it n c) i + q * c.2.length := by
    rw [er]
    exact getD_map_add _ _ (by rw [e]; exact hi)
  have b1 := len_mono m i ok2
  have b2 := len_mono n i h
  have b3 := gain_till h a i
  rw [el] at bd b1
  omega
/-! ### the words of a round -/
def wm (c : Cd) : Nat × Nat := (c.1, (len c c.1 + 1) % c.2.length)
def wms (n : Nat) (c : Cd) : List (Nat × Nat) := (List.range n).map fun t => wm (it t c)
theorem wms_eq (n : Nat) (c : Cd) : (wds n c).map (fun x => (x.1, x.2 % c.2.length)) = wms n c := by
  unfold wds wms
  rw [List.map_map]
  refine List.map_congr_left fun t _ => ?_
  show (_, _ % c.2.length) = (_, _ % (it t c).2.length)
  rw [it_len]
  rfl
theorem wms_len (n : Nat) (c : Cd) : (wms n c).length = n := by
  unfold wms
  rw [List.length_map, List.length_range]
theorem wms_at {n t : Nat} (c : Cd) (h : t < n) : (wms n c)[t]? = some (wm (it t c)) := by
  unfold wms
  rw [List.getElem?_map, List.getElem?_range h]
  rfl
theorem wm_round {d : Cd} (h : COk d) (f : Free d) : wm (it (d.2.length * d.2.length) d) = wm d := by
  rw [it_round h f]
  unfold wm
  dsimp only
  have e : len (d.1, d.2.map (· + d.2.length)) d.1 = len d d.1 + d.2.length := getD_map_add _ _ h
  rw [e, List.length_map, show len d d.1 + d.2.length + 1 = len d d.1 + 1 + d.2.length by omega, Nat.add_mod_right]
theorem wms_turn {d : Cd} (h : COk d) (f : Free d) {b : Nat} (hb : b ≤ d.2.length * d.2.length) :
    wms (d.2.length * d.2.length) (it b d) = (wms (d.2.length * d.2.length) d).drop b ++ (wms (d.2.length * d.2.length) d).take b := by
  have ld : ((wms (d.2.length * d.2.length) d).drop b).length = d.2.length * d.2.length - b := by rw [List.length_drop, wms_len]
  refine List.ext_getElem? fun t => ?_
  by_cases ht : t < d.2.length * d.2.length
  · rw [wms_at _ ht, ← it_add]
    by_cases t2 : t < d.2.length * d.2.length - b
    · rw [List.getElem?_append_left (by rw [ld]; exact t2), List.getElem?_drop, wms_at _ (by omega)]
    · rw [List.getElem?_append_right (by rw [ld]; omega), ld, List.getElem?_take, if_pos (by omega), wms_at _ (by omega)]
      have z := wm_round (it_ok (t - (d.2.length * d.2.length - b)) h) (free_it (t - (d.2.length * d.2.length - b)) h f)
      rw [it_len, ← it_add, show t - (d.2.length * d.2.length - b) + d.2.length * d.2.length = b + t by omega] at z
      rw [z]
  · rw [List.getElem?_eq_none (by rw [wms_len]; omega), List.getElem?_eq_none (by rw [List.length_append, ld, List.length_take, wms_len]; omega)]
/-- as one number -/
def cod (p : Nat) (x : Nat × Nat) : Nat := x.1 * p + x.2
theorem cod_inj {p : Nat} {x y : Nat × Nat} (hx : x.2 < p) (hy : y.2 < p) (e : cod p x = cod p y) : x = y := by
  have hp : 0 < p := by omega
  unfold cod at e
  have e1 : (x.1 * p + x.2) / p = x.1 := by rw [Nat.mul_comm, Nat.mul_add_div hp, Nat.div_eq_of_lt hx, Nat.add_zero]
  have e2 : (y.1 * p + y.2) / p = y.1 := by rw [Nat.mul_comm, Nat.mul_add_div hp, Nat.div_eq_of_lt hy, Nat.add_zero]
  have a : x.1 = y.1 := by rw [← e1, ← e2, e]
  rw [a] at e
  exact Prod.ext a (by omega)
theorem wm_lt {d : Cd} (h : COk d) : (wm d).1 < d.2.length ∧ (wm d).2 < d.2.length := ⟨h, Nat.mod_lt _ (Nat.lt_of_le_of_lt (Nat.zero_le _) h)⟩
theorem wm_ne {d : Cd} (h : COk d) (f : Free d) {i j : Nat} (hij : i < j) (hj : j < d.2.length * d.2.length) : wm (it i d) ≠ wm (it j d) := fun e => by
  unfold wm at e
  injection e with e1 e2
  rw [it_len, it_len] at e2
  have oki := it_ok i h
  have okj := it_ok j h
  have b0 := len_mono i (it i d).1 h
  have b1 : len (it (i + 1) d) (it i d).1 = len (it i d) (it i d).1 + 1 := by rw [it_succ, len_nx_same oki]
  have b2 := len_mono (j - (i + 1)) (it i d).1 (it_ok (i + 1) h)
  rw [← it_add, show i + 1 + (j - (i + 1)) = j by omega] at b2
  have b3 : len (it (j + 1) d) (it j d).1 = len (it j d) (it j d).1 + 1 := by rw [it_succ, len_nx_same okj]
  have b4 := bd_all h f (j + 1) hj (it j d).1 (by have z := okj; unfold COk at z; rw [it_len] at z; exact z)
  rw [← e1] at e2 b3 b4
  generalize len (it i d) (it i d).1 = x at *
  generalize len (it j d) (it i d).1 = y at *
  have z := mod_ne (p := d.2.length) (m := x + 1) (d := y - x) (by rw [show x + 1 + (y - x) = y + 1 by omega]; exact e2.symm) (by omega)
  omega
theorem rise_range : ∀ {n : Nat} {l : List Nat}, l.length = n → l.Pairwise (· < ·) → (∀ x ∈ l, x < n) → l = List.range n := by
  intro n l hl hp hn
  have mono : ∀ i j (hi : i < l.length) (hj : j < l.length), i < j → l[i] < l[j] := fun i j hi hj hij => List.pairwise_iff_getElem.mp hp i j hi hj hij
  have low : ∀ i (hi : i < l.length), i ≤ l[i] := by
    intro i
    induction i with
    | zero => exact fun _ => Nat.zero_le _
    | succ i ih =>
      intro hi
      have a := ih (by omega)
      have b := mono i (i + 1) (by omega) hi (Nat.lt_succ_self i)
      omega
  have up : ∀ k i (hk : i + k < l.length), l[i]'(by omega) + k ≤ l[i + k] := by
    intro k
    induction k with
    | zero => exact fun i hk => Nat.le_refl _
    | succ k ih =>
      intro i hk
      have a := ih i (by omega)
      have b := mono (i + k) (i + (k + 1)) (by omega) hk (by omega)
      omega
  refine List.ext_getElem (by rw [hl, List.length_range]) fun i h1 h2 => ?_
  rw [List.getElem_range]
  have a := low i h1
  have b := up (l.length - 1 - i) i (by omega)
  have c := hn _ (List.getElem_mem (h := show i + (l.length - 1 - i) < l.length by omega))
  omega
/-! ### late ones -/
/-- the places of the next so many moments -/
def plcs : Nat → Cd → List Nat
  | 0, c => [c.1]
  | n + 1, c => c.1 :: plcs n (nx c)
theorem plcs_mem : ∀ {n : Nat} {c : Cd} {t : Nat}, t ≤ n → (it t c).1 ∈ plcs n c
  | 0, c, t, h => by
    rw [Nat.le_zero.mp h]
    exact List.mem_singleton.mpr rfl
  | n + 1, c, 0, _ => List.mem_cons.mpr (.inl rfl)
  | n + 1, c, t + 1, h => List.mem_cons.mpr (.inr (plcs_mem (n := n) (c := nx c) (by omega)))
theorem plcs_of : ∀ {n : Nat} {c : Cd} {v : Nat}, v ∈ plcs n c → ∃ t, t ≤ n ∧ (it t c).1 = v
  | 0, c, v, h => ⟨0, Nat.le_refl _, (List.mem_singleton.mp h).symm⟩
  | n + 1, c, v, h => by
    rcases List.mem_cons.mp h with e | h
    · exact ⟨0, Nat.zero_le _, e.symm⟩
    · obtain ⟨t, h1, h2⟩ := plcs_of h
      exact ⟨t + 1, by omega, h2⟩
def lateC (p last : Nat) : Cd := ((last + (p - 1)) % p, (List.range p).map fun i => (last + (p - i)) % p)
def lateB (p last : Nat) : Bool := !(plcs ((p - 1) * (p - 1)) (lateC p last)).contains last
def zeroC (p s : Nat) : Cd := (s, List.replicate p 0)
def zeroB (p s : Nat) : Bool := !(plcs (p - 2) (zeroC p s)).contains ((s + (p - 1)) % p) && (List.range p).all fun i => (plcs (p - 1) (zeroC p s)).contains i
theorem late_all : ∀ p, 2 ≤ p → p ≤ 12 → ∀ last, last < p → lateB p last = true := by
  have h : (List.range 13).all (fun p => decide (p < 2) || (List.range p).all (fun l => lateB p l)) = true := by decide +kernel
  intro p h2 h12 l hl
  have a := List.all_eq_true.mp h p (List.mem_range.mpr (by omega))
  rw [decide_eq_false (by omega), Bool.false_or] at a
  exact List.all_eq_true.mp a l (List.mem_range.mpr hl)
theorem zero_all : ∀ p, 2 ≤ p → p ≤ 12 → ∀ s, s < p → zeroB p s = true := by
  have h : (List.range 13).all (fun p => decide (p < 2) || (List.range p).all (fun l => zeroB p l)) = true := by decide +kernel
  intro p h2 h12 l hl
  have a := List.all_eq_true.mp h p (List.mem_range.mpr (by omega))
  rw [decide_eq_false (by omega), Bool.false_or] at a
  exact List.all_eq_true.mp a l (List.mem_range.mpr hl)
theorem free_mono {c : Cd} (h : COk c) {m n : Nat} (hm : m ≤ n) (f : Free (it m c)) : Free (it n c) := by
  rw [show n = m + (n - m) by omega, it_add]
  exact free_it _ (it_ok m h) f
theorem ahead_by {c : Cd} (h : COk c) {n : Nat} (f : Free (it (n + 1) c)) (nf : ¬ Free (it n c)) : Ahead c (n + 1) := ⟨f, fun m hm g => nf (free_mono h (by omega) g)⟩
theorem ahead_cong {c d : Cd} (hc : COk c) (hd : COk d) (l : c.2.length = d.2.length) (e : Cong c d) {n : Nat} (a : Ahead c n) : Ahead d n := by
  have fr : ∀ m, Free (it m c) ↔ Free (it m d) := fun m => by
    have q := cong_it m l hc hd e
    have l2 : (it m c).2.length = (it m d).2.length := by rw [it_len, it_len, l]
    have q2 := Cong.symm l2 q
    exact ⟨fun f => free_cong (it_ok m hc) l2 q.1 (fun k hk => by rw [l2] at hk; have z := q.2 k hk; rw [← l2] at z; exact z) f, fun f => free_cong (it_ok m hd) l2.symm q2.1 (fun k hk => by rw [← l2] at hk; have z := q2.2 k hk; rw [l2] at z; exact z) f⟩
  exact ⟨(fr n).mp a.1, fun m hm f => a.2 m hm ((fr m).mpr f)⟩
theorem late_ok {p last : Nat} (hp : 0 < p) : COk (lateC p last) := by
  show (last + (p - 1)) % p < ((List.range p).map _).length
  rw [List.length_map, List.length_range]
  exact Nat.mod_lt _ hp
theorem late_len (p last : Nat) : (lateC p last).2.length = p := by
  show ((List.range p).map _).length = p
  rw [List.length_map, List.length_range]
theorem late_at {p last i : Nat} (hi : i < p) : len (lateC p last) i = (last + (p - i)) % p := by
  show ((List.range p).map fun i => (last + (p - i)) % p).getD i 0 = _
  rw [List.getD_eq_getElem?_getD, List.getElem?_map, List.getElem?_range hi]
  rfl
theorem late_go {p last : Nat} (hl : last < p) : go (lateC p last) last = last := by
  unfold go
  rw [late_len, late_at hl, show last + (p - last) = p by omega, Nat.mod_self, Nat.add_zero, Nat.mod_eq_of_lt hl]
theorem late_ahead {p last : Nat} (h2 : 2 ≤ p) (h12 : p ≤ 12) (hl : last < p) : Ahead (lateC p last) ((p - 1) * (p - 1) + 1) := by
  have ok := late_ok (last := last) (show 0 < p by omega)
  have a := late_all p h2 h12 last hl
  refine ahead_by ok ?_ ?_
  · exact free_late ok (by rw [late_len]; exact Nat.le_refl _)
  · refine notfree_of ok (by rw [late_len]; exact hl) (late_go hl) fun t ht e => ?_
    have m := plcs_mem (n := (p - 1) * (p - 1)) (c := lateC p last) ht
    rw [e] at m
    unfold lateB at a
    rw [List.contains_iff_mem.mpr m] at a
    cases a
theorem free_one {c : Cd} (h : COk c) (e : c.2.length = 1) : Free c := fun i hi => ⟨0, by
  have z : c.1 < c.2.length := h
  show i = c.1
  omega⟩
theorem ahead_zero {c : Cd} (f : Free c) : Ahead c 0 := ⟨f, fun m hm => absurd hm (Nat.not_lt_zero m)⟩
theorem zero_ok {p s : Nat} (hs : s < p) : COk (zeroC p s) := by
  show s < (List.replicate p 0).length
  rw [List.length_replicate]
  exact hs
theorem zero_len (p s : Nat) : (zeroC p s).2.length = p := List.length_replicate
theorem zero_go {p s i : Nat} (hi : i < p) : go (zeroC p s) i = i := by
  unfold go
  rw [zero_len, show len (zeroC p s) i = 0 by
    show (List.replicate p 0).getD i 0 = 0
    rw [List.getD_eq_getElem?_getD, List.getElem?_replicate, if_pos hi]
    rfl, Nat.add_zero, Nat.mod_eq_of_lt hi]
theorem zero_ahead {p s : Nat} (h12 : p ≤ 12) (hs : s < p) : Ahead (zeroC p s) (p - 1) := by
  have ok := zero_ok hs
  by_cases h2 : 2 ≤ p
  · have a := zero_all p h2 h12 s hs
    unfold zeroB at a
    rw [Bool.and_eq_true] at a
    have a2 := a.2
    have a1 := a.1
    rw [show p - 1 = (p - 2) + 1 by omega]
    refine ahead_by ok ?_ ?_
    · rw [show p - 2 + 1 = p - 1 by omega]
      refine fun i hi => ?_
      rw [it_len, zero_len] at hi
      have m := List.contains_iff_mem.mp (List.all_eq_true.mp a2 i (List.mem_range.mpr hi))
      obtain ⟨t, ht, e⟩ := plcs_of m
      rw [← e]
      exact rch_been ok ht
    · have hv : (s + (p - 1)) % p < p := Nat.mod_lt _ (by omega)
      refine notfree_of ok (by rw [zero_len]; exact hv) (zero_go hv) fun t ht e => ?_
      have m := plcs_mem (n := p - 2) (c := zeroC p s) ht
      rw [e] at m
      rw [List.contains_iff_mem.mpr m] at a1
      cases a1
  · have e : p = 1 := by omega
    subst e
    exact ahead_zero (free_one ok (zero_len 1 s))
end Lk
end
section
set_option maxRecDepth 100000
set_option maxHeartbeats 2000000
/-! The fewest steps till a coder has come so far. -/
namespace Lk
open PySem PySem.Spec PyProof.Rows L2 LamX NdefX
/-! ### x *= i, x //= i -/
def ipC (C : Int → Int → Prop) (f : Int → Int → Int) : TIp := fun x y H Q => ∃ i j, x = .int i ∧ y = .int j ∧ C i j ∧ Q (.int (f i j)) H
theorem ip_mulC {X : Cx} : PIp X .Mult (ipC CMul fun i j => i * j) := by
  intro pins s σ H x y v u Q I r1 r2 h
  obtain ⟨i, j, e1, e2, hc, q⟩ := h
  subst e1; subst e2
  obtain ⟨t, rfl⟩ := r1
  obtain ⟨t', rfl⟩ := r2
  exact PySem.P.imul_int ⟨.int _, H, I.tok _, ⟨_, rfl⟩, q⟩ hc.ok
theorem ip_fdivC {X : Cx} : PIp X .FloorDiv (ipC CDiv fun i j => i / j) := by
  intro pins s σ H x y v u Q I r1 r2 h
  obtain ⟨i, j, e1, e2, hc, q⟩ := h
  subst e1; subst e2
  obtain ⟨t, rfl⟩ := r1
  obtain ⟨t', rfl⟩ := r2
  have h1 : (0 : Int) < j := hc.1
  have h2 : j < 1073741824 := hc.2
  refine ifloordiv_int (by omega) ?_ (.inl (PyProof.noPylong_small (by omega)))
  rw [Int.fdiv_eq_ediv_of_nonneg i (by omega)]
  exact ⟨.int _, H, I.tok _, ⟨_, rfl⟩, q⟩
/-! ### rounds later -/
def rl (c : Cd) (m : Nat) : Cd := (c.1, c.2.map (· + m * c.2.length))
theorem rl_len (c : Cd) (m : Nat) : (rl c m).2.length = c.2.length := List.length_map _
theorem rl_ok {c : Cd} (h : CdOk c) (m : Nat) : CdOk (rl c m) := ⟨by show c.1 < (rl c m).2.length; rw [rl_len]; exact h.1, by rw [rl_len]; exact h.2⟩
theorem rl_at {c : Cd} {m i : Nat} (h : i < c.2.length) : len (rl c m) i = len c i + m * c.2.length := getD_map_add _ _ h
theorem rl_zero (c : Cd) : rl c 0 = c := by
  refine Prod.ext rfl ?_
  show c.2.map (· + 0 * c.2.length) = c.2
  rw [Nat.zero_mul]
  exact List.map_id' _
theorem rl_it {c : Cd} (h : COk c) (f : Free c) (r : Nat) : rl c r = it (r * (c.2.length * c.2.length)) c := (it_rounds h f r).symm
theorem rl_bd {c : Cd} {B m D : Nat} (h12 : c.2.length ≤ 12) (h : ∀ n ∈ c.2, n < B) (hm : m * 12 ≤ D) : ∀ n ∈ (rl c m).2, n < B + D := fun n hn => by
  obtain ⟨x, hx, rfl⟩ := List.mem_map.mp hn
  have a := h x hx
  have b : m * c.2.length ≤ m * 12 := Nat.mul_le_mul_left m h12
  show x + m * c.2.length < B + D
  omega
/-- once reached, reached with any words more -/
def Rea (B : Cd → Bool) (p : Nat) : Prop := ∀ c d : Cd, c.2.length = p → d.2.length = p → (∀ i, i < p → len c i ≤ len d i) → B c = true → B d = true
theorem Rea.rl {B : Cd → Bool} {c : Cd} (R : Rea B c.2.length) {m n : Nat} (h : m ≤ n) (b : B (rl c m) = true) : B (rl c n) = true :=
  R _ _ (rl_len c m) (rl_len c n) (fun i hi => by
    rw [rl_at hi, rl_at hi]
    exact Nat.add_le_add_left (Nat.mul_le_mul_right _ h) _) b
theorem Rea.it {B : Cd → Bool} {c : Cd} (hc : COk c) (R : Rea B c.2.length) {m n : Nat} (h : m ≤ n) (b : B (it m c) = true) : B (it n c) = true := by
  refine R _ _ (it_len m) (it_len n) (fun i hi => ?_) b
  have z := len_mono (n - m) i (it_ok m hc)
  rw [← it_add, show m + (n - m) = n by omega] at z
  exact z
theorem bool_no {b : Bool} (h : ¬ b = true) : b = false := by
  cases b with
  | false => rfl
  | true => exact absurd rfl h
def Till (B : Cd → Bool) (c : Cd) (n : Nat) : Prop := B (it n c) = true ∧ ∀ m, m < n → B (it m c) = false
theorem till_one {B : Cd → Bool} {c : Cd} {m n : Nat} (a : Till B c m) (b : Till B c n) : m = n := by
  rcases Nat.lt_trichotomy m n with g | g | g
  · have z := b.2 m g
    rw [a.1] at z
    cases z
  · exact g
  · have z := a.2 n g
    rw [b.1] at z
    cases z
/-! ### what is promised -/
def tlR (B : Cd → Bool) (p : Nat) : TL := fun v H Q => ∃ c, Cat H v c ∧ CdOk c ∧ c.2.length = p ∧ (∀ n ∈ c.2, n < 10 ^ 60) ∧ ∀ H', Same H H' → Q (.bl (B c)) H'
def spReach (told : (Cd → Bool) → Cd → Hp → VK → Prop) (W : Nat) : TL → List V → Hp → VK → Prop := fun tl vs H Q => ∃ v c B c' q M, vs = [v] ∧ (∀ v H Q, tlOf c' q (tlR B c.2.length) v H Q → tl v H Q) ∧ H c' = some (CodeO c' q) ∧ Cat H v c ∧ CdOk c ∧ (∀ n ∈ c.2, n < W) ∧ Rea B c.2.length ∧ M ≤ 10 ^ 40 ∧ B (rl c M) = true ∧ told B c H Q
def spMost : TL → List V → Hp → VK → Prop := spReach (fun B c H Q => ∀ (r : Nat) H', Same H H' → r ≤ 10 ^ 40 → (r = 0 ∨ B (rl c r) = false) → B (rl c (r + 1)) = true → Q (.int (r : Int)) H') (10 ^ 50)
def spSteps : TL → List V → Hp → VK → Prop := spReach (fun B c H Q => ∀ (n : Nat) H', Same H H' → Till B c n → Q (.int (n : Int)) H') (10 ^ 49)
end Lk
end
section
set_option maxRecDepth 100000
set_option maxHeartbeats 2000000
/-! Letters reached, words learnt: what is promised. Defs whose code object is known. -/
namespace Lk
open PySem PySem.Spec PyProof.Rows L2 LamX NdefX
theorem tri_mono {l m : Nat} (h : l ≤ m) : tri l ≤ tri m := Nat.div_le_div_right (Nat.mul_le_mul h (by omega))
theorem tri_add (l k : Nat) : tri l + k ≤ tri (l + k) := by
  have a := two_tri (l + k)
  have b := two_tri l
  have c : k ≤ k * k := Nat.le_mul_self k
  simp only [Nat.mul_add, Nat.add_mul, Nat.mul_one, Nat.mul_comm k l] at a b
  generalize l * l = x at *
  generalize l * k = y at *
  generalize k * k = z at *
  omega
theorem lkI_mono : ∀ {ls ms : List Nat}, ls.length = ms.length → (∀ i, i < ls.length → ls.getD i 0 ≤ ms.getD i 0) → lkI ls ≤ lkI ms
  | [], [], _, _ => Int.le_refl _
  | [], _ :: _, h, _ => by cases h
  | _ :: _, [], h, _ => by cases h
  | l :: ls, m :: ms, h, hp => by
    rw [lkI_cons, lkI_cons]
    have a := tri_mono (hp 0 (by rw [List.length_cons]; omega))
    have a2 : tri l ≤ tri m := a
    have b := lkI_mono (ls := ls) (ms := ms) (Nat.succ.inj h) fun i hi => hp (i + 1) (by rw [List.length_cons]; omega)
    omega
theorem lkI_nonneg : ∀ ls : List Nat, 0 ≤ lkI ls
  | [] => Int.le_refl _
  | l :: ls => by
    rw [lkI_cons]
    have := lkI_nonneg ls
    omega
theorem lkI_more {ls : List Nat} (h : 0 < ls.length) (k : Nat) : lkI ls + (k : Int) ≤ lkI (ls.map (· + k)) := by
  cases ls with
  | nil => cases h
  | cons l ls =>
    rw [List.map_cons, lkI_cons, lkI_cons]
    have a := tri_add l k
    have b : lkI ls ≤ lkI (ls.map (· + k)) := lkI_mono (List.length_map _).symm fun i hi => by
      rw [getD_map_add k ls hi]
      omega
    omega
/-- so many letters known -/
def letB (due : Int) : Cd → Bool := fun x => decide (due < lkI x.2)
theorem letB_rea (due : Int) (p : Nat) : Rea (letB due) p := fun c d hc hd h b => by
  have z : lkI c.2 ≤ lkI d.2 := lkI_mono (by rw [hc, hd]) fun i hi => h i (by rw [← hc]; exact hi)
  have y := of_decide_eq_true b
  exact decide_eq_true (by omega)
theorem letB_ev {c : Cd} (hp : 0 < c.2.length) (n : Nat) : letB (lkI c.2 + (n : Int)) (rl c (n + 1)) = true := by
  refine decide_eq_true ?_
  have z := lkI_more hp ((n + 1) * c.2.length)
  have y : n + 1 ≤ (n + 1) * c.2.length := Nat.le_mul_of_pos_right _ hp
  show lkI c.2 + (n : Int) < lkI (c.2.map (· + (n + 1) * c.2.length))
  omega
/-- the word of so many letters known -/
def knoB (i : Nat) (l : Int) : Cd → Bool := fun x => decide (l ≤ (len x i : Int))
theorem knoB_rea {i : Nat} {p : Nat} (hi : i < p) (l : Int) : Rea (knoB i l) p := fun c d hc hd h b => by
  have z := h i hi
  have y := of_decide_eq_true b
  exact decide_eq_true (by omega)
theorem knoB_ev {c : Cd} {i : Nat} (hi : i < c.2.length) {n : Nat} : knoB i (n : Int) (rl c n) = true := by
  refine decide_eq_true ?_
  rw [rl_at hi]
  have y : n ≤ n * c.2.length := Nat.le_mul_of_pos_right _ (by omega)
  omega
/-- all but the tables of code objects stay -/
def Ext (T : List (Addr × Str)) (H H2 : Hp) : Prop := ExtN H H2 ∧ Tabs T H2
theorem Ext.refl {T : List (Addr × Str)} {H : Hp} (t : Tabs T H) : Ext T H H := ⟨ExtN.refl H, t⟩
theorem Ext.of {T : List (Addr × Str)} {H H2 : Hp} (t : Tabs T H) (s : Same H H2) : Ext T H H2 := ⟨ExtN.of s, t.ext s⟩
theorem Ext.trans {T : List (Addr × Str)} {H H1 H2 : Hp} (a : Ext T H H1) (b : Ext T H1 H2) : Ext T H H2 := ⟨a.1.trans b.1, b.2⟩
theorem Ext.same {T : List (Addr × Str)} {H H1 H2 : Hp} (a : Ext T H H1) (b : Same H1 H2) : Ext T H H2 := a.trans (Ext.of a.2 b)
theorem Ext.tup {T : List (Addr × Str)} {H H1 : Hp} (a : Ext T H H1) {b : Addr} {xs : List V} (e : H b = some (.tup xs)) : H1 b = some (.tup xs) := a.1 b _ e fun ps z => nomatch z
theorem Ext.lst {T : List (Addr × Str)} {H H1 : Hp} (a : Ext T H H1) {b : Addr} {xs : List V} (e : H b = some (.lst xs)) : H1 b = some (.lst xs) := a.1 b _ e fun ps z => nomatch z
/-- a heap without its tables -/
noncomputable def noTb (H : Hp) : Hp := fun b => match H b with
  | some (.tbl _) => none
  | o => o
theorem noTb_same {H : Hp} : Same (noTb H) H := fun b o e => by
  unfold noTb at e
  split at e
  · cases e
  · exact e
theorem noTb_ext {H H2 : Hp} (e : ExtN H H2) : Same (noTb H) H2 := fun b o h => e b o (noTb_same _ _ h) fun ps z => by
  have q := noTb_same _ _ h
  unfold noTb at h
  rw [q, z] at h
  cases h
theorem noTb_at {H : Hp} {b : Addr} {o : HO} (e : H b = some o) (n : ∀ ps, o ≠ .tbl ps) : noTb H b = some o := by
  unfold noTb
  rw [e]
  cases o <;> first | rfl | exact absurd rfl (n _)
mutual
theorem Th.noTb {H : Hp} : ∀ (d : PyData) {v : V}, Th H v d → Th (noTb H) v d
  | .none, _, h => by cases h; exact .non
  | .bool b, _, h => by cases h; exact .bl b
  | .int i, _, h => by cases h; exact .int i
  | .str x, _, h => by cases h; exact .str x
  | .list ds, _, h => by
    cases h with
    | lst e m => exact .lst (noTb_at e fun ps z => nomatch z) (ThAll.noTb ds m)
  | .tuple ds, _, h => by
    cases h with
    | tup e m => exact .tup (noTb_at e fun ps z => nomatch z) (ThAll.noTb ds m)
  | .dict kvs, _, h => by
    cases h with
    | dct e => exact .dct (noTb_at e fun ps z => nomatch z)
theorem ThAll.noTb {H : Hp} : ∀ (ds : List PyData) {vs : List V}, ThAll H vs ds → ThAll (noTb H) vs ds
  | [], _, h => by cases h; exact .nil
  | d :: ds, _, h => by
    cases h with
    | cons a b => exact .cons (Th.noTb d a) (ThAll.noTb ds b)
end
theorem Th.ext {T : List (Addr × Str)} {H H2 : Hp} (e : Ext T H H2) {d : PyData} {v : V} (h : Th H v d) : Th H2 v d := Th.same (noTb_ext e.1) _ (Th.noTb _ h)
theorem Cat.ext {T : List (Addr × Str)} {H H2 : Hp} (e : Ext T H H2) {v : V} {c : Cd} (h : Cat H v c) : Cat H2 v c := (Th.ext e h.th).cat
theorem Urn.ext {T : List (Addr × Str)} {H H2 : Hp} (e : Ext T H H2) {a : Addr} {n : Int} (h : Urn H a n) : Urn H2 a n := by
  obtain ⟨u0, u1, u2, eq, r⟩ := h
  exact ⟨u0, u1, u2, e.lst eq, r⟩
section
variable {P : Program} {w : World} {K : PySem.W.Frag} {mg : Str → Option Value} {base : Heap}
/-- its code object is the one at c -/
structure FunC (K : PySem.W.Frag) (x qual : Str) (st : Stmt) (f : Addr) (fd : FuncData) (c : Addr) : Prop where
  ex : ∃ (oc : Value) (od : Option Addr) (kV doc pm : Value) (an : Option Addr) (ct : Value) (osl : Array (Option Value)),
    fd = PySem.W.fnOf x qual (defArgs st) (defBody st) (defScope st) .none kV doc pm an (.ref c) ct ∧ K.lookup f = some ⟨oc, od, .func fd, osl⟩ ∧ PySem.W.codeIn K (.ref c) qual = true
theorem FunC.okX {x qual : Str} {st : Stmt} {f c : Addr} {fd : FuncData} {N ps : List Str} {k : Nat} {sp : Sp} (F : FunC K x qual st f fd c) (S : FnScope N ps (defScope st)) (len : ∀ vs H Q E, sp vs H Q E → vs.length = ps.length)
    (hbody : ∀ (A : Around) (outer : List Env) (s : Shared) (H : Hp) (vs : List V) (Q : VK) (E : XK), Room k (A.deeper (envOfC qual (defScope st) s.heap.objs.size f (.ref c))) → sp vs H Q E →
      ∃ t, PSs (cxOf (L2.CX P w) P w K mg base N qual (defScope st) f (.ref c) A outer s H E) (defBody st) t ∧ t { nx := fun _ H' => Q .non H', rt := Q } (L2.start N vs) H) : FnOk P w K mg base (L2.CX P w) (k + 1) f fd ps sp := by
  obtain ⟨oc, od, kV, doc, pm, an, ct, osl, rfl, lk, hcd⟩ := F.ex
  exact fn_of lk hcd S len fun A outer s H vs Q E hr hsp => hbody A outer s H vs Q E hr hsp
theorem FunC.ok {x qual : Str} {st : Stmt} {f c : Addr} {fd : FuncData} {N ps : List Str} {k : Nat} {sp : Sp} (F : FunC K x qual st f fd c) (S : FnScope N ps (defScope st)) (len : ∀ vs H Q E, sp vs H Q E → vs.length = ps.length)
    (hbody : ∀ (A : Around) (outer : List Env) (s : Shared) (H : Hp) (vs : List V) (Q : VK) (E : XK), Room k (A.deeper (envOfC qual (defScope st) s.heap.objs.size f (.ref c))) → sp vs H Q E →
      ∃ t, PSs (cxOf C8.CX0 P w K mg base N qual (defScope st) f (.ref c) A outer s H E).nox (defBody st) t ∧ t { nx := fun _ H' => Q .non H', rt := Q } (L2.start N vs) H) : FnOk P w K mg base C8.CX0 (k + 1) f fd ps sp := by
  obtain ⟨oc, od, kV, doc, pm, an, ct, osl, rfl, lk, hcd⟩ := F.ex
  refine fn_of lk hcd S len fun A outer s H vs Q E hr hsp => ?_
  obtain ⟨t, h, q⟩ := hbody A outer s H vs Q E hr hsp
  exact ⟨t, h.nox, q⟩
theorem FunC.of {x qual : Str} {st : Stmt} {f c : Addr} {oc : Value} {od an : Option Addr} {osl : Array (Option Value)} {kV doc pm ct : Value} (l : K.lookup f = some ⟨oc, od, .func (PySem.W.fnOf x qual (defArgs st) (defBody st) (defScope st) .none kV doc pm an (.ref c) ct), osl⟩) (hc : PySem.W.codeIn K (.ref c) qual = true) :
    FunC K x qual st f (PySem.W.fnOf x qual (defArgs st) (defBody st) (defScope st) .none kV doc pm an (.ref c) ct) c := ⟨_, _, _, _, _, _, _, _, rfl, l, hc⟩
end
/-- NoCoder, NoCount; else the number of the word that has the letter -/
def spNumAt (C1 C2 : Addr) (T : List (Addr × Str)) : Sp := fun vs H Q E => ∃ v u d e, vs = [v, u] ∧ Th H v d ∧ Th H u e ∧ Tabs T H ∧ (∀ c, d = cdD c → ∀ x ∈ c.2, x < 10 ^ 49) ∧ (isCd d = false → ∀ H', Same H H' → E (.ref C1) none H') ∧
  (isCd d = true → inR e 0 (10 ^ 36) = false → ∀ H', Same H H' → E (.ref C2) none H') ∧
  (∀ c (n : Nat), d = cdD c → CdOk c → e = .int n → n ≤ 10 ^ 36 → ∀ (m : Nat) H', Ext T H H' → Till (letB (lkI c.2 + (n : Int))) c m → Q (.int (m : Int)) H')
/-- how many steps till the word is known -/
def spKnown (T : List (Addr × Str)) : Sp := fun vs H Q _ => ∃ (v : V) (c : Cd) (i l : Nat), vs = [v, .int (i : Int), .int (l : Int)] ∧ Cat H v c ∧ CdOk c ∧ (∀ x ∈ c.2, x < 10 ^ 49) ∧ Tabs T H ∧ i < c.2.length ∧ l ≤ 10 ^ 40 ∧
  ∀ (m : Nat) H', Ext T H H' → Till (knoB i (l : Int)) c m → Q (.int (m : Int)) H'
end Lk
end
section
set_option maxRecDepth 100000
set_option maxHeartbeats 2000000
namespace Lk
open PySem PySem.Spec PyProof.Rows L2
def spPlace (C : Addr) : Sp := fun vs H Q E => ∃ v d, ∃ p : Nat, vs = [v, .int (p : Int)] ∧ 1 ≤ p ∧ p ≤ 12 ∧ Th H v d ∧ (inR d 0 ((p : Int) - 1) = true → Q .non H) ∧ (inR d 0 ((p : Int) - 1) = false → E (.ref C) none H)
section
variable {P : Program} {w : World} {K : PySem.W.Frag} {mg : Str → Option Value} {base : Heap}
theorem sc_refPlace : FnScope ["place", "places"] ["place", "places"] (defScope s_refuse_no_place) := ⟨rfl, rfl, rfl, by decide +kernel, rfl, by decide +kernel, by decide +kernel⟩
theorem ok_refPlace {f C : Addr} {fd : FuncData} (F : Fun K "refuse_no_place" "refuse_no_place" s_refuse_no_place f fd) (cw : C8.Cal P w K mg base 2 "is_within" spWithin []) (T : ErrC K mg "NoPlace" C) : FnOk P w K mg base (L2.CX P w) 3 f fd ["place", "places"] (spPlace C) := by
  refine F.okX sc_refPlace (fun vs H Q E h => ?_) (fun cdv A outer s H vs Q E hr h => ?_)
  · obtain ⟨v, d, p, rfl, _⟩ := h
    rfl
  · obtain ⟨v, d, p, rfl, h1, h12, hv, q0, q1⟩ := h
    refine ⟨_, pss_one (by exact (ps_if (pt_not (pt_val (C8.pe_c cw hr (Nat.le_refl _) rfl (pa_cons (pv 0) (pa_cons pe_int (pa_cons (pe_op op_sub (pv 1) pe_int) pa_nil))))))
      (pss_one (ps_raise rfl (takes_of rfl rfl rfl rfl) (SkE.pmk_own1 PySem.F.excBase_ValueError T.x T.g T.k (raises_own T.b T.t) rfl
        (pe_joined (.cons pe_str (.cons (pe_fmt (pe_op op_sub (pv 1) pe_int)) .nil)))))) pss_nil)), ?_⟩
    refine ⟨_, rfl, _, rfl, _, _, rfl, rfl, v, d, 0, _, rfl, hv, _, rfl, ?_⟩
    cases e : inR d 0 ((p : Int) - 1) with
    | true => exact q0 e
    | false =>
      have e1 := q1 e
      have hp : p = 1 ∨ p = 2 ∨ p = 3 ∨ p = 4 ∨ p = 5 ∨ p = 6 ∨ p = 7 ∨ p = 8 ∨ p = 9 ∨ p = 10 ∨ p = 11 ∨ p = 12 := by omega
      clear q0 q1 e h1 h12
      rcases hp with rfl | rfl | rfl | rfl | rfl | rfl | rfl | rfl | rfl | rfl | rfl | rfl <;>
      · refine ⟨_, rfl, (by decide +kernel), _, rfl, _, _, rfl, rfl, .inr ⟨_, rfl, (by decide +kernel), _, rfl, (by decide +kernel), ?_⟩⟩
        exact e1
end
end Lk
end
section
set_option maxRecDepth 100000
set_option maxHeartbeats 2000000
/-! repr of a tuple of texts. -/
namespace Lk
open PySem PySem.Spec PyProof.Rows L2
/-- texts as data -/
def sD (x : List Nat) : PyData := .str (SX.S x)
def xD (ws : List (List Nat)) : PyData := .tuple (ws.map sD)
theorem th_txs {H : Hp} : ∀ ws : List (List Nat), ThAll H (tx ws) (ws.map sD)
  | [] => .nil
  | w :: r => .cons (.str (SX.S w)) (th_txs r)
theorem th_xD {H : Hp} {p : Addr} {ws : List (List Nat)} (e : H p = some (.tup (tx ws))) : Th H (.ref p) (xD ws) := .tup e (th_txs ws)
theorem depth_sD : ∀ ws : List (List Nat), PyData.depthAll (ws.map sD) = 0
  | [] => by simp [PyData.depthAll]
  | w :: r => by simp [PyData.depthAll, PyData.depth, sD, depth_sD r]
theorem show_sD : ∀ ws : List (List Nat), PyData.showableAll (ws.map sD) = true
  | [] => by simp [PyData.showableAll]
  | w :: r => by simp [PyData.showableAll, PyData.showable, sD, show_sD r]
theorem wt_sD {x : List Nat} {n : Nat} (hz : Az x) (h : x.length ≤ n) : wt (sD x) ≤ 10 * n + 2 := by
  have z := PySem.StrLaws.reprText_len (SX.S x) (fun c hc => Nat.lt_of_le_of_lt (hz c hc).2 (by decide))
  rw [SX.S_len] at z
  exact Nat.le_trans z (Nat.add_le_add_right (Nat.mul_le_mul_left 10 h) 2)
theorem rep_xD {K : PySem.W.Frag} {H : Hp} {Q : VK} {p : Addr} {ws : List (List Nat)} (e : H p = some (.tup (tx ws))) (h : ws.length ≤ 1000) (hl : ∀ x ∈ ws, x.length ≤ 400) (hz : ∀ x ∈ ws, Az x) (q : Q (.str (xD ws).shown) H) : rRep K [.ref p] H Q := by
  refine ⟨.ref p, xD ws, rfl, Th.dq _ (th_xD e), (fun kvs z => nomatch z), ?_, ?_, ?_, q⟩
  · simp only [xD, PyData.showable, show_sD]
  · simp only [xD, PyData.depth, depth_sD]
    decide
  · have a := shown_wt (xD ws)
    have b := wts_le (B := 4002) (ds := ws.map sD) fun d hd => by
      obtain ⟨x, hx, rfl⟩ := List.mem_map.mp hd
      exact wt_sD (hz x hx) (hl x hx)
    rw [List.length_map] at b
    have c : wt (xD ws) = 3 + wts (ws.map sD) := rfl
    have d : ws.length * 4004 ≤ 1000 * 4004 := Nat.mul_le_mul_right _ h
    rw [sizeLine_eq]
    omega
theorem known_az {ws : List (List Nat)} (h : isKnown ws = true) : ∀ x ∈ ws, Az x := fun x hx => (isWord_iff.mp (List.all_eq_true.mp (isKnown_iff.mp h).1 x hx)).1
theorem sqLs {K : PySem.W.Frag} {H H2 : Hp} {a : Addr} {xs : List V} (s : Same H H2) (h : SqL K H a xs) : SqL K H2 a xs := by
  rcases h with (h | ⟨o, h⟩) | h
  · exact .inl (.inl (s _ _ h))
  · exact .inl (.inr ⟨o, s _ _ h⟩)
  · exact .inr h
/-- repr of a truth -/
theorem rep_bl {K : PySem.W.Frag} {H : Hp} {Q : VK} {b : Bool} (q : Q (.str (PyData.bool b).shown) H) : rRep K [.bl b] H Q := by
  refine ⟨.bl b, .bool b, rfl, .bl b, (fun kvs z => nomatch z), by simp [PyData.showable], by simp [PyData.depth], ?_, q⟩
  have a := shown_wt (.bool b)
  have c : wt (.bool b) = 5 := rfl
  rw [sizeLine_eq]
  omega
end Lk
end
section
set_option maxRecDepth 100000
set_option maxHeartbeats 2000000
/-! Any loops: their words till they are grown. -/
namespace Lk
open PySem PySem.Spec PyProof.Rows L2
/-- each is at least one less than they are many -/
def grown (ls : List Nat) : Bool := ls.all fun n => decide (ls.length ≤ n + 1)
/-- the next word is learnt, wherever it stands -/
def lnx (b : List Nat) (c : Nat × List Nat) : Nat × List Nat :=
  ((c.1 + (c.2.getD c.1 0 + 1)) % b.length, (List.range b.length).map fun q => if run b q (c.2.getD c.1 0 + 1) = run b c.1 (c.2.getD c.1 0 + 1) then c.2.getD c.1 0 + 1 else c.2.getD q 0)
def gs (b ls : List Nat) : Nat → Nat × List Nat
  | 0 => (0, ls)
  | k + 1 => lnx b (gs b ls k)
/-- they are grown first then -/
def GT (b ls : List Nat) (N : Nat) : Prop := grown (gs b ls N).2 = true ∧ ∀ k, k < N → grown (gs b ls k).2 = false
/-- unlike at each turn -/
def Root (b : List Nat) : Prop := ∀ i j, i < b.length → j < b.length → run b i b.length = run b j b.length → i = j
theorem root_of {l : List Nat} {d : Nat} (h : IsPer l d) : Root (l.take d) := by
  have p := per_of h
  have e : (l.take d).length = d := by rw [List.length_take]; exact Nat.min_eq_left h.2.1
  have p0 : 0 < l.length := Nat.lt_of_lt_of_le h.1 h.2.1
  have la : ∀ k, lat (l.take d) k = lat l k := fun k => by
    have hk : k % d < d := Nat.mod_lt _ h.1
    have z : lat (l.take d) k = (l.take d).getD (k % d) 0 := by unfold lat; rw [e]
    rw [z, take_at h.2.1 hk, per_mod p k]
  have one : ∀ i j, i < j → j < d → run (l.take d) i d = run (l.take d) j d → False := fun i j ij jd z => by
    refine absurd ((rot_per p0).mpr fun k => ?_) (h.2.2.2 (j - i) (by omega) (by omega))
    have at1 : ∀ t, t < d → lat l (i + t) = lat l (j + t) := fun t ht => by
      have y : (run (l.take d) i d)[t]? = (run (l.take d) j d)[t]? := congrArg (fun q : List Nat => q[t]?) z
      rw [run_at ht, run_at ht, la, la] at y
      exact Option.some.inj y
    have y := at1 ((k + (d - i % d)) % d) (Nat.mod_lt _ h.1)
    have i1 : i % d = i := Nat.mod_eq_of_lt (by omega)
    rw [i1] at y
    have c1 : lat l (i + (k + (d - i)) % d) = lat l k := by
      rw [← per_mod p (i + (k + (d - i)) % d), Nat.add_mod, Nat.mod_mod, ← Nat.add_mod, show i + (k + (d - i)) = k + d by omega, Nat.add_mod_right, per_mod p]
    have c2 : lat l (j + (k + (d - i)) % d) = lat l (k + (j - i)) := by
      rw [← per_mod p (j + (k + (d - i)) % d), Nat.add_mod, Nat.mod_mod, ← Nat.add_mod, show j + (k + (d - i)) = k + (j - i) + d by omega, Nat.add_mod_right, per_mod p]
    rw [c1, c2] at y
    exact y.symm
  intro i j hi hj z
  rw [e] at hi hj z
  rcases Nat.lt_trichotomy i j with c | c | c
  · exact absurd (one i j c hj z) id
  · exact c
  · exact absurd (one j i c hi z.symm) id
theorem run_long {b : List Nat} (r : Root b) {i j n : Nat} (hi : i < b.length) (hj : j < b.length) (hn : b.length ≤ n) (e : run b i n = run b j n) : i = j := by
  refine r i j hi hj ?_
  rw [← run_take hn, e, run_take hn]
/-- the turns' beginnings are alike just where the words are -/
theorem turn_run {b : List Nat} {q n : Nat} (hq : q < b.length) : (rotL b q).take n = run b q (min n b.length) := by
  refine List.ext_getElem? fun i => ?_
  rw [List.getElem?_take]
  by_cases c : i < min n b.length
  · have hi : i < b.length := by omega
    rw [if_pos (by omega), run_at c, List.getElem?_eq_getElem (by rw [rotL_len]; exact hi)]
    have z := rotL_at hq hi
    rw [getD_eq (by rw [rotL_len]; exact hi)] at z
    rw [z]
    unfold lat
    rw [Nat.add_comm q i]
  · by_cases c2 : i < n
    · rw [if_pos c2, List.getElem?_eq_none (by rw [rotL_len]; omega), List.getElem?_eq_none (by rw [run_len]; omega)]
    · rw [if_neg c2, List.getElem?_eq_none (by rw [run_len]; omega)]
theorem turn_eq {b : List Nat} (r : Root b) {x q n : Nat} (hx : x < b.length) (hq : q < b.length) : (rotL b q).take n = (rotL b x).take n ↔ run b q n = run b x n := by
  rw [turn_run hq, turn_run hx]
  rcases Nat.le_total n b.length with c | c
  · rw [Nat.min_eq_left c]
  · rw [Nat.min_eq_right c]
    exact ⟨fun z => by rw [r q x hq hx z], fun z => by rw [run_long r hq hx c z]⟩
/-- with each known word its beginnings are known -/
def Beg (ws : List (List Nat)) (b : List Nat) : Prop := ∀ q j, 1 ≤ j → run b q (j + 1) ∈ ws → run b q j ∈ ws
theorem beg_of {ws : List (List Nat)} (h : isKnown ws = true) (b : List Nat) : Beg ws b := fun q j j1 hm => by
  have z := of_decide_eq_true (List.all_eq_true.mp (isKnown_iff.mp h).2.2 _ hm)
  rw [run_len, Nat.add_sub_cancel, run_take (Nat.le_succ j)] at z
  rcases List.mem_cons.mp z with y | y
  · have e := congrArg List.length y
    rw [run_len] at e
    simp at e
    omega
  · exact y
theorem lnx_at {b ls : List Nat} {x q : Nat} (hq : q < b.length) : (lnx b (x, ls)).2.getD q 0 = if run b q (ls.getD x 0 + 1) = run b x (ls.getD x 0 + 1) then ls.getD x 0 + 1 else ls.getD q 0 := by
  show ((List.range b.length).map _).getD q 0 = _
  rw [List.getD_eq_getElem?_getD, List.getElem?_map, List.getElem?_range hq]
  rfl
theorem lnx_len (b : List Nat) (c : Nat × List Nat) : (lnx b c).2.length = b.length := by
  show ((List.range b.length).map _).length = _
  rw [List.length_map, List.length_range]
/-- what is known with the word that is learnt -/
theorem lns_step {ws : List (List Nat)} {b ls : List Nat} {x : Nat} (h : LNs ws b ls) (hb : Beg ws b) (hx : x < b.length) : LNs (ws ++ [run b x (ls.getD x 0 + 1)]) b (lnx b (x, ls)).2 ∧ Beg (ws ++ [run b x (ls.getD x 0 + 1)]) b := by
  have hx1 := h.2 x hx
  have inn : ∀ {y}, y ∈ ws ++ [run b x (ls.getD x 0 + 1)] ↔ y ∈ ws ∨ y = run b x (ls.getD x 0 + 1) := fun {y} => by rw [List.mem_append, List.mem_singleton]
  have len : ∀ {q n m a : Nat}, run b q n = run b a m → n = m := fun {q n m a} e => by
    have z := congrArg List.length e
    rwa [run_len, run_len] at z
  refine ⟨⟨lnx_len _ _, fun q hq => ?_⟩, fun q j j1 hm => ?_⟩
  · rw [lnx_at hq]
    by_cases c : run b q (ls.getD x 0 + 1) = run b x (ls.getD x 0 + 1)
    · rw [if_pos c]
      refine ⟨fun j j1 j2 => inn.mpr ?_, fun z => ?_⟩
      · by_cases e : j = ls.getD x 0 + 1
        · rw [e]
          exact .inr c
        · refine .inl ?_
          have z := hx1.all j j1 (by omega)
          rw [← run_take (show j ≤ ls.getD x 0 + 1 by omega), ← c, run_take (by omega)] at z
          exact z
      · rcases inn.mp z with y | y
        · have y2 := hb q _ (by omega) y
          rw [c] at y2
          exact hx1.no y2
        · have := len y
          omega
    · rw [if_neg c]
      have hq1 := h.2 q hq
      refine ⟨fun j j1 j2 => inn.mpr (.inl (hq1.all j j1 j2)), fun z => ?_⟩
      rcases inn.mp z with y | y
      · exact hq1.no y
      · have e := len y
        rw [e] at y
        exact c y
  · rcases inn.mp hm with y | y
    · exact inn.mpr (.inl (hb q j j1 y))
    · have e := len y
      refine inn.mpr (.inl ?_)
      have z := hx1.all j j1 (by omega)
      rw [← run_take (show j ≤ j + 1 by omega), y, run_take (by omega)]
      exact z
/-! ### how long it takes -/
/-- how many of the numbers above A up to n lead from r to q -/
def cgl (p r q A : Nat) : Nat → Nat
  | 0 => 0
  | n + 1 => cgl p r q A n + if A < n + 1 ∧ (r + (n + 1)) % p = q then 1 else 0
theorem cgl_mono {p r q A : Nat} : ∀ {m n : Nat}, m ≤ n → cgl p r q A m ≤ cgl p r q A n
  | m, 0, h => by rw [show m = 0 by omega]; exact Nat.le_refl _
  | m, n + 1, h => by
    rcases Nat.lt_or_ge n m with c | c
    · rw [show m = n + 1 by omega]
      exact Nat.le_refl _
    · exact Nat.le_trans (cgl_mono c) (Nat.le_add_right _ _)
theorem cgl_low {p r q A : Nat} : ∀ {n : Nat}, n ≤ A → cgl p r q A n = 0
  | 0, _ => rfl
  | n + 1, h => by
    show cgl p r q A n + _ = 0
    rw [cgl_low (by omega), if_neg (by omega)]
theorem cgl_many {p r q A : Nat} (hq : q < p) : ∀ k, k ≤ cgl p r q A (A + k * p)
  | 0 => Nat.zero_le _
  | k + 1 => by
    have ih := cgl_many (r := r) (A := A) hq k
    -- the one in the next p numbers
    have hm : (r + (A + k * p)) % p < p := Nat.mod_lt _ (by omega)
    obtain ⟨j, j1, jp, ej⟩ : ∃ j, 1 ≤ j ∧ j ≤ p ∧ (r + (A + k * p + j)) % p = q := by
      by_cases c : (r + (A + k * p)) % p < q
      · refine ⟨q - (r + (A + k * p)) % p, by omega, by omega, ?_⟩
        rw [← Nat.add_assoc, Nat.add_mod, Nat.mod_eq_of_lt (a := q - _) (by omega), show (r + (A + k * p)) % p + (q - (r + (A + k * p)) % p) = q by omega, Nat.mod_eq_of_lt hq]
      · refine ⟨p + q - (r + (A + k * p)) % p, by omega, by omega, ?_⟩
        rw [← Nat.add_assoc, Nat.add_mod]
        rcases Nat.eq_or_lt_of_le (show p + q - (r + (A + k * p)) % p ≤ p by omega) with e | e
        · rw [e, Nat.mod_self, Nat.add_zero, Nat.mod_mod]
          omega
        · rw [Nat.mod_eq_of_lt e, show (r + (A + k * p)) % p + (p + q - (r + (A + k * p)) % p) = q + p by omega, Nat.add_mod_right, Nat.mod_eq_of_lt hq]
    obtain ⟨i, rfl⟩ : ∃ i, j = i + 1 := ⟨j - 1, by omega⟩
    have s : cgl p r q A (A + k * p + i + 1) = cgl p r q A (A + k * p + i) + 1 := by
      show cgl p r q A (A + k * p + i) + _ = _
      rw [if_pos ⟨by omega, ej⟩]
    have a := cgl_mono (p := p) (r := r) (q := q) (A := A) (show A + k * p ≤ A + k * p + i by omega)
    have b := cgl_mono (p := p) (r := r) (q := q) (A := A) (show A + k * p + i + 1 ≤ A + (k + 1) * p by rw [Nat.add_mul, Nat.one_mul]; omega)
    omega
theorem sum_lt : ∀ {a c : List Nat}, a.length = c.length → (∀ i, i < a.length → a.getD i 0 ≤ c.getD i 0) → (∃ i, i < a.length ∧ a.getD i 0 < c.getD i 0) → a.sum < c.sum
  | [], _, _, _, h => by
    obtain ⟨i, hi, _⟩ := h
    cases hi
  | x :: a, [], e, _, _ => by cases e
  | x :: a, y :: c, e, h, g => by
    have e2 : a.length = c.length := by simpa using e
    have h0 : x ≤ y := by simpa using h 0 (by simp)
    have hs : ∀ i, i < a.length → a.getD i 0 ≤ c.getD i 0 := fun i hi => by simpa using h (i + 1) (by simpa using hi)
    have le : a.sum ≤ c.sum := by
      clear g h h0 e
      induction a generalizing c with
      | nil => cases c with
        | nil => exact Nat.le_refl _
        | cons y c => cases e2
      | cons x a ih => cases c with
        | nil => cases e2
        | cons y c =>
          have z0 : x ≤ y := by simpa using hs 0 (by simp)
          have z1 := ih c (by simpa using e2) fun i hi => by simpa using hs (i + 1) (by simpa using hi)
          rw [List.sum_cons, List.sum_cons]
          omega
    rw [List.sum_cons, List.sum_cons]
    obtain ⟨i, hi, gi⟩ := g
    cases i with
    | zero =>
      have : x < y := by simpa using gi
      omega
    | succ i =>
      have z := sum_lt e2 hs ⟨i, by simpa using hi, by simpa using gi⟩
      omega
theorem sum_leB {B : Nat} : ∀ {a : List Nat}, (∀ n ∈ a, n ≤ B) → a.sum ≤ a.length * B
  | [], _ => by simp
  | x :: a, h => by
    have z := sum_leB fun n hn => h n (List.mem_cons_of_mem x hn)
    have y := h x List.mem_cons_self
    rw [List.sum_cons, List.length_cons, Nat.add_mul, Nat.one_mul]
    omega
structure Gr (b : List Nat) (A k : Nat) (c : Nat × List Nat) : Prop where
  lt : c.1 < b.length
  ln : ∃ ws, LNs ws b c.2 ∧ Beg ws b
  ct : ∀ q r, q < b.length → r < b.length → cgl b.length r q A (c.2.getD r 0) ≤ c.2.getD q 0 + (if c.1 = q then 1 else 0)
  sum : k ≤ c.2.sum
theorem Gr.step {b : List Nat} {A k : Nat} {c : Nat × List Nat} (h : Gr b A k c) (r : Root b) (hA : b.length ≤ A) : Gr b A (k + 1) (lnx b c) := by
  obtain ⟨x, ls⟩ := c
  obtain ⟨ws, hl, hb⟩ := h.ln
  have hl : LNs ws b ls := hl
  have hx : x < b.length := h.lt
  have hlen : ls.length = b.length := hl.1
  have ax : (lnx b (x, ls)).2.getD x 0 = ls.getD x 0 + 1 := by rw [lnx_at hx, if_pos rfl]
  have up : ∀ q, q < b.length → ls.getD q 0 ≤ (lnx b (x, ls)).2.getD q 0 := fun q hq => by
    rw [lnx_at hq]
    by_cases c : run b q (ls.getD x 0 + 1) = run b x (ls.getD x 0 + 1)
    · rw [if_pos c]
      refine Nat.le_of_not_lt fun g => ?_
      have z := (hl.2 q hq).all (ls.getD x 0 + 1) (by omega) (by omega)
      rw [c] at z
      exact (hl.2 x hx).no z
    · rw [if_neg c]
      exact Nat.le_refl _
  have oth : ∀ q t, t < b.length → t ≠ x → cgl b.length t q A ((lnx b (x, ls)).2.getD t 0) ≤ cgl b.length t q A (ls.getD t 0) := fun q t ht ne => by
    rw [lnx_at ht]
    by_cases c : run b t (ls.getD x 0 + 1) = run b x (ls.getD x 0 + 1)
    · rw [if_pos c, cgl_low]
      · exact Nat.zero_le _
      · refine Nat.le_of_not_lt fun g => ne (run_long r ht hx (Nat.le_trans hA (Nat.le_of_lt g)) c)
    · rw [if_neg c]
      exact Nat.le_refl _
  have px : (lnx b (x, ls)).1 = (x + (ls.getD x 0 + 1)) % b.length := rfl
  refine ⟨Nat.mod_lt _ (by omega), ⟨_, lns_step hl hb hx⟩, fun q t hq ht => ?_, ?_⟩
  · have old := h.ct q t hq ht
    have old : cgl b.length t q A (ls.getD t 0) ≤ ls.getD q 0 + (if x = q then 1 else 0) := old
    by_cases e : t = x
    · subst e
      rw [ax]
      have s : cgl b.length t q A (ls.getD t 0 + 1) ≤ cgl b.length t q A (ls.getD t 0) + (if (lnx b (t, ls)).1 = q then 1 else 0) := by
        show cgl b.length t q A (ls.getD t 0) + _ ≤ _
        rw [px]
        by_cases c1 : A < ls.getD t 0 + 1 ∧ (t + (ls.getD t 0 + 1)) % b.length = q
        · rw [if_pos c1, if_pos c1.2]
          exact Nat.le_refl _
        · rw [if_neg c1]
          omega
      by_cases c2 : t = q
      · subst c2
        rw [if_pos rfl] at old
        rw [ax]
        omega
      · rw [if_neg c2] at old
        have := up q hq
        omega
    · have z := oth q t ht e
      by_cases c2 : x = q
      · subst c2
        rw [if_pos rfl] at old
        rw [ax]
        omega
      · rw [if_neg c2] at old
        have := up q hq
        omega
  · have z := sum_lt (a := ls) (c := (lnx b (x, ls)).2) (by rw [hlen, lnx_len]) (fun i hi => up i (by rw [← hlen]; exact hi)) ⟨x, by rw [hlen]; exact hx, by rw [ax]; exact Nat.lt_succ_self _⟩
    have := h.sum
    have h2 : k ≤ ls.sum := this
    omega
theorem not_grown {ls : List Nat} (h : grown ls = false) : ∃ q, q < ls.length ∧ ls.getD q 0 + 1 < ls.length := by
  refine Classical.byContradiction fun n => ?_
  have z : grown ls = true := List.all_eq_true.mpr fun y hy => decide_eq_true (Nat.le_of_not_lt fun g => n ?_)
  · rw [z] at h
    cases h
  · obtain ⟨i, hi, e⟩ := List.getElem_of_mem hy
    exact ⟨i, hi, by rw [getD_eq hi, e]; exact g⟩
theorem Gr.bound {b : List Nat} {A k : Nat} {c : Nat × List Nat} (h : Gr b A k c) (g : grown c.2 = false) : ∀ n ∈ c.2, n ≤ A + b.length * b.length := fun n hn => by
  obtain ⟨ws, hl, _⟩ := h.ln
  obtain ⟨i, hi, rfl⟩ := List.getElem_of_mem hn
  obtain ⟨q, hq, lq⟩ := not_grown g
  rw [hl.1] at hq lq hi
  have z := h.ct q i hq hi
  have e : c.2.getD i 0 = c.2[i] := getD_eq _
  rw [e] at z
  refine Nat.le_of_not_lt fun y => ?_
  have m := cgl_mono (p := b.length) (r := i) (q := q) (A := A) (Nat.le_of_lt y)
  have m2 := cgl_many (r := i) (A := A) hq b.length
  have o : (if c.1 = q then 1 else 0) ≤ 1 := by split <;> decide
  omega
theorem gs_gr {ws : List (List Nat)} {b ls : List Nat} {A : Nat} (r : Root b) (hl : LNs ws b ls) (hb : Beg ws b) (h0 : 0 < b.length) (hA : b.length ≤ A) (hw : ws.length ≤ A) : ∀ k, Gr b A k (gs b ls k)
  | 0 => ⟨h0, ⟨ws, hl, hb⟩, fun q t hq ht => by
      have z : (gs b ls 0).2.getD t 0 ≤ A := by
        show ls.getD t 0 ≤ A
        have hi : t < ls.length := by rw [hl.1]; exact ht
        rw [getD_eq hi]
        exact Nat.le_trans (hl.le _ (List.getElem_mem hi)) hw
      rw [cgl_low z]
      exact Nat.zero_le _, Nat.zero_le _⟩
  | k + 1 => (gs_gr r hl hb h0 hA hw k).step r hA
theorem gt_ex {ws : List (List Nat)} {b ls : List Nat} (r : Root b) (hl : LNs ws b ls) (hb : Beg ws b) (h0 : 0 < b.length) (h12 : b.length ≤ 12) (hw : ws.length ≤ 5000) :
    ∃ N, GT b ls N ∧ N ≤ 62000 ∧ ∀ k, k ≤ N → (gs b ls k).1 < b.length ∧ (gs b ls k).2.length = b.length ∧ ∀ n ∈ (gs b ls k).2, n ≤ 5200 := by
  have G := gs_gr (A := 5012) r hl hb h0 (by omega) (by omega)
  have pp : b.length * b.length ≤ 12 * 12 := Nat.mul_le_mul h12 h12
  obtain ⟨n, n1, n2⟩ : ∃ n, n ≤ 62000 ∧ grown (gs b ls n).2 = true := by
    refine Classical.byContradiction fun no => ?_
    have g : grown (gs b ls 62000).2 = false := by
      cases e : grown (gs b ls 62000).2 with
      | false => rfl
      | true => exact absurd ⟨62000, Nat.le_refl _, e⟩ no
    have z := sum_leB (B := 5156) (a := (gs b ls 62000).2) fun n hn => Nat.le_trans ((G 62000).bound g n hn) (by omega)
    have s := (G 62000).sum
    obtain ⟨ws2, hl2, _⟩ := (G 62000).ln
    rw [hl2.1] at z
    have m : b.length * 5156 ≤ 12 * 5156 := Nat.mul_le_mul_right _ h12
    omega
  obtain ⟨N, h1, h2, h3⟩ := least (p := fun n => grown (gs b ls n).2 = true) n n2
  have un : ∀ k, k < N → grown (gs b ls k).2 = false := fun k hk => by
    cases e : grown (gs b ls k).2 with
    | false => rfl
    | true => exact absurd e (h3 k hk)
  refine ⟨N, ⟨h1, un⟩, by omega, fun k hk => ⟨(G k).lt, ?_, ?_⟩⟩
  · obtain ⟨ws2, hl2, _⟩ := (G k).ln
    exact hl2.1
  · cases k with
    | zero => exact fun n hn => Nat.le_trans (hl.le n hn) (by omega)
    | succ k =>
      have g := (G k).bound (un k (by omega))
      have lt := (G k).lt
      obtain ⟨ws2, hl2, _⟩ := (G k).ln
      have one : ∀ q, q < b.length → (gs b ls k).2.getD q 0 ≤ 5156 := fun q hq => by
        have hi : q < (gs b ls k).2.length := by rw [hl2.1]; exact hq
        rw [getD_eq hi]
        exact Nat.le_trans (g _ (List.getElem_mem hi)) (by omega)
      intro n hn
      have hn2 : n ∈ (List.range b.length).map fun q => if run b q ((gs b ls k).2.getD (gs b ls k).1 0 + 1) = run b (gs b ls k).1 ((gs b ls k).2.getD (gs b ls k).1 0 + 1) then (gs b ls k).2.getD (gs b ls k).1 0 + 1 else (gs b ls k).2.getD q 0 := hn
      obtain ⟨q, hq, rfl⟩ := List.mem_map.mp hn2
      have a := one _ lt
      have c := one q (List.mem_range.mp hq)
      split <;> omega
end Lk
end
section
set_option maxRecDepth 100000
set_option maxHeartbeats 2000000
namespace Lk
open PySem PySem.Spec PyProof.Rows L2
section
variable {P : Program} {w : World} {K : PySem.W.Frag} {mg : Str → Option Value} {base : Heap}
end
section
variable {P : Program} {w : World} {K : PySem.W.Frag} {mg : Str → Option Value} {base : Heap}
end
/-- of what is known and a text: refused, or R of what is told -/
def spT (CK CT : Addr) (R : List (List Nat) → List Nat → List (List Nat) → Nat → Hp → Hp → V → Prop) : Sp := fun vs H Q E => ∃ kv tv b1 b2, vs = [kv, tv] ∧ KnownV H kv b1 ∧ TextV H tv b2 ∧ (b1 = false → ∀ H', Same H H' → E (.ref CK) none H') ∧ (b1 = true → b2 = false → ∀ H', Same H H' → E (.ref CT) none H') ∧
  (b1 = true → b2 = true → ∀ a ws t, kv = .ref a → H a = some (.tup (tx ws)) → isKnown ws = true → tv = .str (SX.S t) → ∀ ns r, Reads ([] :: ws) t 0 ns r → ∀ v H', Same H H' → R ws t ns r H H' v → Q v H')
def RCut (ws : List (List Nat)) (t : List Nat) (ns : List (List Nat)) (r : Nat) (H H' : Hp) (v : V) : Prop := ∃ p L, v = .ref p ∧ H p = none ∧ H L = none ∧ H' p = some (.tup [.ref L, .str (SX.S (t.drop r))]) ∧ H' L = some (.lst (tx ns))
theorem none_of {H H' : Hp} {p : Addr} (s : Same H H') (h : H' p = none) : H p = none := by
  cases e : H p with
  | none => rfl
  | some o => rw [s _ _ e] at h; cases h
section
variable {P : Program} {w : World} {K : PySem.W.Frag} {mg : Str → Option Value} {base : Heap}
/-- the pair of a new word -/
def pairV (ws ns : List (List Nat)) (l : List Nat) : List V := [.int ((([] :: ws) ++ ns).idxOf (l.take (l.length - 1)) : Nat), .str (SX.S (l.drop (l.length - 1)))]
def RPairs (ws : List (List Nat)) (t : List Nat) (ns : List (List Nat)) (r : Nat) (H H' : Hp) (v : V) : Prop := ∃ (L : Addr) (ps : List Addr), v = .ref L ∧ H L = none ∧ H' L = some (.lst (ps.map V.ref)) ∧ ps.length = ns.length ∧ (∀ q ∈ ps, H q = none) ∧
  ∀ (j : Nat) (q : Addr) (l : List Nat), ps[j]? = some q → ns[j]? = some l → H' q = some (.tup (pairV ws ns l))
abbrev nPw : List Str := ["known", "text", "numbers", "_", "word"]
end
theorem num_at : ∀ (n : Nat) (ws : List (List Nat)) (i : Nat) (k : Key) (v : V), (numFrom n ws)[i]? = some (k, v) → ∃ l, ws[i]? = some l ∧ k = Sum.inr (SX.S l)
  | _, [], i, k, v, h => by cases i <;> cases h
  | n, w :: r, 0, k, v, h => by
    have e : ((Sum.inr (SX.S w) : Key), V.int (n : Nat)) = (k, v) := Option.some.inj h
    exact ⟨w, rfl, (congrArg Prod.fst e).symm⟩
  | n, w :: r, i + 1, k, v, h => num_at (n + 1) r i k v h
/-- slot i's truth, as a test -/
def tFull (K : PySem.W.Frag) (i : Nat) : TT := fun σ H Q => tVar i σ H fun x H' => ∃ k, TruV K x H' k ∧ Q k H'
def fullT (l : List Nat) : Bool := decide (0 < l.length)
theorem full_words {ws : List (List Nat)} (h : ∀ l ∈ ws, l ≠ []) : (([] : List Nat) :: ws).filter fullT = ws := by
  rw [List.filter_cons_of_neg (by decide)]
  exact List.filter_eq_self.mpr fun l hl => decide_eq_true (List.length_pos_iff.mpr (h l hl))
def RBehind (ws : List (List Nat)) (t : List Nat) (ns : List (List Nat)) (r : Nat) (H H' : Hp) (v : V) : Prop := ∃ p us, v = .ref p ∧ H p = none ∧ H' p = some (.tup (tx us)) ∧ us.Perm (ws ++ ns) ∧ sortedS (us.map SX.S) = true
section
variable {P : Program} {w : World} {K : PySem.W.Frag} {mg : Str → Option Value} {base : Heap}
end
/-- what is neither a number nor a truth -/
inductive NoInt (H : Hp) : V → Prop where
  | non : NoInt H .non
  | str (z : Str) : NoInt H (.str z)
  | lst {a : Addr} {xs : List V} (e : H a = some (.lst xs)) : NoInt H (.ref a)
  | tup {a : Addr} {xs : List V} (e : H a = some (.tup xs)) : NoInt H (.ref a)
  | dK {a : Addr} {kvs : List (Key × V)} (e : H a = some (.dK kvs)) : NoInt H (.ref a)
theorem NoInt.same {H H' : Hp} {v : V} (h : NoInt H v) (s : Same H H') : NoInt H' v := by
  cases h with
  | non => exact .non
  | str z => exact .str z
  | lst e => exact .lst (s _ _ e)
  | tup e => exact .tup (s _ _ e)
  | dK e => exact .dK (s _ _ e)
theorem NoInt.ty {K : PySem.W.Frag} {H : Hp} {v : V} (h : NoInt H v) : ∃ n, TyX K H v (.type n) ∧ kitB n "int" = some false := by
  cases h with
  | non => exact ⟨"NoneType", .base .non, by decide +kernel⟩
  | str z => exact ⟨"str", .base (.str z), by decide +kernel⟩
  | lst e => exact ⟨"list", .base (.lst e), by decide +kernel⟩
  | tup e => exact ⟨"tuple", .base (.tup e), by decide +kernel⟩
  | dK e => exact ⟨"dict", .base (.dK e), by decide +kernel⟩
/-- v as a whole number, or none -/
inductive WholeV (H : Hp) : V → Option Int → Prop where
  | int (i : Int) : WholeV H (.int i) (some i)
  | bl (b : Bool) : WholeV H (.bl b) none
  | oth {v : V} (h : NoInt H v) : WholeV H v none
theorem WholeV.same {H H' : Hp} {v : V} {o : Option Int} (h : WholeV H v o) (s : Same H H') : WholeV H' v o := by
  cases h with
  | int i => exact .int i
  | bl b => exact .bl b
  | oth h => exact .oth (h.same s)
theorem WholeV.is {H : Hp} {v : V} {i : Int} (h : WholeV H v (some i)) : v = .int i := by
  cases h
  rfl
/-- whether v is one letter is b -/
inductive OneV (H : Hp) : V → Bool → Prop where
  | str (l : List Nat) (h : l.length ≤ 100000) : OneV H (.str (SX.S l)) (isAz l && decide (l.length = 1))
  | oth {v : V} (h : NoStr H v) : OneV H v false
theorem OneV.same {H H' : Hp} {v : V} {b : Bool} (h : OneV H v b) (s : Same H H') : OneV H' v b := by
  cases h with
  | str l z => exact .str l z
  | oth z => exact .oth (z.same s)
def inB (o : Option Int) (m : Int) : Bool := match o with
  | none => false
  | some i => decide (0 ≤ i) && decide (i < m)
/-- is_pair of v, with so many known texts, is b -/
inductive PairV (H : Hp) (m : Int) : V → Bool → Prop where
  | no {v : V} (h : NoTup H v) : PairV H m v false
  | long {a : Addr} {xs : List V} (e : H a = some (.tup xs)) (hl : xs.length ≠ 2) (hz : xs.length ≤ 100000) : PairV H m (.ref a) false
  | two {a : Addr} {x y : V} {o : Option Int} {b : Bool} (e : H a = some (.tup [x, y])) (hx : WholeV H x o) (hy : OneV H y b) : PairV H m (.ref a) (inB o m && b)
section
variable {P : Program} {w : World} {K : PySem.W.Frag} {mg : Str → Option Value} {base : Heap}
def spWholeT : Sp := fun vs H Q _ => ∃ v o, vs = [v] ∧ WholeV H v o ∧ Q (.bl o.isSome) H
def spPair : Sp := fun vs H Q _ => ∃ v m b, vs = [v, .int m] ∧ PairV H m v b ∧ ∀ H', Same H H' → Q (.bl b) H'
def spWithinW : Sp := fun vs H Q _ => ∃ (v : V) (o : Option Int) (m : Int), vs = [v, .int 0, .int (m - 1)] ∧ WholeV H v o ∧ Q (.bl (inB o m)) H
end
/-- a row of pairs that tells new words, one behind the other -/
inductive GoodR : List (List Nat) → List (Nat × Nat) → List (List Nat) → Prop where
  | nil (W : List (List Nat)) : GoodR W [] []
  | cons {W : List (List Nat)} {n c : Nat} {l : List Nat} {r : List (Nat × Nat)} {ns : List (List Nat)} (h : W[n]? = some l) (hc : 97 ≤ c ∧ c ≤ 122) (hn : l ++ [c] ∉ W) (hr : GoodR (W ++ [l ++ [c]]) r ns) : GoodR W ((n, c) :: r) ((l ++ [c]) :: ns)
theorem tx_snoc (W : List (List Nat)) (l : List Nat) : tx (W ++ [l]) = tx W ++ [V.str (SX.S l)] := by
  rw [tx, tx, List.map_append]
  rfl
theorem joinL_nil : ∀ l : List (List Nat), TL.joinL [] l = l.flatten
  | [] => rfl
  | [a] => by simp [TL.joinL]
  | a :: b :: r => by
    show a ++ ([] ++ TL.joinL [] (b :: r)) = _
    rw [joinL_nil (b :: r)]
    rfl
theorem join_tx (ns : List (List Nat)) : Txt.join (Str.ofString "") (ns.map SX.S) = SX.S ns.flatten := by
  have h := SX.join_S [] ns
  rw [joinL_nil] at h
  exact h
section
variable {P : Program} {w : World} {K : PySem.W.Frag} {mg : Str → Option Value} {base : Heap}
abbrev nQ : List Str := ["known", "row", "words", "numbers", "at", "pair", "number", "letter", "word"]
/-- where each pair tells a new word -/
def spReadP (CK : Addr) : Sp := fun vs H Q E => ∃ kv L b1, vs = [kv, .ref L] ∧ KnownV H kv b1 ∧ (b1 = false → ∀ H', Same H H' → E (.ref CK) none H') ∧
  (b1 = true → ∀ a ws, kv = .ref a → H a = some (.tup (tx ws)) → isKnown ws = true → ∃ (ps : List Addr) (prs : List (Nat × Nat)) (ns : List (List Nat)), H L = some (.lst (ps.map V.ref)) ∧ ps.length = prs.length ∧ prs.length ≤ 10000 ∧
    (∀ (j : Nat) (q : Addr) (n c : Nat), ps[j]? = some q → prs[j]? = some (n, c) → H q = some (.tup [.int (n : Nat), .str (SX.S [c])])) ∧ GoodR ([] :: ws) prs ns ∧ ns.flatten.length ≤ 10000000 ∧ ∀ v H', v = .str (SX.S ns.flatten) → Same H H' → Q v H')
end

end Lk
end
section
set_option maxRecDepth 100000
set_option maxHeartbeats 2000000
/-! Any loops: behind the words till they are grown they are as coders; the loop's own text is read by these words. -/
namespace Lk
open PySem PySem.Spec PyProof.Rows L2
theorem set_same {l : List Nat} {i v : Nat} (h : i < l.length) : (l.set i v).getD i 0 = v := by
  rw [List.getD_eq_getElem?_getD, List.getElem?_set_self h]
  rfl
theorem set_else {l : List Nat} {i j v : Nat} (h : i ≠ j) : (l.set i v).getD j 0 = l.getD j 0 := by
  rw [List.getD_eq_getElem?_getD, List.getElem?_set_ne h, ← List.getD_eq_getElem?_getD]
theorem grown_at {ls : List Nat} (h : grown ls = true) {q : Nat} (hq : q < ls.length) : ls.length ≤ ls.getD q 0 + 1 := by
  have z := of_decide_eq_true (List.all_eq_true.mp h (ls[q]) (List.getElem_mem hq))
  rw [getD_eq hq]
  exact z
/-- where it is grown the next word changes its own place only -/
theorem lnx_nx {b : List Nat} {c : Nat × List Nat} (r : Root b) (hx : c.1 < b.length) (hl : c.2.length = b.length) (g : grown c.2 = true) : lnx b c = nx c := by
  obtain ⟨x, ls⟩ := c
  have hx : x < b.length := hx
  have hl : ls.length = b.length := hl
  have g : grown ls = true := g
  have gx := grown_at g (q := x) (by rw [hl]; exact hx)
  rw [hl] at gx
  refine Prod.ext ?_ ?_
  · show (x + (ls.getD x 0 + 1)) % b.length = (x + (len (x, ls) x + 1)) % ls.length
    rw [hl]
    rfl
  · show (lnx b (x, ls)).2 = ls.set x (len (x, ls) x + 1)
    refine ext_getD (by rw [lnx_len, List.length_set, hl]) fun q hq => ?_
    rw [lnx_len] at hq
    rw [lnx_at hq]
    by_cases e : q = x
    · subst e
      rw [if_pos rfl]
      exact (set_same (by rw [hl]; exact hq)).symm
    · rw [if_neg (fun z => e (run_long r hq hx gx z))]
      exact (set_else (fun z => e z.symm)).symm
theorem nx_grown {c : Cd} (h : COk c) (g : grown c.2 = true) : grown (nx c).2 = true := by
  refine List.all_eq_true.mpr fun n hn => decide_eq_true ?_
  rw [nx_len]
  obtain ⟨i, hi, rfl⟩ := List.getElem_of_mem hn
  rw [nx_len] at hi
  have e : (nx c).2[i]'(by rw [nx_len]; exact hi) = (nx c).2.getD i 0 := (getD_eq (by rw [nx_len]; exact hi)).symm
  rw [e]
  show c.2.length ≤ (c.2.set c.1 (len c c.1 + 1)).getD i 0 + 1
  have gi := grown_at g hi
  by_cases z : i = c.1
  · subst z
    rw [List.getD_eq_getElem?_getD, List.getElem?_set_self hi]
    show c.2.length ≤ c.2.getD c.1 0 + 1 + 1
    omega
  · rw [List.getD_eq_getElem?_getD, List.getElem?_set_ne (fun y => z y.symm), ← List.getD_eq_getElem?_getD]
    exact gi
theorem it_grown : ∀ (n : Nat) {c : Cd}, COk c → grown c.2 = true → grown (it n c).2 = true
  | 0, _, _, g => g
  | n + 1, _, h, g => it_grown n (nx_ok h) (nx_grown h g)
/-- behind the words till it is grown it goes on as a coder -/
theorem gs_it {b ls : List Nat} {N : Nat} (r : Root b) (ok : COk (gs b ls N)) (hl : (gs b ls N).2.length = b.length) (g : grown (gs b ls N).2 = true) : ∀ j, gs b ls (N + j) = it j (gs b ls N)
  | 0 => rfl
  | j + 1 => by
    have ih := gs_it r ok hl g j
    rw [it_succ]
    show lnx b (gs b ls (N + j)) = _
    rw [ih]
    have o := it_ok j ok
    have l : (it j (gs b ls N)).2.length = b.length := (it_len j).trans hl
    refine lnx_nx r ?_ l (it_grown j ok g)
    rw [← l]
    exact o
/-- all letters unlike: each word changes its own place only, ever -/
theorem lnx_plain {b : List Nat} {c : Nat × List Nat} (nd : b.Nodup) (hx : c.1 < b.length) (hl : c.2.length = b.length) : lnx b c = nx c := by
  obtain ⟨x, ls⟩ := c
  have hx : x < b.length := hx
  have hl : ls.length = b.length := hl
  refine Prod.ext ?_ ?_
  · show (x + (ls.getD x 0 + 1)) % b.length = (x + (len (x, ls) x + 1)) % ls.length
    rw [hl]
    rfl
  · show (lnx b (x, ls)).2 = ls.set x (len (x, ls) x + 1)
    refine ext_getD (by rw [lnx_len, List.length_set, hl]) fun q hq => ?_
    rw [lnx_len] at hq
    rw [lnx_at hq]
    by_cases e : q = x
    · subst e
      rw [if_pos rfl]
      exact (set_same (by rw [hl]; exact hq)).symm
    · rw [if_neg (fun z => ?_)]
      · exact (set_else (fun z => e z.symm)).symm
      have y : (run b q (ls.getD x 0 + 1))[0]? = (run b x (ls.getD x 0 + 1))[0]? := by rw [z]
      rw [run_at (Nat.succ_pos _), run_at (Nat.succ_pos _), Nat.add_zero, Nat.add_zero] at y
      have y2 : lat b q = lat b x := Option.some.inj y
      unfold lat at y2
      rw [Nat.mod_eq_of_lt hq, Nat.mod_eq_of_lt hx, getD_eq hq, getD_eq hx] at y2
      exact e ((List.getElem_inj nd).mp y2)
theorem gs_plain {b ls : List Nat} (nd : b.Nodup) (h0 : 0 < b.length) (hl : ls.length = b.length) : ∀ j, gs b ls j = it j (0, ls)
  | 0 => rfl
  | j + 1 => by
    have ih := gs_plain nd h0 hl j
    have ok : COk (0, ls) := by show 0 < ls.length; omega
    rw [it_succ]
    show lnx b (gs b ls j) = _
    rw [ih]
    have l : (it j (0, ls)).2.length = b.length := (it_len j).trans hl
    refine lnx_plain nd ?_ l
    rw [← l]
    exact it_ok j ok
/-! ### reading -/
theorem run_mod (b : List Nat) (a n : Nat) : run b (a % b.length) n = run b a n := by
  unfold run
  refine List.map_congr_left fun i _ => ?_
  unfold lat
  rw [Nat.mod_add_mod]
theorem sub_run {b : List Nat} {T a e : Nat} (ha : a ≤ e) (he : e ≤ T) : sub (run b 0 T) a e = run b a (e - a) := by
  have hl : (run b 0 T).length = T := run_len _ _ _
  refine List.ext_getElem? fun i => ?_
  by_cases c : i < e - a
  · rw [sub_get c (by omega), run_at (by omega), run_at c, Nat.zero_add]
  · rw [List.getElem?_eq_none (by rw [sub_len ha (by omega)]; omega), List.getElem?_eq_none (by rw [run_len]; omega)]
/-- what is read at a place of the loop's text ends one letter behind the longest known word there -/
theorem le_ln {ws : List (List Nat)} {b : List Nat} {T a e n : Nat} (h : LE (([] : List Nat) :: ws) (run b 0 T) a e) (he : e < T) (hn : LN ws b (a % b.length) n) : e - a = n := by
  have ge := h.ge
  refine LN.uniq (ws := ws) (b := b) (a := a % b.length) ⟨fun j j1 j2 => ?_, fun z => ?_⟩ hn
  · have z := h.all (a + j) (by omega) (by omega)
    rw [sub_run (by omega) (by omega), show a + j - a = j by omega] at z
    rcases List.mem_cons.mp z with y | y
    · have := congrArg List.length y
      rw [run_len] at this
      simp at this
      omega
    · rw [run_mod]
      exact y
  · have y := h.no (by rw [run_len]; exact he)
    rw [sub_run (by omega) (by omega), show e + 1 - a = e - a + 1 by omega] at y
    rw [run_mod] at z
    exact y (List.mem_cons_of_mem _ z)
/-- the k-th word that is learnt -/
def wrdR (b ls : List Nat) (k : Nat) : List Nat := run b (gs b ls k).1 ((gs b ls k).2.getD (gs b ls k).1 0 + 1)
/-- the loop's text is read by the words that are learnt, one behind the other -/
theorem reads_gs {b ls : List Nat} {T : Nat} (h0 : 0 < b.length) {W : List (List Nat)} {t : List Nat} {a r : Nat} {ns : List (List Nat)} (h : Reads W t a ns r) : ∀ (k : Nat) (ws : List (List Nat)), W = ([] : List Nat) :: ws → t = run b 0 T → LNs ws b (gs b ls k).2 → Beg ws b → a % b.length = (gs b ls k).1 →
    ns = (List.range ns.length).map (fun j => wrdR b ls (k + j)) ∧ LNs (ws ++ ns) b (gs b ls (k + ns.length)).2 ∧ Beg (ws ++ ns) b ∧ r % b.length = (gs b ls (k + ns.length)).1 ∧ r = a + ns.flatten.length ∧ r ≤ T := by
  induction h with
  | done h =>
    rintro k ws rfl rfl hl hb ha
    have := h.ge
    rw [run_len] at this
    exact ⟨rfl, by rw [List.append_nil]; exact hl, by rw [List.append_nil]; exact hb, ha, by simp, this⟩
  | more h he hr ih =>
    rename_i W t a e r ns
    rintro k ws rfl rfl hl hb ha
    rw [run_len] at he
    have hlt : (gs b ls k).1 < b.length := by rw [← ha]; exact Nat.mod_lt _ h0
    have en := le_ln h he (n := (gs b ls k).2.getD (gs b ls k).1 0) (by rw [ha]; exact hl.2 _ hlt)
    have ge := h.ge
    have ew : sub (run b 0 T) a (e + 1) = wrdR b ls k := by
      rw [sub_run (by omega) (by omega), show e + 1 - a = e - a + 1 by omega, en]
      unfold wrdR
      rw [← ha, run_mod]
    have st := lns_step hl hb hlt
    have ea : (e + 1) % b.length = (gs b ls (k + 1)).1 := by
      show _ = ((gs b ls k).1 + ((gs b ls k).2.getD (gs b ls k).1 0 + 1)) % b.length
      rw [← en, ← ha, Nat.mod_add_mod]
      congr 1
      omega
    rw [ew] at hr ih ⊢
    obtain ⟨i1, i2, i3, i4, i5, i6⟩ := ih (k + 1) (ws ++ [wrdR b ls k]) rfl rfl st.1 st.2 ea
    have e1 : k + 1 + ns.length = k + (wrdR b ls k :: ns).length := by rw [List.length_cons]; omega
    refine ⟨?_, ?_, ?_, ?_, ?_, i6⟩
    · rw [List.length_cons, List.range_succ_eq_map, List.map_cons, List.map_map]
      refine congrArg (fun z => wrdR b ls k :: z) (i1.trans (List.map_congr_left fun j _ => ?_))
      show wrdR b ls (k + 1 + j) = wrdR b ls (k + (j + 1))
      congr 1
      omega
    · rw [← e1]
      rw [List.append_assoc] at i2
      exact i2
    · rw [List.append_assoc] at i3
      exact i3
    · rw [← e1]
      exact i4
    · rw [List.flatten_cons, List.length_append, i5]
      unfold wrdR
      rw [run_len, ← en]
      omega
end Lk
end
section
set_option maxRecDepth 100000
set_option maxHeartbeats 2000000
/-! Methods of the program's own classes, by their names. -/
namespace Lk
open PySem PySem.Spec PyProof.Rows L2
/-- a method that raises nothing -/
structure Met (P : Program) (w : World) (K : PySem.W.Frag) (mg : Str → Option Value) (base : Heap) (k : Nat) (C : Addr) (m : Str) (sp : Sp) : Prop where
  ex : ∃ (f : Addr) (fd : FuncData) (ps : List Str), FnOk P w K mg base CX0 k f fd ps sp ∧ Meth K C m f ∧ Binds K fd ps []
  cl : Cls K C
/-- a method that may raise -/
structure MetX (P : Program) (w : World) (K : PySem.W.Frag) (mg : Str → Option Value) (base : Heap) (k : Nat) (C : Addr) (m : Str) (sp : Sp) : Prop where
  ex : ∃ (f : Addr) (fd : FuncData) (ps : List Str), FnOk P w K mg base (L2.CX P w) k f fd ps sp ∧ Meth K C m f ∧ Binds K fd ps []
  cl : Cls K C
/-- a class that is made with a keyword or without -/
structure Maker (P : Program) (w : World) (K : PySem.W.Frag) (mg : Str → Option Value) (base : Heap) (k : Nat) (x : Str) (C : Addr) (first : V) (sp : Sp) (key : Str) : Prop where
  ex : ∃ (f : Addr) (fd : FuncData) (ps : List Str) (g0 g1 : List Value → List Value → List Value), FnOk P w K mg base (L2.CX P w) k f fd ps sp ∧ Mk K C f ∧ mg x = some (.ref C) ∧ KBn K fd ps 3 [] g0 (fun vs _ => vs ++ [first]) ∧ KBn K fd ps 3 [key] g1 (fun vs zs => vs ++ zs)
section
variable {X : Cx} {k j : Nat} {C : Addr} {m x : Str} {sp : Sp} {p pos apos : Pos} {o e : Expr} {es : List Expr} {ta : TE} {t : TA}
theorem pe_m (ho : PE X o ta) (c : Met X.prog X.w X.K X.mg X.base k C m sp) (hr : Room j X.A) (hk : k ≤ j) (ha : PA X (e :: es) t) {pl : PySem.Sem Bool}
    (h1 : starEach (e :: es) X.env = (false, eval e X.env) :: starEach es X.env := by rfl) (h2 : ((backTo pos (starEach es X.env)).any fun x => x.fst) = false := by rfl)
    (h3 : (eval ((o.Attribute m apos).Call (e :: es) [] pos) X.env = do
      let ov ← eval o X.env
      standAt apos.atName
      let __x ← holding [ov] (getMethod ov m pl)
      match __x with
        | (f, first) => callWith pos f first (backTo pos (starEach (e :: es) X.env)) (backToKw pos (keywordEach [] X.env))) := by rfl) :
    PE X (.Call (.Attribute o m apos) (e :: es) [] pos) (tMeth C m sp [] E0 ta t) := by
  obtain ⟨f, fd, ps, F, M, b⟩ := c.ex
  exact pe_meth ho c.cl M F (hr.mono hk) b .nil pass0 ha h1 h2 h3
theorem pe_m_0 (ho : PE X o ta) (c : Met X.prog X.w X.K X.mg X.base k C m sp) (hr : Room j X.A) (hk : k ≤ j) {pl : PySem.Sem Bool}
    (h3 : (eval ((o.Attribute m apos).Call [] [] pos) X.env = do
      let ov ← eval o X.env
      standAt apos.atName
      let __x ← holding [ov] (getMethod ov m pl)
      match __x with
        | (f, first) => callWith pos f first (backTo pos (starEach [] X.env)) (backToKw pos (keywordEach [] X.env))) := by rfl) :
    PE X (.Call (.Attribute o m apos) [] [] pos) (tMeth C m sp [] E0 ta tNil) := by
  obtain ⟨f, fd, ps, F, M, b⟩ := c.ex
  exact pe_meth0 ho c.cl M F (hr.mono hk) b .nil pass0 h3
theorem pe_mX (ho : PE X o ta) (c : MetX X.prog X.w X.K X.mg X.base k C m sp) (hr : Room j X.A) (hk : k ≤ j) (ha : PA X (e :: es) t) {pl : PySem.Sem Bool}
    (h1 : starEach (e :: es) X.env = (false, eval e X.env) :: starEach es X.env := by rfl) (h2 : ((backTo pos (starEach es X.env)).any fun x => x.fst) = false := by rfl)
    (h3 : (eval ((o.Attribute m apos).Call (e :: es) [] pos) X.env = do
      let ov ← eval o X.env
      standAt apos.atName
      let __x ← holding [ov] (getMethod ov m pl)
      match __x with
        | (f, first) => callWith pos f first (backTo pos (starEach (e :: es) X.env)) (backToKw pos (keywordEach [] X.env))) := by rfl) :
    PE X (.Call (.Attribute o m apos) (e :: es) [] pos) (tMeth C m sp [] E0 ta t) := by
  obtain ⟨f, fd, ps, F, M, b⟩ := c.ex
  exact pe_meth ho c.cl M F (hr.mono hk) b .nil passL ha h1 h2 h3
theorem pe_mX_0 (ho : PE X o ta) (c : MetX X.prog X.w X.K X.mg X.base k C m sp) (hr : Room j X.A) (hk : k ≤ j) {pl : PySem.Sem Bool}
    (h3 : (eval ((o.Attribute m apos).Call [] [] pos) X.env = do
      let ov ← eval o X.env
      standAt apos.atName
      let __x ← holding [ov] (getMethod ov m pl)
      match __x with
        | (f, first) => callWith pos f first (backTo pos (starEach [] X.env)) (backToKw pos (keywordEach [] X.env))) := by rfl) :
    PE X (.Call (.Attribute o m apos) [] [] pos) (tMeth C m sp [] E0 ta tNil) := by
  obtain ⟨f, fd, ps, F, M, b⟩ := c.ex
  exact pe_meth0 ho c.cl M F (hr.mono hk) b .nil passL h3
theorem pe_mk1 {key : Str} {first : V} {kws : List Keyword} {tk : TA} (c : Maker X.prog X.w X.K X.mg X.base k x C first sp key) (hr : Room j X.A) (hk : k + 1 ≤ j) (hg : Gl X x) (ha : PA X (e :: es) t) (hkw : PK X kws tk)
    (h0 : ((backToKw pos (keywordEach kws X.env)).all fun x => x.fst.isSome) = true := by rfl)
    (h1 : List.filterMap (fun x => x.fst) (backToKw pos (keywordEach kws X.env)) = [key] := by rfl)
    (h2 : (x == Str.ofString "__debug__") = false := by decide)
    (h3 : starEach (e :: es) X.env = (false, eval e X.env) :: starEach es X.env := by rfl)
    (h4 : (((backTo pos (starEach (e :: es) X.env)).any fun x => x.fst) || (backToKw pos (keywordEach kws X.env)).any fun x => x.fst.isNone) = false := by rfl) :
    PE X (.Call (.Name x p) (e :: es) kws pos) (tMakeK C 2 1 sp (fun vs zs => vs ++ zs) E0 t tk) := by
  obtain ⟨f, fd, ps, g0, g1, F, M, hm, b0, b1⟩ := c.ex
  exact pe_makeK (ks := [key]) M F (hr.mono hk) hg hm b1 passL ha hkw h0 h1 h2 h3 h4
theorem pe_mk0 {key : Str} {first : V} (c : Maker X.prog X.w X.K X.mg X.base k x C first sp key) (hr : Room j X.A) (hk : k + 1 ≤ j) (hg : Gl X x) (ha : PA X (e :: es) t)
    (h2 : (x == Str.ofString "__debug__") = false := by decide)
    (h3 : starEach (e :: es) X.env = (false, eval e X.env) :: starEach es X.env := by rfl)
    (h4 : (((backTo pos (starEach (e :: es) X.env)).any fun x => x.fst) || (backToKw pos (keywordEach [] X.env)).any fun x => x.fst.isNone) = false := by rfl) :
    PE X (.Call (.Name x p) (e :: es) [] pos) (tMakeK C 2 0 sp (fun vs _ => vs ++ [first]) E0 t tNil) := by
  obtain ⟨f, fd, ps, g0, g1, F, M, hm, b0, b1⟩ := c.ex
  exact pe_makeK (ks := []) M F (hr.mono hk) hg hm b0 passL ha pk_nil (by rfl) (by rfl) h2 h3 h4
end
end Lk
namespace Lk
open PySem PySem.Spec PyProof.Rows L2
variable {P : Program} {w : World} {K : PySem.W.Frag} {mg : Str → Option Value} {base : Heap} {k : Nat} {C f : Addr} {fd : FuncData} {ps : List Str} {m : Str} {sp : Sp}
theorem mkMet (M : Meth K C m f) (c : Cls K C) (b : Binds K fd ps []) (ok : FnOk P w K mg base CX0 k f fd ps sp) : Met P w K mg base k C m sp := ⟨⟨f, fd, ps, ok, M, b⟩, c⟩
theorem mkMetX (M : Meth K C m f) (c : Cls K C) (b : Binds K fd ps []) (ok : FnOk P w K mg base (L2.CX P w) k f fd ps sp) : MetX P w K mg base k C m sp := ⟨⟨f, fd, ps, ok, M, b⟩, c⟩
end Lk
namespace Lk
open PySem PySem.Spec PyProof.Rows L2
/-- o.f as the target of an assignment -/
def gFld (K : PySem.W.Frag) (to : TE) (f : Str) : TG := fun y σ H R => to σ H fun x H1 => ∃ a C dx fs, x = .ref a ∧ H1 a = some (.ins C dx fs) ∧ Cls K C ∧ NoAttr K C f ∧ fs.length < 1000 ∧ R σ (upd H1 a (.ins C dx (putF f y fs)))
theorem pg_fld {X : Cx} {o : Expr} {f : Str} {pos : Pos} {to : TE} (ho : PE X o to) : PG X (.Attribute o f pos) (gFld X.K to f) := by
  refine ⟨fun pins s σ H v u Q I r h => PySem.W.kas_attr (thn (ho.run pins s σ H _ I h) fun ov s1 ⟨x, H1, I1, rx, a, C, dx, fs, ex, hx, hc, hn, hl, q⟩ => ?_)⟩
  subst ex
  cases rx
  exact setattr_ok I1 hx hc hn hl r fun s' I' => ⟨σ, _, I', q⟩
end Lk
end
section
set_option maxRecDepth 100000
set_option maxHeartbeats 4000000
/-! Learners: what stands on the heap where one stands. -/
namespace Lk
open PySem PySem.Spec PyProof.Rows L2
inductive Al2 {α β : Type} (R : α → β → Prop) : List α → List β → Prop
  | nil : Al2 R [] []
  | cons {a : α} {b : β} {as : List α} {bs : List β} (h : R a b) (t : Al2 R as bs) : Al2 R (a :: as) (b :: bs)
namespace Al2
variable {α β : Type} {R S : α → β → Prop}
theorem mono (h : ∀ a b, R a b → S a b) : ∀ {as : List α} {bs : List β}, Al2 R as bs → Al2 S as bs
  | _, _, .nil => .nil
  | _, _, .cons x t => .cons (h _ _ x) (mono h t)
theorem len : ∀ {as : List α} {bs : List β}, Al2 R as bs → as.length = bs.length
  | _, _, .nil => rfl
  | _, _, .cons _ t => congrArg (· + 1) t.len
theorem push {a : α} {b : β} (h : R a b) : ∀ {as : List α} {bs : List β}, Al2 R as bs → Al2 R (as ++ [a]) (bs ++ [b])
  | _, _, .nil => .cons h .nil
  | _, _, .cons x t => .cons x (push h t)
theorem get : ∀ {as : List α} {bs : List β}, Al2 R as bs → ∀ {i : Nat} {a : α}, as[i]? = some a → ∃ b, bs[i]? = some b ∧ R a b
  | _, _, .cons x t, 0, a, e => by
    cases e
    exact ⟨_, rfl, x⟩
  | _, _, .cons x t, i + 1, a, e => get t (by simpa using e)
theorem get' : ∀ {as : List α} {bs : List β}, Al2 R as bs → ∀ {i : Nat} {b : β}, bs[i]? = some b → ∃ a, as[i]? = some a ∧ R a b
  | _, _, .cons x t, 0, b, e => by
    cases e
    exact ⟨_, rfl, x⟩
  | _, _, .cons x t, i + 1, b, e => get' t (by simpa using e)
end Al2
/-! ### the fields -/
theorem f01 : (("_loop" : Str) = "_now") = False := by simp; decide +kernel
theorem f02 : (("_loop" : Str) = "_learnt") = False := by simp; decide +kernel
theorem f03 : (("_loop" : Str) = "_deeds") = False := by simp; decide +kernel
theorem f04 : (("_loop" : Str) = "_ahead") = False := by simp; decide +kernel
theorem f12 : (("_now" : Str) = "_learnt") = False := by simp; decide +kernel
theorem f13 : (("_now" : Str) = "_deeds") = False := by simp; decide +kernel
theorem f14 : (("_now" : Str) = "_ahead") = False := by simp; decide +kernel
theorem f23 : (("_learnt" : Str) = "_deeds") = False := by simp; decide +kernel
theorem f24 : (("_learnt" : Str) = "_ahead") = False := by simp; decide +kernel
theorem f34 : (("_deeds" : Str) = "_ahead") = False := by simp; decide +kernel
def flds (l : List Nat) (v : V) (n : Nat) (D A : Addr) : List (Str × V) := [("_loop", .str (SX.S l)), ("_now", v), ("_learnt", .int (n : Int)), ("_deeds", .ref D), ("_ahead", .ref A)]
theorem flds_mk {l : List Nat} {v : V} {n : Int} {m : Nat} {D A : Addr} (e : n = (m : Int)) : putF "_ahead" (.ref A) (putF "_deeds" (.ref D) (putF "_learnt" (.int n) (putF "_now" v (putF "_loop" (.str (SX.S l)) [])))) = flds l v m D A := by
  subst e
  simp only [putF, f01, f02, f03, f04, f12, f13, f14, f23, f24, f34, if_false, flds]
theorem flds_now {l : List Nat} {v u : V} {n : Nat} {D A : Addr} : putF "_now" u (flds l v n D A) = flds l u n D A := by
  simp only [putF, flds, f01, if_false, if_true]
theorem flds_learnt {l : List Nat} {v : V} {n : Nat} {m : Nat} {k : Int} {D A : Addr} (e : k = (m : Int)) : putF "_learnt" (.int k) (flds l v n D A) = flds l v m D A := by
  subst e
  simp only [putF, flds, f02, f12, if_false, if_true]
theorem get_at {α : Type} {x y : Str} {v : α} {r : List (Str × α)} (h : (x = y) = False) : List.lookup y ((x, v) :: r) = List.lookup y r := by
  have ne : ¬ x = y := fun z => h ▸ z
  have z : (y == x) = false := by
    rw [beq_eq_false_iff_ne]
    exact fun q => ne q.symm
  show (match y == x with | true => some v | false => List.lookup y r) = _
  rw [z]
theorem get_hit {α : Type} {y : Str} {v : α} {r : List (Str × α)} : List.lookup y ((y, v) :: r) = some v := by
  show (match y == y with | true => some v | false => List.lookup y r) = _
  rw [beq_self_eq_true]
section
variable {l : List Nat} {v : V} {n : Nat} {D A : Addr}
theorem fl_loop : List.lookup ("_loop" : Str) (flds l v n D A) = some (.str (SX.S l)) := get_hit
theorem fl_now : List.lookup ("_now" : Str) (flds l v n D A) = some v := (get_at f01).trans get_hit
theorem fl_learnt : List.lookup ("_learnt" : Str) (flds l v n D A) = some (.int (n : Int)) := (get_at f02).trans ((get_at f12).trans get_hit)
theorem fl_deeds : List.lookup ("_deeds" : Str) (flds l v n D A) = some (.ref D) := (get_at f03).trans ((get_at f13).trans ((get_at f23).trans get_hit))
theorem fl_ahead : List.lookup ("_ahead" : Str) (flds l v n D A) = some (.ref A) := (get_at f04).trans ((get_at f14).trans ((get_at f24).trans ((get_at f34).trans get_hit)))
theorem fl_no {m : Str} (h0 : (("_loop" : Str) = m) = False) (h1 : (("_now" : Str) = m) = False) (h2 : (("_learnt" : Str) = m) = False) (h3 : (("_deeds" : Str) = m) = False) (h4 : (("_ahead" : Str) = m) = False) : List.lookup m (flds l v n D A) = none :=
  (get_at h0).trans ((get_at h1).trans ((get_at h2).trans ((get_at h3).trans ((get_at h4).trans rfl))))
end
/-! ### what a Learner is -/
inductive Deed where
  | learn (n : Nat)
  | teach (w : List Nat)
/-- its loop, its coder, how many words it has learnt, and its deeds with what was ahead of each -/
structure Ln where
  loop : List Nat
  now : Cd
  n : Nat
  rows : List (Deed × Cd × Nat)
def DeedV (H : Hp) (u : V) (r : Deed × Cd × Nat) : Prop := ∃ a, u = .ref a ∧ H a = some (.tup (match r.1 with | .learn n => [.str "learn", .int (n : Int)] | .teach w => [.str "teach", .str (SX.S w)]))
def RowV (H : Hp) (u : V) (r : Deed × Cd × Nat) : Prop := ∃ a v, u = .ref a ∧ H a = some (.tup [v, .int (r.2.2 : Int)]) ∧ Cat H v r.2.1
structure LnAt (C : Addr) (H : Hp) (p D A : Addr) (x : Ln) : Prop where
  ob : ∃ dx v, H p = some (.ins C dx (flds x.loop v x.n D A)) ∧ Cat H v x.now
  dd : ∃ us, H D = some (.lst us) ∧ Al2 (DeedV H) us x.rows
  ah : ∃ us, H A = some (.lst us) ∧ Al2 (RowV H) us x.rows
  ne : D ≠ A
/-- all else is as it was -/
def Rest (p D A : Addr) (H H' : Hp) : Prop := ∀ b o, H b = some o → b ≠ p → b ≠ D → b ≠ A → H' b = some o
theorem Rest.refl {p D A : Addr} {H : Hp} : Rest p D A H H := fun _ _ e _ _ _ => e
theorem Rest.trans {p D A : Addr} {H H1 H2 : Hp} (a : Rest p D A H H1) (b : Rest p D A H1 H2) : Rest p D A H H2 := fun x o e h1 h2 h3 => b x o (a x o e h1 h2 h3) h1 h2 h3
theorem Rest.of {p D A : Addr} {H H1 : Hp} (s : Same H H1) : Rest p D A H H1 := fun x o e _ _ _ => s x o e
theorem Rest.upd {p D A q : Addr} {H H1 : Hp} {o : HO} (s : Rest p D A H H1) (hq : q = p ∨ q = D ∨ q = A ∨ H q = none) : Rest p D A H (L2.upd H1 q o) := fun x y e h1 h2 h3 => by
  have ne : x ≠ q := by
    rintro rfl
    rcases hq with rfl | rfl | rfl | z
    · exact h1 rfl
    · exact h2 rfl
    · exact h3 rfl
    · rw [z] at e
      cases e
  rw [upd_ne ne]
  exact s x y e h1 h2 h3
/-- a new learner's deeds change nothing that stood ahead of it -/
theorem Rest.same {p D A : Addr} {H0 H H1 : Hp} (r : Rest p D A H H1) (s : Same H0 H) (hp : H0 p = none) (hD : H0 D = none) (hA : H0 A = none) : Same H0 H1 := fun b o e => r b o (s b o e) (ne_of_none e hp) (ne_of_none e hD) (ne_of_none e hA)
theorem tup_ne {H : Hp} {a b : Addr} {xs : List V} {o : HO} (h : H a = some (.tup xs)) (k : H b = some o) (no : ∀ ys, o ≠ .tup ys) : a ≠ b := by
  rintro rfl
  rw [h] at k
  exact no xs (Option.some.inj k).symm
/-- what is told by tuples stays where only a learner changes -/
def Tups (H H' : Hp) : Prop := ∀ a xs, H a = some (.tup xs) → H' a = some (.tup xs)
theorem Tups.cat {H H' : Hp} (t : Tups H H') {v : V} {c : Cd} (h : Cat H v c) : Cat H' v c := by
  obtain ⟨a, b, e, h1, h2⟩ := h
  exact ⟨a, b, e, t _ _ h1, t _ _ h2⟩
theorem Tups.row {H H' : Hp} (t : Tups H H') {u : V} {r : Deed × Cd × Nat} (h : RowV H u r) : RowV H' u r := by
  obtain ⟨a, v, e, h1, h2⟩ := h
  exact ⟨a, v, e, t _ _ h1, t.cat h2⟩
theorem Tups.deed {H H' : Hp} (t : Tups H H') {u : V} {r : Deed × Cd × Nat} (h : DeedV H u r) : DeedV H' u r := by
  obtain ⟨a, e, h1⟩ := h
  exact ⟨a, e, t _ _ h1⟩
theorem Tups.of {H H' : Hp} (s : Same H H') : Tups H H' := fun a xs e => s a _ e
theorem Tups.trans {H H1 H2 : Hp} (a : Tups H H1) (b : Tups H1 H2) : Tups H H2 := fun x xs e => b x xs (a x xs e)
theorem LnAt.tups {C : Addr} {H H' : Hp} {p D A : Addr} {x : Ln} (L : LnAt C H p D A x) (r : Rest p D A H H') : Tups H H' := fun a xs e => by
  obtain ⟨dx, v, hp, _⟩ := L.ob
  obtain ⟨us, hD, _⟩ := L.dd
  obtain ⟨ts, hA, _⟩ := L.ah
  exact r a _ e (tup_ne e hp (fun _ z => nomatch z)) (tup_ne e hD (fun _ z => nomatch z)) (tup_ne e hA (fun _ z => nomatch z))
theorem LnAt.same {C : Addr} {H H' : Hp} {p D A : Addr} {x : Ln} (L : LnAt C H p D A x) (s : Same H H') : LnAt C H' p D A x := by
  obtain ⟨⟨dx, v, h1, h2⟩, ⟨us, h3, h4⟩, ⟨ts, h5, h6⟩, ne⟩ := L
  have t := Tups.of s
  exact ⟨⟨dx, v, s _ _ h1, h2.same s⟩, ⟨us, s _ _ h3, h4.mono fun _ _ z => t.deed z⟩, ⟨ts, s _ _ h5, h6.mono fun _ _ z => t.row z⟩, ne⟩
/-! ### what is told of one -/
def Ln.learn (x : Ln) (k : Nat) : Ln := ⟨x.loop, it k x.now, x.n + k, x.rows ++ [(.learn k, x.now, x.n)]⟩
def Ln.teach (x : Ln) (w : List Nat) (a : Nat) : Ln := ⟨x.loop, (x.now.1, x.now.2.set a (x.now.2.getD a 0 + 1)), x.n, x.rows ++ [(.teach w, x.now, x.n)]⟩
/-- the row that the word of this number was learnt by -/
def Ln.row (x : Ln) (k : Nat) : Option (Deed × Cd × Nat) := (x.rows.filter fun r => decide (r.2.2 < k)).getLast?
/-- where in the loop the word stands -/
def standsAt (l w : List Nat) (k : Nat) : Bool := decide (w.head? = l[k]?) && decide (run l k w.length = w)
def placeOf (l w : List Nat) : Option Nat := (List.range l.length).find? (standsAt l w)
theorem place_some {l w : List Nat} {i : Nat} (hi : i < l.length) (h : standsAt l w i = true) (no : ∀ k, k < i → standsAt l w k = false) : placeOf l w = some i := by
  unfold placeOf
  rw [List.find?_range_eq_some]
  exact ⟨h, List.mem_range.mpr hi, fun j hj => by rw [no j hj]; rfl⟩
theorem place_none {l w : List Nat} (no : ∀ k, k < l.length → standsAt l w k = false) : placeOf l w = none := by
  unfold placeOf
  rw [List.find?_range_eq_none]
  exact fun j hj => by rw [no j hj]; rfl
theorem place_run {l : List Nat} {k n : Nat} (nd : l.Nodup) (hk : k < l.length) (hn : 0 < n) : placeOf l (run l k n) = some k := by
  have hd : (run l k n).head? = l[k]? := by
    rw [List.head?_eq_getElem?, run_at hn]
    show some (lat l (k + 0)) = _
    unfold lat
    rw [Nat.add_zero, Nat.mod_eq_of_lt hk, List.getElem?_eq_getElem hk]
    rw [getD_eq hk]
  refine place_some hk (by unfold standsAt; rw [decide_eq_true hd, run_len, decide_eq_true rfl]; rfl) fun j hj => ?_
  have ne : ¬ (run l k n).head? = l[j]? := by
    rw [hd]
    intro z
    rw [List.getElem?_eq_getElem hk, List.getElem?_eq_getElem (Nat.lt_trans hj hk)] at z
    have e := (List.getElem_inj nd).mp (Option.some.inj z)
    omega
  unfold standsAt
  rw [decide_eq_false ne]
  rfl
def optV : Option Nat → V
  | some k => .int (k : Int)
  | none => .non
/-- so many letters of the loop said for ever -/
def spFrom : Sp := fun vs H Q _ => ∃ (l : List Nat) (x n : Nat), vs = [.str (SX.S l), .int (x : Int), .int (n : Int)] ∧ x < l.length ∧ l.length ≤ 12 ∧ n ≤ 50000 ∧ Q (.str (SX.S (run l x n))) H
def spPlaceOf : Sp := fun vs H Q _ => ∃ (l : List Nat) (v : V) (b : Bool), vs = [.str (SX.S l), v] ∧ 0 < l.length ∧ l.length ≤ 12 ∧ WordV H v b ∧ (∀ w, v = .str (SX.S w) → w.length ≤ 50000) ∧ (b = false → ∀ H', Same H H' → Q .non H') ∧ (b = true → ∀ w, v = .str (SX.S w) → isWord w = true → ∀ H', Same H H' → Q (optV (placeOf l w)) H')
/-- a count that is one -/
def spCountG : Sp := fun vs H Q _ => ∃ v d a b, vs = [v, .int a, .int b] ∧ Th H v d ∧ inR d a b = true ∧ Q .non H
end Lk
namespace Lk
open PySem PySem.Spec PyProof.Rows L2
/-- what the walk asks of the class as the top has made it -/
structure LT (K : PySem.W.Frag) (C : Addr) : Prop where
  cl : Cls K C
  n0 : NoAttr K C "_loop"
  n1 : NoAttr K C "_now"
  n2 : NoAttr K C "_learnt"
  n3 : NoAttr K C "_deeds"
  n4 : NoAttr K C "_ahead"
def spInit (C : Addr) : Sp := fun vs H Q _ => ∃ (p dx kp : Addr) (l : List Nat) (ws : List (List Nat)) (ls : List Nat) (s : Nat), vs = [.ref p, .str (SX.S l), .ref kp, .int (s : Int)] ∧ H p = some (.ins C dx []) ∧ isLoop l = true ∧ l.Nodup ∧
  H kp = some (.tup (tx ws)) ∧ isKnown ws = true ∧ ws.length ≤ 5000 ∧ (∀ x ∈ ws, x.length ≤ 100000) ∧ LNs ws l ls ∧ s < l.length ∧
  ∀ D A H', H D = none → H A = none → LnAt C H' p D A ⟨l, (s, ls), 0, []⟩ → (∀ b o, H b = some o → b ≠ p → H' b = some o) → Q .non H'
def spKeep (C : Addr) : Sp := fun vs H Q _ => ∃ (p D A : Addr) (x : Ln) (u : V) (d : Deed), vs = [.ref p, u] ∧ LnAt C H p D A x ∧ DeedV H u (d, x.now, x.n) ∧ x.rows.length ≤ 100000 ∧
  ∀ H', LnAt C H' p D A ⟨x.loop, x.now, x.n, x.rows ++ [(d, x.now, x.n)]⟩ → Rest p D A H H' → Q .non H'
def spLearnL (C : Addr) : Sp := fun vs H Q _ => ∃ (p D A : Addr) (x : Ln) (n : Nat), vs = [.ref p, .int (n : Int)] ∧ LnAt C H p D A x ∧ CdOk x.now ∧ 1 ≤ n ∧ n ≤ 1000000000000000000 ∧ x.rows.length ≤ 100000 ∧
  ∀ H', LnAt C H' p D A (x.learn n) → Rest p D A H H' → Q .non H'
def spTeachL (C : Addr) : Sp := fun vs H Q _ => ∃ (p D A : Addr) (x : Ln) (w : List Nat) (a : Nat), vs = [.ref p, .str (SX.S w)] ∧ LnAt C H p D A x ∧ 0 < x.loop.length ∧ x.loop.length ≤ 12 ∧ x.now.2.length = x.loop.length ∧ isWord w = true ∧ w.length ≤ 50000 ∧
  placeOf x.loop w = some a ∧ a < x.now.2.length ∧ w.length = x.now.2.getD a 0 + 1 ∧ x.rows.length ≤ 100000 ∧
  ∀ H', LnAt C H' p D A (x.teach w a) → Rest p D A H H' → Q .non H'
def spCoderL (C : Addr) : Sp := fun vs H Q _ => ∃ (p D A : Addr) (x : Ln), vs = [.ref p] ∧ LnAt C H p D A x ∧ ∀ v, Cat H v x.now → Q v H
def spCountL (C : Addr) : Sp := fun vs H Q _ => ∃ (p D A : Addr) (x : Ln), vs = [.ref p] ∧ LnAt C H p D A x ∧ Q (.int (x.n : Int)) H
def spWordL (C : Addr) : Sp := fun vs H Q _ => ∃ (p D A : Addr) (x : Ln) (n : Nat) (r : Deed × Cd × Nat), vs = [.ref p, .int (n : Int)] ∧ LnAt C H p D A x ∧ 1 ≤ n ∧ n ≤ x.n ∧ x.rows.length ≤ 100000 ∧ x.row n = some r ∧ CdOk r.2.1 ∧ r.2.2 < n ∧ n - r.2.2 ≤ 1000000000000000000 ∧
  ∀ q H', Same H H' → H' q = some (.tup [.int ((wd (it (n - r.2.2 - 1) r.2.1)).1 : Int), .int ((wd (it (n - r.2.2 - 1) r.2.1)).2 : Int)]) → Q (.ref q) H'
/-- whether the word is known -/
def Ln.knows (x : Ln) (w : List Nat) : Bool := match placeOf x.loop w with
  | some a => decide (w.length ≤ x.now.2.getD a 0)
  | none => false
def spKnowsL (C : Addr) : Sp := fun vs H Q _ => ∃ (p D A : Addr) (x : Ln) (v : V) (b : Bool), vs = [.ref p, v] ∧ LnAt C H p D A x ∧ 0 < x.loop.length ∧ x.loop.length ≤ 12 ∧ x.now.2.length = x.loop.length ∧ WordV H v b ∧ (∀ w, v = .str (SX.S w) → w.length ≤ 50000) ∧
  (b = false → ∀ H', Same H H' → Q (.bl false) H') ∧ (b = true → ∀ w, v = .str (SX.S w) → isWord w = true → ∀ H', Same H H' → Q (.bl (x.knows w)) H')
end Lk
namespace Lk
open PySem PySem.Spec PyProof.Rows L2
theorem atI_last {α : Type} {xs : List α} {v : α} (h : xs.getLast? = some v) : atI xs (-1) = some v := by
  unfold atI ixN
  have h0 : 0 < xs.length := by
    cases xs with
    | nil => cases h
    | cons => exact Nat.succ_pos _
  rw [List.getLast?_eq_getElem?] at h
  rw [if_neg (by decide), if_pos (by omega), show (-1 + (xs.length : Int)).toNat = xs.length - 1 by omega]
  exact h
theorem place_lt {l w : List Nat} {a : Nat} (h : placeOf l w = some a) : a < l.length := by
  unfold placeOf at h
  rw [List.find?_range_eq_some] at h
  exact List.mem_range.mp h.2.1
theorem Al2.last {α β : Type} {R : α → β → Prop} {as : List α} {bs : List β} (h : Al2 R as bs) {b : β} (e : bs.getLast? = some b) : ∃ a, as.getLast? = some a ∧ R a b := by
  rw [List.getLast?_eq_getElem?] at e
  obtain ⟨a, e2, r⟩ := h.get' e
  refine ⟨a, ?_, r⟩
  rw [List.getLast?_eq_getElem?, h.len]
  exact e2
/-- the coder and the number told anew -/
theorem LnAt.put {C : Addr} {H H1 : Hp} {p D A : Addr} {x : Ln} (L : LnAt C H p D A x) (s : Same H H1) (dx : Addr) {v : V} {c : Cd} (hv : Cat H1 v c) (n : Nat) :
    LnAt C (upd H1 p (.ins C dx (flds x.loop v n D A))) p D A ⟨x.loop, c, n, x.rows⟩ ∧ Rest p D A H (upd H1 p (.ins C dx (flds x.loop v n D A))) := by
  have r : Rest p D A H1 (upd H1 p (.ins C dx (flds x.loop v n D A))) := Rest.refl.upd (.inl rfl)
  have L1 := L.same s
  have tp := L1.tups r
  obtain ⟨⟨dy, u, hp, hu⟩, ⟨ds, hD, aD⟩, ⟨as, hA, aA⟩, ne⟩ := L1
  have npD : D ≠ p := (ne_of hp hD (by intro z; cases z)).symm
  have npA : A ≠ p := (ne_of hp hA (by intro z; cases z)).symm
  exact ⟨⟨⟨dx, v, upd_same, tp.cat hv⟩, ⟨ds, (upd_ne npD).trans hD, aD.mono fun _ _ z => tp.deed z⟩, ⟨as, (upd_ne npA).trans hA, aA.mono fun _ _ z => tp.row z⟩, ne⟩, (Rest.of s).trans r⟩
end Lk
end
section
set_option maxRecDepth 100000
set_option maxHeartbeats 4000000
namespace Lk
open PySem PySem.Spec PyProof.Rows L2
abbrev nTF : List Str := ["loop", "place", "length"]
section
variable {P : Program} {w : World} {K : PySem.W.Frag} {mg : Str → Option Value} {base : Heap}
theorem sc_from : FnScope nTF ["loop", "place", "length"] (defScope s_text_from) := ⟨rfl, rfl, rfl, by decide +kernel, rfl, by decide +kernel, by decide +kernel⟩
theorem ok_from {f : Addr} {fd : FuncData} (F : Fun K "text_from" "text_from" s_text_from f fd) (ml : mg "len" = none) : FnOk P w K mg base CX0 1 f fd ["loop", "place", "length"] spFrom := by
  refine F.ok sc_from (fun vs H Q E h => ?_) (fun cdv A outer s H vs Q E hr h => ?_)
  · obtain ⟨l, x, n, rfl, _⟩ := h
    rfl
  · obtain ⟨l, x, L, rfl, xlt, l12, hL, q⟩ := h
    have nd := sc_from.nd
    refine ⟨_, (pss_one (by exact (ps_ret (pe_slice C8.sl_txt (pe_op op_mulS (pv 0) (pe_op op_add (pe_op op_fdivN (pv 2) (pe_callB call_len_str (by rfl) ml PySem.boot_len (pa_cons (pv 0) pa_nil))) pe_int)) (po_some (pv 1)) (po_some (pe_op op_add (pv 1) (pv 2))))))), ?_⟩
    have smb : (SX.S l).length ≤ sizeLine := small12 l12
    have hr0 := room (p := l.length) (q := L) (by omega)
    have hdv : L / l.length ≤ 50000 := Nat.le_trans (Nat.div_le_self _ _) hL
    have hml : (L / l.length + 2) * l.length ≤ 100024 := by
      have z := Nat.div_mul_le_self L l.length
      rw [Nat.add_mul]
      omega
    have rl : (rep (L / l.length + 2) l).length = (L / l.length + 2) * l.length := rep_len _ _
    refine ⟨_, rfl, _, rfl, _, rfl, SX.S l, rfl, smb, _, _, rfl, rfl, ⟨by rw [SX.S_len]; omega, by rw [SX.S_len]; omega⟩, _, _, rfl, rfl, l, L / l.length + 2, rfl, ?_, by omega, by omega, ?_⟩
    · refine congrArg V.int ?_
      rw [SX.S_len, Int.fdiv_eq_ediv_of_nonneg _ (by omega)]
      push_cast
      rfl
    refine ⟨_, rfl, _, rfl, _, rfl, _, rfl, _, _, rfl, rfl, _, rfl, _, rfl, by rw [SX.S_len, rl]; exact Nat.le_trans hml (by decide), ?_⟩
    rw [slice_sub (by omega) (by omega) (by rw [rl]; omega), Int.toNat_natCast, show ((x : Int) + (L : Int)).toNat = x + L by omega, sub_rep (by omega) (by omega), show x + L - x = L by omega]
    exact q
end
end Lk
end
section
set_option maxRecDepth 100000
set_option maxHeartbeats 2000000
/-! enumerate of a text. -/
namespace Lk
open PySem PySem.Spec PyProof.Rows L2
/-- the letters of z, in new pairs behind their numbers -/
def IteTx (z : Str) : It :=
  ⟨fun i _ => i < z.cps.size,
   fun i H v H2 => ∃ T c, v = .ref T ∧ H T = none ∧ H2 = upd H T (.tup [.int (i : Int), .str ⟨#[c]⟩]) ∧ z.cps[i]? = some c,
   fun i _ => i = z.cps.size⟩
theorem walk_enumTx {z : Str} : Walk (IteTx z) z.cps.size (fun _ => True) (YPair (fun i => some (.int (i : Int))) (fun i => (z.cps[i]?).map fun c => V.str ⟨#[c]⟩)) := by
  refine ⟨fun i _ hi q => hi, fun _ q => rfl, fun i H v H2 _ q ⟨T, x, h1, h2, h3, h4⟩ => ?_⟩
  exact ⟨T, .int (i : Int), .str ⟨#[x]⟩, h1, h2, h3, rfl, by show (z.cps[i]?).map _ = _; rw [h4]; rfl⟩
theorem turn_enumTx {P : Program} {w : World} {K : PySem.W.Frag} {elts : List Expr} {kk : Nat} {tpos : Pos} (z : Str) (t : Tok) (e it : Addr) :
    Turn P w K (.Tuple elts kk tpos) (IteTx z) [e, it] e (fun i h => (∃ old, IsEnum h e it (i : Int) old) ∧ h.IsStrIter it (strIterType z) z t i ∧ e ≠ it) where
  mem := by simp
  obj := fun i h st b hb => by
    obtain ⟨⟨old, he⟩, ⟨o, ho, hc, hd⟩, _⟩ := st
    rcases List.mem_cons.mp hb with z | z
    · rw [z]
      exact ⟨_, he, fun v q => nomatch q⟩
    · rw [List.mem_singleton.mp z]
      exact ⟨o, ho, fun v q => by rw [hd] at q; cases q⟩
  keep := fun i h h2 st k => ⟨st.1.imp fun old he => k e (by simp) _ he, by
    obtain ⟨_, ⟨o, ho, hc, hd⟩, _⟩ := st
    exact ⟨o, k it (by simp) o ho, hc, hd⟩, st.2.2⟩
  item := by
    intro X hP hw hK hc i pins s σ H E I hf st hg
    subst hP hw hK
    obtain ⟨⟨old, he⟩, hit, hne⟩ := st
    have hel : e < s.heap.objs.size := Heap.lt_size he
    have hil : it < s.heap.objs.size := by obtain ⟨_, q, _⟩ := hit; exact Heap.lt_size q
    refine wpAny_pyNext_enum_itemC (Draws.text (show X.A.in1.handled = none from I.ok.hd hc) it z t) he hit hg hne (fun y => hne (List.mem_singleton.mp y)) fun y h1 tk hy ho1 hs1 hT hsz hk => ?_
    obtain ⟨c, u, hz, rfl⟩ := hy
    refine ⟨_, rfl, wpAny_letOwnedTupleGo_enum (s := { s with heap := h1, toks := tk + 1 }) ho1 fun h2 he2 sb => ?_⟩
    have sb2 : Heap.SameBut e h1 h2 := sb
    have hT2 : h2.get? s.heap.objs.size = some { cls := .type "tuple", data := .seq #[.int (i : Int) tk, .str ⟨#[c]⟩ u] } := (sb2.2 _ (Nat.ne_of_gt hel)).trans hT
    have new : ObjOk X.prog X.w (upd H s.heap.objs.size (.tup [.int (i : Int), .str ⟨#[c]⟩])) h2 s.heap.objs.size (.tup [.int (i : Int), .str ⟨#[c]⟩]) :=
      ⟨by show 2 ≤ sizeLine; decide, [.int (i : Int) tk, .str ⟨#[c]⟩ u], .cons ⟨_, rfl⟩ (.cons ⟨_, rfl⟩ .nil), ⟨_, hT2, rfl, _, rfl⟩⟩
    have I1 : Inv X pins σ (upd H s.heap.objs.size (.tup [.int (i : Int), .str ⟨#[c]⟩])) { s with heap := h2, toks := tk + 1 } :=
      I.turnedNew (ch := [e, it]) (fun b ob hb q => (sb2.2 b (fun z => hb (by simp [z]))).trans (hk b ob (fun z => hb (by simp [z])) (fun z => hb (by simp [z])) q)) hf (Nat.le_refl _) new
    refine ⟨.ref s.heap.objs.size, _, I1, rfl, ⟨_, c, rfl, I.hok.fresh (Nat.le_refl _), rfl, hz⟩, ⟨⟨.str ⟨#[c]⟩ u, ?_⟩, ?_, hne⟩, fun b hb => ?_⟩
    · rw [show ((i + 1 : Nat) : Int) = (i : Int) + 1 by omega]
      exact he2
    · obtain ⟨o, ho, hc1, hd1⟩ := hs1
      exact ⟨o, (sb2.2 it (Ne.symm hne)).trans ho, hc1, hd1⟩
    · have lt : b < s.heap.objs.size := by
        rcases List.mem_cons.mp hb with z | z
        · rw [z]; exact hel
        · rw [List.mem_singleton.mp z]; exact hil
      rw [upd_ne (Nat.ne_of_lt lt)]
      exact (hf b hb).1
  done := by
    intro X hP hw hK hc i pins s σ H E I hf st hg
    subst hP hw hK
    obtain ⟨⟨old, he⟩, hit, hne⟩ := st
    obtain ⟨f0, f1, f2, f3, f4, f5⟩ := hf it (by simp)
    have hT : s.TypeIs (.ref e) "enumerate" := ⟨_, he, rfl⟩
    have hit2 : s.heap.IsStrIter it (strIterType z) z t z.cps.size := by
      have q : i = z.cps.size := hg
      rw [← q]
      exact hit
    unfold pyNext
    refine wpAny_bind (wpAny_attempt (wpAny_callSpecial?_slot (name := Str.ofString "__next__") hT PySem.F.slot_enumerate_next
      (wpAny_call_entry PySem.F.slot_enumerate_next hT PySem.F.entry_enumerate_next ?_ (PySem.F.args_enumerate_next_1 _))))
    show wpAny _ _ (field (.ref e) 2 >>= _) _ _ _
    refine wpAny_bind (wpAny_field he rfl (x := .ref it) rfl (wpAny_bind ((Draws.text (show X.A.in1.handled = none from I.ok.hd hc) it z t).done s _ _ hit2 fun h1 y kept ⟨o, ho, oc⟩ => ?_)))
    refine wpAny_bind (wpAny_isInstance (T := "StopIteration") (b := true) ⟨o, ho, oc⟩ isSubtype_stop (wpAny_pure ⟨rfl, ?_⟩))
    exact I.turned (t' := s.toks) (fun b o hb q => kept b o hb q) f0 f1 f3 f4 f5
  self := fun A i s Q E st h => by
    obtain ⟨⟨_, he⟩, _⟩ := st
    exact wpAny_pyIter_enum he h
def iEnumTx (ta : TA) : TI := fun σ H R => ta σ H fun vs H1 => ∃ z, vs = [.str z] ∧ R (IteTx z) H1
theorem pi_enumTx {X : Cx} {e : Expr} {ta : TA} {p pos tpos : Pos} {elts : List Expr} {kk : Nat} (hg : Gl X "enumerate") (hm : X.mg "enumerate" = none) (ha : PA X [e] ta) (hs : starEach [e] X.env = [(false, eval e X.env)] := by rfl) :
    PI X (.Tuple elts kk tpos) (.Call (.Name "enumerate" p) [e] [] pos) (iEnumTx ta) := by
  refine ⟨fun pins s σ H R I h => Call_ (ld_blt I hg hm boot_enumerate (PyProof.Rows.callWith_type1 (thn (ha.run pos pins s σ H _ I h) fun us s1 ⟨vs, H1, I1, r1, z, ex, q⟩ => ?_) hs rfl))⟩
  subst ex
  cases r1 with
  | cons r rr =>
    cases rr
    obtain ⟨t, rfl⟩ := r
    refine enum1 (begins_text z t) trivial fun h2 he hit hk => wpAny_pyIter_enum he ?_
    have I2 : Inv X pins σ H1 { s1 with heap := h2 } := I1.kept (t' := s1.toks) hk
    refine ⟨s1.heap.objs.size + 1, [s1.heap.objs.size + 1, s1.heap.objs.size], _, _, H1, rfl, I2, turn_enumTx z t (s1.heap.objs.size + 1) s1.heap.objs.size, ⟨⟨.none, he⟩, ⟨_, hit, rfl, rfl⟩, Nat.succ_ne_self _⟩, fun b hb => ?_, q⟩
    have hle : s1.heap.objs.size ≤ b := by
      rcases List.mem_cons.mp hb with z | z
      · rw [z]; exact Nat.le_add_right _ _
      · rw [List.mem_singleton.mp z]; exact Nat.le_refl _
    exact I1.fpOk hle (I1.hok.fresh hle)
end Lk
end
section
set_option maxRecDepth 100000
set_option maxHeartbeats 2000000
/-! The loop's own text. -/
namespace Lk
open PySem PySem.Spec PyProof.Rows L2
theorem lat_root {l : List Nat} {d : Nat} (h : IsPer l d) (k : Nat) : lat (l.take d) k = lat l k := by
  have p := per_of h
  have e : (l.take d).length = d := by rw [List.length_take]; exact Nat.min_eq_left h.2.1
  have hk : k % d < d := Nat.mod_lt _ h.1
  have z : lat (l.take d) k = (l.take d).getD (k % d) 0 := by unfold lat; rw [e]
  rw [z, take_at h.2.1 hk, per_mod p k]
theorem run_root {l : List Nat} {d : Nat} (h : IsPer l d) (a n : Nat) : run (l.take d) a n = run l a n := by
  unfold run
  exact List.map_congr_left fun i _ => lat_root h _
theorem take_rep {l : List Nat} {n T : Nat} (h : T ≤ n * l.length) : (rep n l).take T = run l 0 T := by
  refine List.ext_getElem? fun i => ?_
  rw [List.getElem?_take]
  by_cases c : i < T
  · rw [if_pos c, rep_get n (by omega), run_at c, Nat.zero_add]
  · rw [if_neg c, List.getElem?_eq_none (by rw [run_len]; omega)]
theorem az_run {b : List Nat} (h : Az b) (h0 : 0 < b.length) (a n : Nat) : Az (run b a n) := by
  intro c hc
  obtain ⟨i, _, rfl⟩ := List.mem_map.mp hc
  have hm : (a + i) % b.length < b.length := Nat.mod_lt _ h0
  unfold lat
  rw [getD_eq hm]
  exact h _ (List.getElem_mem hm)
/-- what is read and the rest are the text -/
theorem reads_flat {W : List (List Nat)} {t : List Nat} {a r : Nat} {ns : List (List Nat)} (h : Reads W t a ns r) : ns.flatten ++ t.drop r = t.drop a := by
  induction h with
  | done _ => rfl
  | more h he hr ih =>
    have ge := h.ge
    rw [List.flatten_cons, List.append_assoc, ih]
    unfold sub
    rename_i W t a e r ns
    have z : t.drop (e + 1) = (t.drop a).drop (e + 1 - a) := by rw [List.drop_drop]; congr 1; omega
    rw [z]
    exact List.take_append_drop _ _
theorem join_flat (ns : List (List Nat)) : Txt.join (Str.ofString "") (ns.map SX.S) = SX.S ns.flatten := by
  have e : ∀ l : List (List Nat), TL.joinL [] l = l.flatten := by
    intro l
    induction l with
    | nil => rfl
    | cons c r ih =>
      cases r with
      | nil =>
        show c = _
        simp
      | cons d r =>
        show c ++ ([] ++ TL.joinL [] (d :: r)) = _
        rw [ih]
        simp
  have h := SX.join_S [] ns
  rw [e] at h
  exact h
/-- with more known the lengths are no less -/
theorem lns_le {ws us : List (List Nat)} {b ls ms : List Nat} (h : LNs ws b ls) (k : LNs us b ms) (s : ∀ x ∈ ws, x ∈ us) {q : Nat} (hq : q < b.length) : ls.getD q 0 ≤ ms.getD q 0 := by
  refine Nat.le_of_not_lt fun g => (k.2 q hq).no (s _ ((h.2 q hq).all _ (by omega) (by omega)))
theorem lns_perm {ws us : List (List Nat)} {b ls : List Nat} (h : LNs ws b ls) (s : ∀ x, x ∈ ws ↔ x ∈ us) : LNs us b ls :=
  ⟨h.1, fun a ha => ⟨fun j j1 j2 => (s _).mp ((h.2 a ha).all j j1 j2), fun z => (h.2 a ha).no ((s _).mpr z)⟩⟩
/-- what is known behind a text is known -/
theorem behind_known {ws us : List (List Nat)} {t : List Nat} {ns : List (List Nat)} {r : Nat} (hk : isKnown ws = true) (ht : Az t) (h : Reads (([] : List Nat) :: ws) t 0 ns r) (p : us.Perm (ws ++ ns)) (hs : sortedS (us.map SX.S) = true) : isKnown us = true := by
  obtain ⟨k1, k2, k3⟩ := isKnown_iff.mp hk
  obtain ⟨f1, f2, f3, f4⟩ := h.facts List.mem_cons_self (nodup0 k1 k2)
  refine isKnown_of p hs (List.nodup_cons.mp f1).2 (fun l hl => ?_) (fun l hl => ?_)
  · rcases List.mem_append.mp hl with z | z
    · exact List.all_eq_true.mp k1 l z
    · obtain ⟨g1, g2, g3, g4⟩ := f2 l z
      exact isWord_iff.mpr ⟨fun c hc => ht c (g4 c hc), List.length_pos_iff.mpr g1⟩
  · rcases List.mem_append.mp hl with z | z
    · rcases List.mem_cons.mp (of_decide_eq_true (List.all_eq_true.mp k3 l z)) with y | y
      · rw [y]; exact List.mem_cons_self
      · exact List.mem_cons_of_mem _ (List.mem_append_left _ y)
    · exact (f2 l z).2.2.1
theorem cut_le (xs : List V) (lo hi : Option Int) : (cutV xs lo hi).length ≤ xs.length := by
  unfold cutV
  rw [List.length_take, List.length_drop]
  omega
theorem cut_last3 {xs : List V} (h : 3 ≤ xs.length) : cutV xs (some (-3)) none = xs.drop (xs.length - 3) := by
  have e : HT.sIx xs.length 0 (some (-3)) = xs.length - 3 := by
    unfold HT.sIx
    simp
    omega
  unfold cutV
  rw [HT.sIx_none, e]
  exact List.take_of_length_le (by rw [List.length_drop]; omega)
/-- the first twelve and the last three: which of all the i-th is -/
theorem ends_at {ns : List (List Nat)} {i : Nat} {x : V} (h : 15 ≤ ns.length) (hx : (cutV (tx ns) none (some 12) ++ cutV (tx ns) (some (-3)) none)[i]? = some x) : i < 15 ∧ ∃ w, ns[if i < 12 then i else ns.length - 15 + i]? = some w ∧ x = .str (SX.S w) := by
  have lt : (tx ns).length = ns.length := List.length_map _
  rw [show (12 : Int) = ((12 : Nat) : Int) from rfl, cut_to (by omega), cut_last3 (by omega), lt] at hx
  have l12 : ((tx ns).take 12).length = 12 := by rw [List.length_take, lt]; omega
  by_cases c : i < 12
  · rw [List.getElem?_append_left (by omega), List.getElem?_take, if_pos c, List.getElem?_map] at hx
    rw [if_pos c]
    obtain ⟨w, e1, e2⟩ := Option.map_eq_some_iff.mp hx
    exact ⟨by omega, w, e1, e2.symm⟩
  · rw [List.getElem?_append_right (by omega), l12, List.getElem?_drop, List.getElem?_map] at hx
    rw [if_neg c]
    obtain ⟨w, e1, e2⟩ := Option.map_eq_some_iff.mp hx
    have hlt := (List.getElem?_eq_some_iff.mp e1).1
    refine ⟨by omega, w, ?_, e2.symm⟩
    rw [← e1]
    congr 1
    omega
theorem gs_lt {b ls : List Nat} (h : 0 < b.length) : ∀ k, (gs b ls k).1 < b.length
  | 0 => h
  | k + 1 => Nat.mod_lt _ h
theorem dW_inv {H : Hp} {v : V} {w : Nat × Nat} (h : Th H v (dW w)) : ∃ q, v = .ref q ∧ H q = some (.tup [.int (w.1 : Int), .int (w.2 : Int)]) := by
  cases h with
  | tup e m =>
    cases m with
    | cons h1 m =>
      cases m with
      | cons h2 m =>
        cases m
        cases h1
        cases h2
        exact ⟨_, rfl, e⟩
theorem tx_inj : ∀ {l m : List (List Nat)}, tx l = tx m → l = m
  | [], [], _ => rfl
  | [], y :: m, h => by cases h
  | x :: l, [], h => by cases h
  | x :: l, y :: m, h => by
    have h1 := (List.cons.inj h).1
    have h2 := (List.cons.inj h).2
    rw [SX.S_inj (V.str.inj h1), tx_inj h2]
end Lk
end
section
set_option maxRecDepth 100000
set_option maxHeartbeats 2000000
/-! Pairs of a text are a good row; the rest of a text; lists of texts as data. -/
namespace Lk
open PySem PySem.Spec PyProof.Rows L2
def lastC (l : List Nat) : Nat := (l.drop (l.length - 1)).headD 0
def prOf (W : List (List Nat)) (l : List Nat) : Nat × Nat := (W.idxOf (l.take (l.length - 1)), lastC l)
theorem last_one {l : List Nat} (h : l ≠ []) : l.drop (l.length - 1) = [lastC l] ∧ lastC l ∈ l ∧ l = l.take (l.length - 1) ++ [lastC l] := by
  obtain ⟨l0, c, rfl⟩ : ∃ l0 c, l = l0 ++ [c] := ⟨l.dropLast, l.getLast h, (List.dropLast_concat_getLast h).symm⟩
  have e1 : (l0 ++ [c]).length - 1 = l0.length := by simp
  have e2 : (l0 ++ [c]).drop ((l0 ++ [c]).length - 1) = [c] := by rw [e1]; exact List.drop_left
  have e3 : lastC (l0 ++ [c]) = c := by unfold lastC; rw [e2]; rfl
  have e4 : (l0 ++ [c]).take ((l0 ++ [c]).length - 1) = l0 := by rw [e1]; exact List.take_left
  rw [e3, e2, e4]
  exact ⟨rfl, List.mem_append_right _ List.mem_cons_self, rfl⟩
theorem idx_get {W : List (List Nat)} {l : List Nat} (h : l ∈ W) : W[W.idxOf l]? = some l := by
  have h1 : W.idxOf l < W.length := List.idxOf_lt_length_of_mem h
  rw [List.getElem?_eq_getElem h1]
  exact congrArg some (List.getElem_idxOf h1)
theorem idx_app {W V2 : List (List Nat)} {l : List Nat} (h : l ∈ W) : (W ++ V2).idxOf l = W.idxOf l := by
  rw [List.idxOf_append, if_pos h]
theorem Reads.good {W : List (List Nat)} {t : List Nat} {a r : Nat} {ns : List (List Nat)} (h : Reads W t a ns r) (h0 : ([] : List Nat) ∈ W) (az : Az t) (full : List (List Nat)) (ef : full = W ++ ns) : GoodR W (ns.map (prOf full)) ns := by
  induction h with
  | done h => exact .nil _
  | more h he hr ih =>
    rename_i W t a e r ns
    have hae := h.ge
    have hlen : (sub t a (e + 1)).length = e + 1 - a := sub_len (by omega) (by omega)
    have hne : sub t a (e + 1) ≠ [] := fun z => by rw [z] at hlen; simp at hlen; omega
    obtain ⟨b1, b2, b3⟩ := last_one hne
    have e2 : (sub t a (e + 1)).take ((sub t a (e + 1)).length - 1) = sub t a e := by
      rw [hlen]
      unfold sub
      rw [List.take_take, show min (e + 1 - a - 1) (e + 1 - a) = e - a by omega]
    have hin : sub t a e ∈ W := by
      by_cases hea : a = e
      · subst hea
        have e3 : sub t a a = [] := by unfold sub; rw [Nat.sub_self]; rfl
        rw [e3]
        exact h0
      · exact h.all e (by omega) (Nat.le_refl _)
    have hW : W[full.idxOf (sub t a e)]? = some (sub t a e) := by
      rw [ef, idx_app hin]
      exact idx_get hin
    have hc : 97 ≤ lastC (sub t a (e + 1)) ∧ lastC (sub t a (e + 1)) ≤ 122 := az _ (List.mem_of_mem_drop (List.mem_of_mem_take b2))
    rw [e2] at b3
    have nin := h.no he
    have ihg := ih (List.mem_append_left _ h0) az (by rw [ef, List.append_assoc]; rfl)
    rw [List.map_cons]
    have ep : prOf full (sub t a (e + 1)) = (full.idxOf (sub t a e), lastC (sub t a (e + 1))) := by unfold prOf; rw [e2]
    rw [ep]
    generalize lastC (sub t a (e + 1)) = c at b3 hc
    rw [b3] at nin ihg ⊢
    exact .cons hW hc nin ihg
theorem GoodR.congr {W : List (List Nat)} {p p' : List (Nat × Nat)} {ns : List (List Nat)} (h : GoodR W p ns) (e : p = p') : GoodR W p' ns := e ▸ h
/-- what is left is known with its beginnings -/
theorem Reads.last {W : List (List Nat)} {t : List Nat} {a r : Nat} {ns : List (List Nat)} (h : Reads W t a ns r) : LE (W ++ ns) t r t.length := by
  induction h with
  | done h => rw [List.append_nil]; exact h
  | more h he hr ih =>
    rw [List.append_assoc] at ih
    exact ih
/-- what is left of the loop's text is no longer than the longest known word there -/
theorem rest_le {ws : List (List Nat)} {l : List Nat} {T r n : Nat} {ns : List (List Nat)} (h : Reads (([] : List Nat) :: ws) (run l 0 T) 0 ns r) (hl : LN (ws ++ ns) l (r % l.length) n) : T - r ≤ n := by
  refine Nat.le_of_not_lt fun g => ?_
  have z := h.last.all (r + (n + 1)) (by omega) (by rw [run_len]; omega)
  rw [sub_run (by omega) (by omega), show r + (n + 1) - r = n + 1 by omega, ← run_mod] at z
  rcases List.mem_cons.mp z with y | y
  · have := congrArg List.length y
    rw [run_len] at this
    simp at this
  · exact hl.no y
theorem use_readp {CK : Addr} {H : Hp} {a L : Addr} {ws : List (List Nat)} {Q : VK} {E : XK} (ps : List Addr) (ns full : List (List Nat)) (ha : H a = some (.tup (tx ws))) (hks : isKnown ws = true) (hl : ws.length ≤ 100000) (hz : ∀ x ∈ ws, x.length ≤ 100000)
    (hL : H L = some (.lst (ps.map V.ref))) (hpl : ps.length = ns.length) (hn : ns.length ≤ 10000) (hne : ∀ l ∈ ns, l ≠ []) (hat : ∀ (j : Nat) (q : Addr) (l : List Nat), ps[j]? = some q → ns[j]? = some l → H q = some (.tup (pairV ws full l)))
    (good : GoodR ([] :: ws) (ns.map (prOf (([] :: ws) ++ full))) ns) (hf : ns.flatten.length ≤ 10000000) (h : ∀ v H', v = .str (SX.S ns.flatten) → Same H H' → Q v H') : spReadP CK [.ref a, .ref L] H Q E := by
  refine ⟨_, L, true, rfl, hks ▸ KnownV.tup ha hl hz, fun z => (by cases z), fun _ a' ws' ea ha' _ => ?_⟩
  cases V.ref.inj ea
  rw [ha] at ha'
  cases tx_inj (HO.tup.inj (Option.some.inj ha'))
  refine ⟨ps, ns.map (prOf (([] :: ws) ++ full)), ns, hL, by rw [List.length_map]; exact hpl, by rw [List.length_map]; exact hn, fun j q n c hq hr => ?_, good, hf, h⟩
  rw [List.getElem?_map] at hr
  cases e : ns[j]? with
  | none => rw [e] at hr; cases hr
  | some l =>
    rw [e] at hr
    cases hr
    rw [hat j q l hq e]
    unfold pairV
    rw [(last_one (hne l (List.mem_of_getElem? e))).1]
/-! ### lists of texts as data -/
theorem strOk_az {l : List Nat} (h : Az l) : PyData.strOk (SX.S l) = true := by
  show (l.toArray).all (· < 0x110000) = true
  rw [← Array.all_toList]
  exact List.all_eq_true.mpr fun c hc => decide_eq_true (by have := h c hc; omega)
theorem dp_tx {K : PySem.W.Frag} {H : Hp} : ∀ ws : List (List Nat), DpAll K H (tx ws) (ws.map sD)
  | [] => .nil
  | l :: r => .cons (.str (SX.S l)) (dp_tx r)
theorem lay_sD : ∀ {ws : List (List Nat)}, (∀ l ∈ ws, Az l) → PyData.canLayAll0 (ws.map sD) = true
  | [], _ => rfl
  | w :: r, h => by
    have ih := lay_sD (ws := r) fun x hx => h x (List.mem_cons_of_mem _ hx)
    have hz := h w List.mem_cons_self
    rw [List.map_cons, PyData.canLayAll0, ih, Bool.and_true]
    show PyData.canLay0 (.str (SX.S w)) = true
    rw [PyData.canLay0]
    exact strOk_az hz
theorem shaped_sD {ws : List (List Nat)} (h : ∀ l ∈ ws, Az l) : SeqAt.shaped (.list (ws.map sD)) = true := by
  unfold SeqAt.shaped
  rw [PyData.canLay0, lay_sD h, PyData.depth, depth_sD]
  rfl
theorem use_spT {CK CT : Addr} {R : List (List Nat) → List Nat → List (List Nat) → Nat → Hp → Hp → V → Prop} {H : Hp} {a : Addr} {ws : List (List Nat)} {t : List Nat} {Q : VK} {E : XK} (ha : H a = some (.tup (tx ws))) (hks : isKnown ws = true) (hl : ws.length ≤ 100000) (hz : ∀ x ∈ ws, x.length ≤ 100000)
    (az : Az t) (ht : t.length ≤ 2000) (h : ∀ ns r, Reads ([] :: ws) t 0 ns r → ∀ v H', Same H H' → R ws t ns r H H' v → Q v H') : spT CK CT R [.ref a, .str (SX.S t)] H Q E := by
  have no : ∀ {A : Prop}, (true = false → A) := fun z => by cases z
  refine ⟨_, _, true, true, rfl, hks ▸ KnownV.tup ha hl hz, isText_iff.mpr ⟨az, ht⟩ ▸ TextV.str _ (by omega), no, fun _ => no, fun _ _ a' ws' t' ea ha' _ et ns r hr => ?_⟩
  cases V.ref.inj ea
  rw [ha] at ha'
  cases tx_inj (HO.tup.inj (Option.some.inj ha'))
  cases SX.S_inj (V.str.inj et)
  exact h ns r hr
/-! ### a plain loop's text: its words are the coder's -/
/-- the letters of a step's word -/
def lett (l : List Nat) (x : Nat × Nat) : List Nat := run l x.1 x.2
structure PlainRead (l : List Nat) (ws : List (List Nat)) (ls : List Nat) (T : Nat) (ns : List (List Nat)) (r : Nat) : Prop where
  words : ns = (wds ns.length (0, ls)).map (lett l)
  then_ : LNs (ws ++ ns) l (it ns.length (0, ls)).2
  at_ : r % l.length = (it ns.length (0, ls)).1
  flat : r = ns.flatten.length
  le : r ≤ T
  few : T - r ≤ (it ns.length (0, ls)).2.getD (it ns.length (0, ls)).1 0
theorem plain_read {l : List Nat} {ws : List (List Nat)} {ls : List Nat} {T r : Nat} {ns : List (List Nat)} (h0 : 0 < l.length) (nd : l.Nodup) (hk : isKnown ws = true) (hls : LNs ws l ls) (hrd : Reads (([] : List Nat) :: ws) (run l 0 T) 0 ns r) : PlainRead l ws ls T ns r := by
  obtain ⟨g1, g2, g3, g4, g5, g6⟩ := reads_gs h0 hrd 0 ws rfl rfl (by exact hls) (beg_of hk _) (Nat.zero_mod _)
  have e := gs_plain nd h0 hls.1
  rw [Nat.zero_add, e] at g2 g4
  have lt : (it ns.length (0, ls)).1 < l.length := by rw [← g4]; exact Nat.mod_lt _ h0
  refine ⟨?_, g2, g4, by omega, g6, rest_le hrd (by rw [g4]; exact g2.2 _ lt)⟩
  refine g1.trans ?_
  unfold wds
  rw [List.map_map]
  refine List.map_congr_left fun j _ => ?_
  unfold wrdR
  rw [Nat.zero_add, e]
  rfl
theorem drop_run {b : List Nat} {r T : Nat} : (run b 0 T).drop r = run b (r % b.length) (T - r) := by
  rw [run_mod]
  refine List.ext_getElem? fun i => ?_
  rw [List.getElem?_drop]
  by_cases c : i < T - r
  · rw [run_at (by omega), run_at c, Nat.zero_add]
  · rw [List.getElem?_eq_none (by rw [run_len]; omega), List.getElem?_eq_none (by rw [run_len]; omega)]
theorem twice_not {l : List Nat} (h : 1 ≤ l.length) : ¬ (l ++ l.take 1).Nodup := by
  cases l with
  | nil => simp at h
  | cons c r =>
    intro nd
    have z := List.nodup_append.mp nd
    exact z.2.2 c List.mem_cons_self c (by simp) rfl
theorem lns_le_len {ws : List (List Nat)} {b ls : List Nat} {B : Nat} (h : LNs ws b ls) (s : ∀ x ∈ ws, x.length ≤ B) : ∀ n ∈ ls, n ≤ B := by
  intro n hn
  obtain ⟨i, hi, rfl⟩ := List.getElem_of_mem hn
  have hb : i < b.length := by rw [← h.1]; exact hi
  have z := h.2 i hb
  rw [getD_eq hi] at z
  rcases Nat.eq_zero_or_pos ls[i] with y | y
  · rw [y]; exact Nat.zero_le _
  · have q := s _ (z.all _ y (Nat.le_refl _))
    rw [run_len] at q
    exact q
end Lk
end
section
set_option maxRecDepth 100000
set_option maxHeartbeats 2000000
/-! Loops turned, said twice, called otherwise, read on. -/
namespace Lk
open PySem PySem.Spec PyProof.Rows L2
theorem LN.congr {ws : List (List Nat)} {b b' : List Nat} {a a' n : Nat} (h : LN ws b a n) (e : ∀ j, run b' a' j = run b a j) : LN ws b' a' n :=
  ⟨fun j j1 j2 => by rw [e]; exact h.all j j1 j2, by rw [e]; exact h.no⟩
/-! ### turned -/
theorem lat_rot {b : List Nat} {s : Nat} (hs : s < b.length) (k : Nat) : lat (rotL b s) k = lat b (k + s) := by
  unfold lat
  rw [rotL_len, rotL_at hs (Nat.mod_lt _ (by omega)), Nat.mod_add_mod]
theorem run_rot {b : List Nat} {s : Nat} (hs : s < b.length) (a n : Nat) : run (rotL b s) a n = run b (a + s) n := by
  unfold run
  refine List.map_congr_left fun i _ => ?_
  rw [lat_rot hs]
  congr 1
  omega
theorem lns_rot {ws : List (List Nat)} {b ls : List Nat} {s : Nat} (hs : s < b.length) (h : LNs ws b ls) : LNs ws (rotL b s) (rotL ls s) := by
  refine ⟨by rw [rotL_len, rotL_len, h.1], fun a ha => ?_⟩
  rw [rotL_len] at ha
  rw [rotL_at (by rw [h.1]; exact hs) (by rw [h.1]; exact ha), h.1]
  refine (h.2 ((a + s) % b.length) (Nat.mod_lt _ (by omega))).congr fun j => ?_
  rw [run_rot hs, run_mod]
theorem isPer_iff {l : List Nat} {d : Nat} (h0 : 0 < l.length) : IsPer l d ↔ 1 ≤ d ∧ d ≤ l.length ∧ (∀ k, lat l (k + d) = lat l k) ∧ ∀ j, 1 ≤ j → j < d → ¬ ∀ k, lat l (k + j) = lat l k := by
  unfold IsPer
  simp only [ne_eq, rot_per h0]
theorem per_cong {l m : List Nat} {d : Nat} (h0 : 0 < l.length) (h1 : 0 < m.length) (hd : d ≤ m.length) (e : ∀ j, (∀ k, lat l (k + j) = lat l k) ↔ ∀ k, lat m (k + j) = lat m k) (h : IsPer l d) : IsPer m d := by
  obtain ⟨a1, a2, a3, a4⟩ := (isPer_iff h0).mp h
  exact (isPer_iff h1).mpr ⟨a1, hd, (e d).mp a3, fun j j1 j2 z => a4 j j1 j2 ((e j).mpr z)⟩
theorem per_rot {l : List Nat} {d s : Nat} (hs : s < l.length) (h : IsPer l d) : IsPer (rotL l s) d := by
  have h0 : 0 < l.length := by omega
  refine per_cong h0 (by rw [rotL_len]; exact h0) (by rw [rotL_len]; exact h.2.1) (fun j => ⟨fun z k => ?_, fun z k => ?_⟩) h
  · rw [lat_rot hs, lat_rot hs, show k + j + s = k + s + j by omega, z]
  · have y := z (k + (l.length - s))
    rw [lat_rot hs, lat_rot hs, show k + (l.length - s) + j + s = k + j + l.length by omega, show k + (l.length - s) + s = k + l.length by omega, lat_len, lat_len] at y
    exact y
theorem take_len {l : List Nat} {d : Nat} (h : IsPer l d) : (l.take d).length = d := by
  rw [List.length_take]
  exact Nat.min_eq_left h.2.1
theorem rot_take {l : List Nat} {d s : Nat} (h : IsPer l d) (hs : s < d) : (rotL l s).take d = rotL (l.take d) s := by
  have h2 := h.2.1
  have p := per_rot (show s < l.length by omega) h
  refine ext_getD (by rw [take_len p, rotL_len, take_len h]) fun i hi => ?_
  rw [take_len p] at hi
  rw [take_at p.2.1 hi, lat_rot (by omega), rotL_at (by rw [take_len h]; exact hs) (by rw [take_len h]; exact hi), take_len h, ← lat_root h]
  unfold lat
  rw [take_len h]
theorem per_self {l : List Nat} {d : Nat} (h : IsPer l d) : IsPer (l.take d) d := by
  have h1 := h.1
  refine per_cong (l := l) (by have := h.2.1; omega) (by rw [take_len h]; omega) (by rw [take_len h]; exact Nat.le_refl _) (fun j => ?_) h
  simp only [lat_root h]
theorem take_self {l : List Nat} {d : Nat} (h : l.length = d) : l.take d = l := by
  rw [← h]
  exact List.take_length
/-! ### said twice -/
theorem lat_two (l : List Nat) (h0 : 0 < l.length) (k : Nat) : lat (rep 2 l) k = lat l k := by
  have e : (rep 2 l).length = 2 * l.length := rep_len 2 l
  have hk : k % (2 * l.length) < 2 * l.length := Nat.mod_lt _ (by omega)
  have z := rep_get 2 (l := l) hk
  have y : lat (rep 2 l) k = lat l (k % (2 * l.length)) := by
    show (rep 2 l).getD (k % (rep 2 l).length) 0 = _
    rw [e, List.getD_eq_getElem?_getD, z]
    rfl
  rw [y]
  unfold lat
  rw [Nat.mul_comm, Nat.mod_mul_right_mod]
theorem per_two {l : List Nat} {d : Nat} (h : IsPer l d) : IsPer (rep 2 l) d := by
  have h1 := h.1
  have h2 := h.2.1
  refine per_cong (l := l) (by omega) (by rw [rep_len]; omega) (by rw [rep_len]; omega) (fun j => ?_) h
  simp only [lat_two l (by omega)]
theorem take_two {l : List Nat} {d : Nat} (h : IsPer l d) : (rep 2 l).take d = l.take d := by
  have h1 := h.1
  have h2 := h.2.1
  have p := per_two h
  refine ext_getD (by rw [take_len p, take_len h]) fun i hi => ?_
  rw [take_len p] at hi
  rw [take_at p.2.1 hi, take_at h2 hi, lat_two l (by omega)]
/-! ### called otherwise -/
structure Ren (f : Nat → Nat) : Prop where
  az : ∀ c, 97 ≤ c ∧ c ≤ 122 → 97 ≤ f c ∧ f c ≤ 122
  inj : ∀ c d, 97 ≤ c ∧ c ≤ 122 → 97 ≤ d ∧ d ≤ 122 → f c = f d → c = d
theorem Ren.map {f : Nat → Nat} (h : Ren f) : ∀ {x y : List Nat}, Az x → Az y → x.map f = y.map f → x = y
  | [], [], _, _, _ => rfl
  | [], y :: r, _, _, e => by cases e
  | x :: r, [], _, _, e => by cases e
  | x :: r, y :: t, hx, hy, e => by
    have e1 := (List.cons.inj e).1
    have e2 := (List.cons.inj e).2
    rw [h.inj x y (hx x List.mem_cons_self) (hy y List.mem_cons_self) e1, h.map (fun c hc => hx c (List.mem_cons_of_mem _ hc)) (fun c hc => hy c (List.mem_cons_of_mem _ hc)) e2]
theorem Ren.azm {f : Nat → Nat} (h : Ren f) {x : List Nat} (hx : Az x) : Az (x.map f) := fun c hc => by
  obtain ⟨d, hd, rfl⟩ := List.mem_map.mp hc
  exact h.az d (hx d hd)
theorem lat_map {b : List Nat} (f : Nat → Nat) (h0 : 0 < b.length) (k : Nat) : lat (b.map f) k = f (lat b k) := by
  unfold lat
  have hk : k % b.length < b.length := Nat.mod_lt _ h0
  rw [List.length_map, List.getD_eq_getElem?_getD, List.getElem?_map, List.getElem?_eq_getElem hk, getD_eq hk]
  rfl
theorem run_map {b : List Nat} (f : Nat → Nat) (h0 : 0 < b.length) (a n : Nat) : run (b.map f) a n = (run b a n).map f := by
  unfold run
  rw [List.map_map]
  exact List.map_congr_left fun i _ => lat_map f h0 _
theorem lat_az {b : List Nat} (h : Az b) (h0 : 0 < b.length) (k : Nat) : 97 ≤ lat b k ∧ lat b k ≤ 122 := by
  have hk : k % b.length < b.length := Nat.mod_lt _ h0
  unfold lat
  rw [getD_eq hk]
  exact h _ (List.getElem_mem hk)
theorem per_map {f : Nat → Nat} (r : Ren f) {l : List Nat} {d : Nat} (az : Az l) (h : IsPer l d) : IsPer (l.map f) d := by
  have h1 := h.1
  have h2 := h.2.1
  have h0 : 0 < l.length := by omega
  refine per_cong (l := l) h0 (by rw [List.length_map]; exact h0) (by rw [List.length_map]; exact h2) (fun j => ⟨fun z k => ?_, fun z k => ?_⟩) h
  · rw [lat_map f h0, lat_map f h0, z]
  · have y := z k
    rw [lat_map f h0, lat_map f h0] at y
    exact r.inj _ _ (lat_az az h0 _) (lat_az az h0 _) y
theorem loop_map {f : Nat → Nat} (r : Ren f) {l : List Nat} (h : isLoop l = true) : isLoop (l.map f) = true := by
  obtain ⟨az, l1, l2⟩ := isLoop_len h
  exact isLoop_of (r.azm az) (by rw [List.length_map]; exact l1) (by rw [List.length_map]; exact l2)
theorem ln_map {f : Nat → Nat} (r : Ren f) {ws us : List (List Nat)} {b : List Nat} {a n : Nat} (az : Az b) (h0 : 0 < b.length) (azw : ∀ x ∈ ws, Az x) (hm : ∀ x, x ∈ us ↔ ∃ y ∈ ws, y.map f = x) (h : LN ws b a n) : LN us (b.map f) a n := by
  refine ⟨fun j j1 j2 => ?_, fun z => ?_⟩
  · rw [run_map f h0]
    exact (hm _).mpr ⟨_, h.all j j1 j2, rfl⟩
  · rw [run_map f h0] at z
    obtain ⟨y, hy, e⟩ := (hm _).mp z
    rw [r.map (azw y hy) (az_run az h0 _ _) e] at hy
    exact h.no hy
theorem lns_map {f : Nat → Nat} (r : Ren f) {ws us : List (List Nat)} {b ls : List Nat} (az : Az b) (azw : ∀ x ∈ ws, Az x) (hm : ∀ x, x ∈ us ↔ ∃ y ∈ ws, y.map f = x) (h : LNs ws b ls) : LNs us (b.map f) ls :=
  ⟨by rw [List.length_map]; exact h.1, fun a ha => by
    rw [List.length_map] at ha
    exact ln_map r az (by omega) azw hm (h.2 a ha)⟩
theorem gs_map {f : Nat → Nat} (r : Ren f) {b ls : List Nat} (az : Az b) (h0 : 0 < b.length) : ∀ k, gs (b.map f) ls k = gs b ls k
  | 0 => rfl
  | k + 1 => by
    show lnx (b.map f) (gs (b.map f) ls k) = lnx b (gs b ls k)
    rw [gs_map r az h0 k]
    unfold lnx
    rw [List.length_map]
    refine Prod.ext rfl (List.map_congr_left fun q _ => ?_)
    rw [run_map f h0, run_map f h0]
    by_cases c : run b q ((gs b ls k).2.getD (gs b ls k).1 0 + 1) = run b (gs b ls k).1 ((gs b ls k).2.getD (gs b ls k).1 0 + 1)
    · rw [if_pos c, if_pos (by rw [c])]
    · rw [if_neg c, if_neg fun z => c (r.map (az_run az h0 _ _) (az_run az h0 _ _) z)]
theorem map_nodup {f : Nat → Nat} (r : Ren f) : ∀ {ws : List (List Nat)}, (∀ x ∈ ws, Az x) → ws.Nodup → (ws.map (List.map f)).Nodup
  | [], _, _ => List.nodup_nil
  | x :: ws, az, nd => by
    obtain ⟨a, b⟩ := List.nodup_cons.mp nd
    refine List.nodup_cons.mpr ⟨fun z => ?_, map_nodup r (fun y hy => az y (List.mem_cons_of_mem _ hy)) b⟩
    obtain ⟨y, hy, e⟩ := List.mem_map.mp z
    rw [r.map (az y (List.mem_cons_of_mem _ hy)) (az x List.mem_cons_self) e] at hy
    exact a hy
/-- known words called otherwise are known words -/
theorem known_map {f : Nat → Nat} (r : Ren f) {ws us : List (List Nat)} (h : isKnown ws = true) (p : us.Perm (ws.map (List.map f))) (hs : sortedS (us.map SX.S) = true) : isKnown us = true := by
  obtain ⟨k1, k2, k3⟩ := isKnown_iff.mp h
  have az := known_az h
  refine isKnown_of p hs (map_nodup r az (List.nodup_cons.mp (nodup0 k1 k2)).2) (fun l hl => ?_) (fun l hl => ?_)
  · obtain ⟨y, hy, rfl⟩ := List.mem_map.mp hl
    have z := isWord_iff.mp (List.all_eq_true.mp k1 y hy)
    exact isWord_iff.mpr ⟨r.azm z.1, by rw [List.length_map]; exact z.2⟩
  · obtain ⟨y, hy, rfl⟩ := List.mem_map.mp hl
    rw [List.length_map, ← List.map_take]
    rcases List.mem_cons.mp (of_decide_eq_true (List.all_eq_true.mp k3 y hy)) with z | z
    · rw [z]
      exact List.mem_cons_self
    · exact List.mem_cons_of_mem _ (List.mem_map.mpr ⟨_, z, rfl⟩)
/-! ### read on -/
theorem on_lns {ws : List (List Nat)} {b ls : List Nat} (h0 : 0 < b.length) (hl : LNs ws b ls) (hb : Beg ws b) : ∀ m, LNs (ws ++ (List.range m).map (wrdR b ls)) b (gs b ls m).2 ∧ Beg (ws ++ (List.range m).map (wrdR b ls)) b
  | 0 => by
    rw [List.range_zero, List.map_nil, List.append_nil]
    exact ⟨hl, hb⟩
  | m + 1 => by
    obtain ⟨i1, i2⟩ := on_lns h0 hl hb m
    rw [List.range_succ, List.map_append, ← List.append_assoc]
    exact lns_step i1 i2 (gs_lt h0 m)
theorem on_new {ws : List (List Nat)} {b ls : List Nat} (h0 : 0 < b.length) (hl : LNs ws b ls) (hb : Beg ws b) (nd : ws.Nodup) : ∀ m, (ws ++ (List.range m).map (wrdR b ls)).Nodup
  | 0 => by
    rw [List.range_zero, List.map_nil, List.append_nil]
    exact nd
  | m + 1 => by
    obtain ⟨i1, i2⟩ := on_lns h0 hl hb m
    have ih := on_new h0 hl hb nd m
    rw [List.range_succ, List.map_append, ← List.append_assoc]
    refine List.nodup_append.mpr ⟨ih, by simp, fun x hx y hy e => ?_⟩
    rw [List.map_singleton, List.mem_singleton] at hy
    rw [e, hy] at hx
    exact (i1.2 _ (gs_lt h0 m)).no hx
theorem on_beg {ws : List (List Nat)} {b ls : List Nat} (h0 : 0 < b.length) (hl : LNs ws b ls) (hb : Beg ws b) {m k : Nat} (hk : k < m) : (wrdR b ls k).take ((wrdR b ls k).length - 1) ∈ ([] : List Nat) :: (ws ++ (List.range m).map (wrdR b ls)) := by
  obtain ⟨i1, _⟩ := on_lns h0 hl hb k
  have z := i1.2 _ (gs_lt (ls := ls) h0 k)
  unfold wrdR
  rw [run_len, Nat.add_sub_cancel, run_take (Nat.le_succ _)]
  by_cases c : (gs b ls k).2.getD (gs b ls k).1 0 = 0
  · rw [c]
    exact List.mem_cons_self
  · refine List.mem_cons_of_mem _ ?_
    have y := z.all _ (by omega) (Nat.le_refl _)
    rcases List.mem_append.mp y with q | q
    · exact List.mem_append_left _ q
    · obtain ⟨j, hj, e⟩ := List.mem_map.mp q
      have := List.mem_range.mp hj
      exact List.mem_append_right _ (List.mem_map.mpr ⟨j, List.mem_range.mpr (by omega), e⟩)
theorem on_known {ws us : List (List Nat)} {b ls : List Nat} {m : Nat} (h0 : 0 < b.length) (az : Az b) (hk : isKnown ws = true) (hl : LNs ws b ls) (p : us.Perm (ws ++ (List.range m).map (wrdR b ls))) (hs : sortedS (us.map SX.S) = true) : isKnown us = true := by
  obtain ⟨k1, k2, k3⟩ := isKnown_iff.mp hk
  have hb := beg_of hk b
  refine isKnown_of p hs (on_new h0 hl hb (List.nodup_cons.mp (nodup0 k1 k2)).2 m) (fun l hl2 => ?_) (fun l hl2 => ?_)
  · rcases List.mem_append.mp hl2 with z | z
    · exact List.all_eq_true.mp k1 l z
    · obtain ⟨k, _, rfl⟩ := List.mem_map.mp z
      exact isWord_iff.mpr ⟨az_run az h0 _ _, by unfold wrdR; rw [run_len]; omega⟩
  · rcases List.mem_append.mp hl2 with z | z
    · rcases List.mem_cons.mp (of_decide_eq_true (List.all_eq_true.mp k3 l z)) with y | y
      · rw [y]
        exact List.mem_cons_self
      · exact List.mem_cons_of_mem _ (List.mem_append_left _ y)
    · obtain ⟨k, hk2, rfl⟩ := List.mem_map.mp z
      exact on_beg h0 hl hb (List.mem_range.mp hk2)
/-- begun s places on -/
def tn (p s : Nat) (c : Nat × List Nat) : Nat × List Nat := ((c.1 + (p - s)) % p, rotL c.2 s)
theorem back_at {p s x : Nat} (hs : s < p) (hx : x < p) : ((x + (p - s)) % p + s) % p = x := by
  rw [Nat.mod_add_mod, show x + (p - s) + s = x + p by omega, Nat.add_mod_right, Nat.mod_eq_of_lt hx]
theorem lnx_turn {b : List Nat} {s : Nat} {c : Nat × List Nat} (hs : s < b.length) (hx : c.1 < b.length) (hl : c.2.length = b.length) : lnx (rotL b s) (tn b.length s c) = tn b.length s (lnx b c) := by
  obtain ⟨x, ls⟩ := c
  have hx : x < b.length := hx
  have hl : ls.length = b.length := hl
  have h0 : 0 < b.length := by omega
  have hx' : (x + (b.length - s)) % b.length < b.length := Nat.mod_lt _ h0
  have e1 : (rotL ls s).getD ((x + (b.length - s)) % b.length) 0 = ls.getD x 0 := by
    rw [rotL_at (by rw [hl]; exact hs) (by rw [hl]; exact hx'), hl, back_at hs hx]
  have r1 : ∀ n, run (rotL b s) ((x + (b.length - s)) % b.length) n = run b x n := fun n => by
    rw [run_rot hs, ← run_mod, back_at hs hx]
  refine Prod.ext ?_ ?_
  · show ((x + (b.length - s)) % b.length + ((rotL ls s).getD ((x + (b.length - s)) % b.length) 0 + 1)) % (rotL b s).length = ((x + (ls.getD x 0 + 1)) % b.length + (b.length - s)) % b.length
    rw [e1, rotL_len, Nat.mod_add_mod, Nat.mod_add_mod]
    congr 1
    omega
  · refine ext_getD (by rw [lnx_len, rotL_len]; show _ = (rotL (lnx b (x, ls)).2 s).length; rw [rotL_len, lnx_len]) fun i hi => ?_
    rw [lnx_len, rotL_len] at hi
    show (lnx (rotL b s) ((x + (b.length - s)) % b.length, rotL ls s)).2.getD i 0 = (rotL (lnx b (x, ls)).2 s).getD i 0
    rw [lnx_at (by rw [rotL_len]; exact hi), e1, r1, run_rot hs, ← run_mod, rotL_at (l := ls) (by rw [hl]; exact hs) (by rw [hl]; exact hi), hl, rotL_at (by rw [lnx_len]; exact hs) (by rw [lnx_len]; exact hi), lnx_len, lnx_at (Nat.mod_lt _ h0)]
theorem gs_len {b ls : List Nat} (hl : ls.length = b.length) : ∀ k, (gs b ls k).2.length = b.length
  | 0 => hl
  | k + 1 => lnx_len _ _
/-- read on where the reading is: the same words, begun there -/
theorem gs_turn {b ls : List Nat} {m : Nat} (h0 : 0 < b.length) (hl : ls.length = b.length) : ∀ j, gs (rotL b (gs b ls m).1) (rotL (gs b ls m).2 (gs b ls m).1) j = tn b.length (gs b ls m).1 (gs b ls (m + j))
  | 0 => by
    have hs := gs_lt (ls := ls) h0 m
    show (0, rotL (gs b ls m).2 (gs b ls m).1) = (((gs b ls m).1 + (b.length - (gs b ls m).1)) % b.length, _)
    rw [show (gs b ls m).1 + (b.length - (gs b ls m).1) = b.length by omega, Nat.mod_self]
    rfl
  | j + 1 => by
    show lnx _ (gs _ _ j) = tn _ _ (lnx b (gs b ls (m + j)))
    rw [gs_turn h0 hl j]
    exact lnx_turn (gs_lt h0 m) (gs_lt h0 _) (gs_len hl _)
end Lk
end
section
set_option maxRecDepth 100000
set_option maxHeartbeats 2000000
/-! list of a text. -/
namespace Lk
open PySem PySem.Spec PyProof.Rows L2
def rListS : List V → Hp → VK → Prop := fun xs H Q => ∃ l : List Nat, xs = [.str (SX.S l)] ∧ l.length ≤ 1000000 ∧ ∀ p, H p = none → Q (.ref p) (upd H p (.lst (l.map fun c => V.str (SX.S [c]))))
theorem vals_at : ∀ {xs : List V} {us : List Value}, xs.length = us.length → (∀ (i : Nat) (x : V) (u : Value), xs[i]? = some x → us[i]? = some u → RelV x u) → Vals xs us
  | [], [], _, _ => .nil
  | [], u :: us, h, _ => by cases h
  | x :: xs, [], h, _ => by cases h
  | x :: xs, u :: us, h, r => .cons (r 0 x u rfl rfl) (vals_at (by simpa using h) fun i y v hy hv => r (i + 1) y v (by simpa using hy) (by simpa using hv))
theorem cr_listS {X : Cx} (hc : X.calm = true) : CallR X (.type "list") rListS := by
  intro pins s σ H xs us Q I r q
  obtain ⟨l, rfl, hl, q⟩ := q
  obtain ⟨u, rfl, ru⟩ := vals1 r
  obtain ⟨t, rfl⟩ := ru
  have hsz : (SX.S l).cps.size ≤ sizeLine := by
    show l.toArray.size ≤ sizeLine
    rw [List.size_toArray]
    exact Nat.le_trans hl (by decide)
  refine PySem.call_list_str (I.ok.hd hc) (SX.S l) t (fun h' tk acc c' hk ho hacc => ?_) hsz
  have hal : acc.toList.length = l.length := by
    rw [Array.length_toList, hacc.1]
    show l.toArray.size = _
    rw [List.size_toArray]
  refine ⟨.ref s.heap.objs.size, upd H s.heap.objs.size (.lst (l.map fun c => V.str (SX.S [c]))), I.laid (t' := tk) hk (Nat.le_refl _) (show ObjOk X.prog X.w _ _ _ (.lst (l.map fun c => V.str (SX.S [c]))) from ⟨?_, acc.toList, c', ?_, ?_⟩), rfl, q _ (I.hok.fresh (Nat.le_refl _))⟩
  · rw [List.length_map]
    exact Nat.le_trans hl (by decide)
  · refine vals_at (by rw [List.length_map, hal]) fun i x u hx hu => ?_
    have z := hacc.2 i u (by rw [← Array.getElem?_toList]; exact hu)
    rw [List.getElem?_map] at hx
    obtain ⟨c, hc1, rfl⟩ := Option.map_eq_some_iff.mp hx
    have e : (SX.S l).cps[i]? = some c := by
      show l.toArray[i]? = some c
      rw [List.getElem?_toArray]
      exact hc1
    obtain ⟨c2, t2, e2, rfl⟩ := z
    rw [e] at e2
    cases e2
    exact ⟨t2, rfl⟩
  · rw [Array.toArray_toList]
    exact ho
end Lk
end
section
set_option maxRecDepth 100000
set_option maxHeartbeats 2000000
/-! Letters called otherwise: the dict of names. -/
namespace Lk
open PySem PySem.Spec PyProof.Rows L2
/-- join within a comprehension -/
theorem pe_joinK {X : Cx} {K : PySem.W.Frag} {o e : Expr} {to te : TE} {apos pos : Pos} (h : X.K = K) (ho : PE X o to) (he : PE X e te) (hs : starEach [e] X.env = [(false, eval e X.env)] := by rfl) (hbase : attributeBase o "join" X.env (eval o X.env) = eval o X.env := by rfl) (hline : (apos.endLine == pos.line) = true := by rfl) :
    PE X (.Call (.Attribute o "join" apos) [e] [] pos) (tM1 (fun x xs H Q => ∃ a p, ∃ ys : List Str, x = .str a ∧ xs = [.ref p] ∧ (SqL K H p (ys.map V.str) ∨ SqT K H p (ys.map V.str)) ∧ (ys.map (·.length)).sum + ys.length * a.length ≤ 16777216 ∧ Q (.str (Txt.join a ys)) H) to te) := by
  subst h
  exact pe_join ho he hs hbase hline
def alN : List Nat := (List.range 26).map fun i => 97 + i
theorem alN_S : Str.ofString "abcdefghijklmnopqrstuvwxyz" = SX.S alN := by decide +kernel
theorem alN_nd : alN.Nodup := by decide +kernel
theorem alN_az : ∀ c ∈ alN, 97 ≤ c ∧ c ≤ 122 := by decide +kernel
theorem alN_at {i : Nat} (h : i < 26) : alN[i]? = some (97 + i) := by
  unfold alN
  rw [List.getElem?_map, List.getElem?_range h]
  rfl
theorem eraseN_map {α β : Type} (g : α → β) : ∀ (l : List α) (k : Nat), (l.map g).eraseIdx k = (l.eraseIdx k).map g
  | [], _ => rfl
  | x :: l, 0 => rfl
  | x :: l, k + 1 => congrArg (fun z => g x :: z) (eraseN_map g l k)
theorem eraseN_perm {α : Type} : ∀ (l : List α) (k : Nat) (h : k < l.length), (l[k] :: l.eraseIdx k).Perm l
  | x :: l, 0, _ => List.Perm.refl _
  | x :: l, k + 1, h => by
    have ih := eraseN_perm l k (by simpa using h)
    exact (List.Perm.swap x _ _).trans (ih.cons x)
def chN (c : Nat) : V := .str (SX.S [c])
/-- how each letter is called -/
def nmF (os : List Nat) (c : Nat) : Nat := os.getD (c - 97) 0
theorem nmF_at {os : List Nat} {i : Nat} (hi : i < os.length) : nmF os (97 + i) = os[i] := by
  unfold nmF
  rw [Nat.add_sub_cancel_left, getD_eq hi]
theorem nm_ren {os : List Nat} (p : os.Perm alN) : Ren (nmF os) := by
  have l26 : os.length = 26 := p.length_eq
  have nd : os.Nodup := p.symm.nodup alN_nd
  have at_ : ∀ c, 97 ≤ c ∧ c ≤ 122 → ∃ i, i < 26 ∧ c = 97 + i := fun c h => ⟨c - 97, by omega, by omega⟩
  refine ⟨fun c h => ?_, fun c d hc hd e => ?_⟩
  · obtain ⟨i, hi, rfl⟩ := at_ c h
    rw [nmF_at (by omega)]
    exact alN_az _ (p.mem_iff.mp (List.getElem_mem _))
  · obtain ⟨i, hi, rfl⟩ := at_ c hc
    obtain ⟨j, hj, rfl⟩ := at_ d hd
    rw [nmF_at (by omega), nmF_at (by omega)] at e
    rw [(List.getElem_inj nd).mp e]
def nmK (os : List Nat) : List (Key × V) := (List.range 26).map fun i => (Sum.inr (SX.S [97 + i]), chN (nmF os (97 + i)))
theorem find_rng (c : Nat) : ∀ n, (List.range n).find? (fun i => decide (i = c)) = if c < n then some c else none
  | 0 => by simp
  | n + 1 => by
    rw [List.range_succ, List.find?_append, find_rng c n]
    by_cases h : c < n
    · rw [if_pos h, if_pos (by omega)]
      rfl
    · rw [if_neg h]
      by_cases e : n = c
      · subst e
        rw [if_pos (Nat.lt_succ_self _)]
        simp
      · rw [if_neg (by omega)]
        simp [e]
theorem S1_inj {c d : Nat} (h : SX.S [c] = SX.S [d]) : c = d := (List.cons.inj (SX.S_inj h)).1
theorem nm_val {os : List Nat} {c : Nat} (h : 97 ≤ c ∧ c ≤ 122) : valV (nmK os) (Sum.inr (SX.S [c])) = some (chN (nmF os c)) := by
  obtain ⟨i, hi, rfl⟩ : ∃ i, i < 26 ∧ c = 97 + i := ⟨c - 97, by omega, by omega⟩
  unfold valV nmK
  rw [List.find?_map]
  have e : ((fun kv : Key × V => decide (kv.1 = Sum.inr (SX.S [97 + i]))) ∘ fun j => ((Sum.inr (SX.S [97 + j]) : Key), chN (nmF os (97 + j)))) = fun j => decide (j = i) := by
    funext j
    show decide ((Sum.inr (SX.S [97 + j]) : Key) = Sum.inr (SX.S [97 + i])) = decide (j = i)
    by_cases z : j = i
    · rw [z, decide_eq_true rfl, decide_eq_true rfl]
    · rw [decide_eq_false z, decide_eq_false fun y => z (by have := S1_inj (Sum.inr.inj y); omega)]
  rw [e, find_rng, if_pos hi]
  rfl
theorem merge_new : ∀ (more kvs : List (Key × V)), ((kvs ++ more).map (·.1)).Nodup → mergeK kvs more = kvs ++ more
  | [], kvs, _ => by
    rw [List.append_nil]
    rfl
  | (k, v) :: r, kvs, h => by
    have hv : valV kvs k = none := by
      unfold valV
      rw [Option.map_eq_none_iff, List.find?_eq_none]
      intro p hp z
      have e : p.1 = k := of_decide_eq_true z
      rw [List.map_append] at h
      exact (List.nodup_append.mp h).2.2 p.1 (List.mem_map.mpr ⟨p, hp, rfl⟩) k (by simp) e
    show mergeK (putK kvs k v) r = _
    rw [putK_new _ hv, merge_new r _ (by rw [List.append_assoc]; exact h), List.append_assoc]
    rfl
theorem nm_merge (os : List Nat) : mergeK [] (nmK os) = nmK os := by
  refine merge_new _ [] ?_
  rw [List.nil_append]
  unfold nmK
  rw [List.map_map]
  refine List.pairwise_map.mpr (List.Pairwise.imp (fun {i j} hij e => ?_) List.pairwise_lt_range)
  have := S1_inj (Sum.inr.inj e)
  omega
theorem nm_len (os : List Nat) : (nmK os).length = 26 := by
  unfold nmK
  rw [List.length_map, List.length_range]
theorem paired_of {α β : Type} {F : α → β → Prop} : ∀ {ps : List α} {kvs : List β}, ps.length = kvs.length → (∀ (j : Nat) (p : α) (kv : β), ps[j]? = some p → kvs[j]? = some kv → F p kv) → Paired F ps kvs
  | [], [], _, _ => .nil
  | [], _ :: _, h, _ => by cases h
  | _ :: _, [], h, _ => by cases h
  | p :: ps, kv :: kvs, h, hat => .cons (hat 0 p kv rfl rfl) (paired_of (Nat.succ.inj h) fun j q x hq hx => hat (j + 1) q x hq hx)
theorem nm_at {os : List Nat} {j : Nat} {kv : Key × V} (h : (nmK os)[j]? = some kv) : j < 26 ∧ kv = (Sum.inr (SX.S [97 + j]), chN (nmF os (97 + j))) := by
  have hj : j < 26 := by
    have z := (List.getElem?_eq_some_iff.mp h).1
    rw [nm_len] at z
    exact z
  refine ⟨hj, ?_⟩
  unfold nmK at h
  rw [List.getElem?_map, List.getElem?_range hj] at h
  exact (Option.some.inj h).symm
theorem nm_get {H : Hp} {N : Addr} {os : List Nat} {c : Nat} (e : H N = some (.dK (nmK os))) (h : 97 ≤ c ∧ c ≤ 122) : DGet H N (.str (SX.S [c])) (some (chN (nmF os c))) := by
  rw [← nm_val h]
  exact DGet.k (k := Sum.inr (SX.S [c])) e
theorem ones_size (os : List Nat) (h : os.length ≤ 100000) : ((os.map fun c => SX.S [c]).map (·.length)).sum + (os.map fun c => SX.S [c]).length * (Str.ofString "").length ≤ 16777216 := by
  have e : ((os.map fun c => SX.S [c]).map (·.length)).sum = os.length := by
    rw [List.map_map]
    clear h
    induction os with
    | nil => rfl
    | cons c r ih =>
      rw [List.map_cons, List.sum_cons, ih, List.length_cons]
      show 1 + r.length = r.length + 1
      omega
  rw [e, List.length_map, show (Str.ofString "").length = 0 from by decide +kernel]
  omega
theorem urn_upd {H : Hp} {a D : Addr} {n : Int} {o : HO} (h : Urn H a n) (ne : a ≠ D) : Urn (upd H D o) a n := by
  obtain ⟨u0, u1, u2, e, r⟩ := h
  exact ⟨u0, u1, u2, (upd_ne ne).trans e, r⟩
theorem nm_step {H5 H6 : Hp} {D : Addr} {c i : Nat} {l : List Nat} {f : Nat → Nat} (nD : H5 D = none) (s6 : Same H5 H6) (e6 : H6 D = some (.lst (((l.take i).map f).map chN))) (hc : l[i]? = some c) (hl : l.length ≤ 100000) :
    ∃ acc, H6 D = some (.lst acc) ∧ acc.length < sizeLine ∧ Same H5 (upd H6 D (.lst (acc ++ [chN (f c)]))) ∧ upd H6 D (.lst (acc ++ [chN (f c)])) D = some (.lst (((l.take (i + 1)).map f).map chN)) := by
  refine ⟨_, e6, ?_, same_push s6 nD, ?_⟩
  · rw [List.length_map, List.length_map, List.length_take]
    exact Nat.lt_of_le_of_lt (show min i l.length ≤ 100000 by omega) (by decide)
  · rw [upd_same, List.take_add_one, hc, List.map_append, List.map_append]
    rfl
theorem str_at {l : List Nat} {i c : Nat} (h : (SX.S l).cps[i]? = some c) : l[i]? = some c := by
  rw [← h]
  show l[i]? = (l.toArray)[i]?
  rw [List.getElem?_toArray]
theorem take_str (l : List Nat) : l.take ((SX.S l).cps.size) = l := List.take_of_length_le (by show l.length ≤ (l.toArray).size; rw [List.size_toArray]; exact Nat.le_refl _)
end Lk
end
section
set_option maxRecDepth 100000
set_option maxHeartbeats 4000000
namespace Lk
open PySem PySem.Spec PyProof.Rows L2
abbrev nPO : List Str := ["loop", "thing", "place", "letter"]
section
variable {P : Program} {w : World} {K : PySem.W.Frag} {mg : Str → Option Value} {base : Heap}
theorem sc_placeOf : FnScope nPO ["loop", "thing"] (defScope s_place_of) := ⟨rfl, rfl, rfl, by decide +kernel, rfl, by decide +kernel, by decide +kernel⟩
theorem ok_placeOf {f : Addr} {fd : FuncData} (F : Fun K "place_of" "place_of" s_place_of f fd) (cw : C8.Cal P w K mg base 2 "is_word" spWord []) (cf : C8.Cal P w K mg base 1 "text_from" spFrom []) (ml : mg "len" = none) (me : mg "enumerate" = none) : FnOk P w K mg base CX0 3 f fd ["loop", "thing"] spPlaceOf := by
  refine F.ok sc_placeOf (fun vs H Q E h => ?_) (fun cdv A outer s H vs Q E hr h => ?_)
  · obtain ⟨l, v, b, rfl, _⟩ := h
    rfl
  · obtain ⟨l, v, b, rfl, h0, l12, hv, x5', q0, q1⟩ := h
    have nd := sc_placeOf.nd
    refine ⟨_, (pss_cons (by exact (ps_if (pt_not (pt_val (C8.pe_c cw hr (by decide) rfl (pa_cons (pv 1) pa_nil)))) (pss_one (by exact (ps_ret pe_non))) pss_nil))
      (pss_cons (by exact (ps_for PassesOwn.never rfl (pi_enumTx (by rfl) me (pa_cons (pv 0) pa_nil)) (pg_tup rfl (pgs_cons (pg_name (i := 2) nd rfl (Or.inl rfl)) (pgs_cons (pg_name (i := 3) nd rfl (Or.inl rfl)) pgs_nil))) (pss_one (by exact (ps_if (PW.pt (pw_and (pt_cmpR op_eq (pe_item_str (pv 1) pe_int (fun _ _ => rfl)) (pv 3) (nomark _)) (pw_and1 (pt_cmpR op_eq (C8.pe_c cf hr (by decide) rfl (pa_cons (pv 0) (pa_cons (pv 2) (pa_cons (pe_callB call_len_str (by rfl) ml PySem.boot_len (pa_cons (pv 1) pa_nil)) pa_nil)))) (pv 1) (nomark _))))) (pss_one (by exact (ps_ret (pv 2)))) pss_nil)))))
      (pss_one (by exact (ps_ret pe_non))))), ?_⟩
    refine ⟨_, rfl, v, b, rfl, hv, fun H1 s1 => ⟨_, rfl, ?_⟩⟩
    cases hb : b with
    | false => exact q0 hb H1 s1
    | true =>
      have key : ∀ b2, WordV H v b2 → b2 = true → ∃ x, v = .str (SX.S x) ∧ isWord x = true := by
        intro b2 h e
        cases h with
        | str x hl => exact ⟨x, rfl, e⟩
        | oth h => cases e
      obtain ⟨x, rfl, hx⟩ := key b hv hb
      have x5 := x5' x rfl
      have x0 : 0 < x.length := by
        unfold isWord at hx
        rw [Bool.and_eq_true] at hx
        exact of_decide_eq_true hx.2
      refine ⟨_, rfl, SX.S l, rfl, ?_⟩
      refine for_it walk_enumTx (fun i σ H2 => ∃ y2 y3, σ = [some (.str (SX.S l)), some (.str (SX.S x)), y2, y3] ∧ Same H H2 ∧ ∀ k, k < i → standsAt l x k = false) ⟨none, none, rfl, s1, fun k hk => absurd hk (Nat.not_lt_zero k)⟩ (fun _ _ _ _ _ => trivial) ?_ ?_
      · rintro i y σ H2 H3 hi ⟨y2, y3, rfl, s2, no⟩ ⟨T, x1, x2, rfl, nT, rfl, hx1, hx2⟩
        have hi2 : i < l.length := by
          have z : (SX.S l).cps.size = l.length := by show l.toArray.size = _; rw [List.size_toArray]
          omega
        have e1 : x1 = .int (i : Int) := (Option.some.inj hx1).symm
        obtain ⟨c, hc, ec⟩ := Option.map_eq_some_iff.mp hx2
        have hc' : l[i]? = some c := str_at hc
        subst e1
        subst ec
        have sT : Same H (upd H2 T (.tup [.int (i : Int), .str ⟨#[c]⟩])) := s2.trans (same_new nT)
        obtain ⟨d, hd⟩ : ∃ d, x[0]? = some d := ⟨x[0], by rw [List.getElem?_eq_getElem x0]⟩
        have hd2 : (SX.S x).cps[(0 : Int).toNat]? = some d := by
          show (x.toArray)[0]? = some d
          rw [List.getElem?_toArray]
          exact hd
        refine ⟨T, [.int (i : Int), .str ⟨#[c]⟩], rfl, SqT.of upd_same, rfl, _, _, rfl, _, _, rfl, rfl, ?_⟩
        refine ⟨_, rfl, _, _, d, rfl, rfl, (by decide), (by decide), (by rw [SX.S_len]; exact_mod_cast x0), hd2, _, rfl, rfl, _, rfl, ?_⟩
        have hs : standsAt l x i = (decide (d = c) && decide (run l i x.length = x)) := by
          unfold standsAt
          rw [List.head?_eq_getElem?, hd, hc']
          congr 1
          by_cases e : d = c
          · subst e; rw [decide_eq_true rfl, decide_eq_true rfl]
          · rw [decide_eq_false e, decide_eq_false (fun z => e (Option.some.inj z))]
        have stop : standsAt l x i = false → ∃ y2' y3', [some (V.str (SX.S l)), some (V.str (SX.S x)), some (V.int (i : Int)), some (V.str ⟨#[c]⟩)] = [some (V.str (SX.S l)), some (V.str (SX.S x)), y2', y3'] ∧ Same H (upd H2 T (.tup [.int (i : Int), .str ⟨#[c]⟩])) ∧ ∀ k, k < i + 1 → standsAt l x k = false := fun z => ⟨_, _, rfl, sT, fun k hk => by
          rcases Nat.lt_succ_iff_lt_or_eq.mp hk with y | y
          · exact no k y
          · rw [y]; exact z⟩
        by_cases c1 : d = c
        · subst c1
          rw [decide_eq_true rfl, Bool.true_and] at hs
          dsimp only
          rw [if_pos (decide_eq_true rfl)]
          refine ⟨_, rfl, _, rfl, _, rfl, SX.S x, rfl, (by rw [SX.S_len]; exact Nat.le_trans x5 (by decide)), l, i, x.length, (by rw [SX.S_len]; rfl), hi2, l12, x5, _, rfl, rfl, _, rfl, ?_⟩
          by_cases c2 : run l i x.length = x
          · dsimp only
            rw [if_pos (decide_eq_true (congrArg (fun z => V.str (SX.S z)) c2))]
            rw [decide_eq_true c2] at hs
            have z := q1 hb x rfl hx _ sT
            rw [place_some hi2 hs no] at z
            exact ⟨_, rfl, z⟩
          · dsimp only
            rw [if_neg (fun y => c2 (SX.S_inj (V.str.inj (of_decide_eq_true y))))]
            rw [decide_eq_false c2] at hs
            exact stop hs
        · dsimp only
          rw [if_neg (fun z => c1 (by
            have y := V.str.inj (of_decide_eq_true z)
            injection y with y
            have y2 := congrArg (fun a => a[0]?) y
            exact Option.some.inj y2))]
          rw [decide_eq_false c1, Bool.false_and] at hs
          exact stop hs
      · rintro σ H2 ⟨y2, y3, rfl, s2, no⟩
        have z := q1 hb x rfl hx H2 s2
        rw [place_none (fun k hk => no k (by
          have e : (SX.S l).cps.size = l.length := by show l.toArray.size = _; rw [List.size_toArray]
          omega))] at z
        exact z
end
end Lk
end
section
/-! Signs of coders with a word more, and turned: mathematics. -/
namespace Lk
theorem mod_two {p x : Nat} (h : x < 2 * p) : x % p = if x < p then x else x - p := by
  split
  · exact Nat.mod_eq_of_lt (by assumption)
  · rename_i g
    rw [Nat.mod_eq_sub_mod (by omega), Nat.mod_eq_of_lt (by omega)]
/-- one word more at a place -/
def one (c : Cd) (i : Nat) : Cd := (c.1, c.2.set i (len c i + 1))
theorem one_len (c : Cd) (i : Nat) : (one c i).2.length = c.2.length := List.length_set
theorem one_same {c : Cd} {i : Nat} (h : i < c.2.length) : len (one c i) i = len c i + 1 := by
  show (c.2.set i _).getD i 0 = _
  rw [List.getD_eq_getElem?_getD, List.getElem?_set_self h]
  rfl
theorem one_ne {c : Cd} {i k : Nat} (h : k ≠ i) : len (one c i) k = len c k := by
  show (c.2.set i _).getD k 0 = c.2.getD k 0
  rw [List.getD_eq_getElem?_getD, List.getD_eq_getElem?_getD, List.getElem?_set_ne (Ne.symm h)]
theorem num_one {c : Cd} {i : Nat} (h : i < c.2.length) (k : Nat) : num (one c i) k = num c k + (if k = i then 1 else 0) - (if k = (i + (len c i + 1)) % c.2.length then 1 else 0) := by
  unfold num
  rw [endsI_eq, endsI_eq, one_len]
  have e : sumR c.2.length (fun b => (cnt c.2.length b k (len (one c i) b) : Int)) = sumR c.2.length (fun b => (cnt c.2.length b k (len c b) : Int) + (if b = i then (if k = (i + (len c i + 1)) % c.2.length then 1 else 0) else 0)) := sumR_congr fun b _ => by
    by_cases g : b = i
    · subst g
      rw [one_same h, if_pos rfl]
      show ((cnt c.2.length b k (len c b) + (if (b + (len c b + 1)) % c.2.length = k then 1 else 0) : Nat) : Int) = _
      by_cases g2 : k = (b + (len c b + 1)) % c.2.length
      · rw [if_pos g2, if_pos g2.symm]
        rfl
      · rw [if_neg g2, if_neg (fun z => g2 z.symm)]
        rfl
    · rw [one_ne g, if_neg g]
      omega
  have e1 : (one c i).1 = c.1 := rfl
  rw [e, sumR_add, sumR_one h, e1]
  by_cases g : k = i
  · subst g
    rw [one_same h, if_pos rfl]
    push_cast
    omega
  · rw [one_ne g, if_neg g]
    omega
theorem sumR_split (m n : Nat) (f : Nat → Int) : sumR (m + n) f = sumR m f + sumR n fun j => f (m + j) := by
  induction n with
  | zero => rw [sumR_zero]; simp
  | succ n ih => rw [show m + (n + 1) = (m + n) + 1 by omega, sumR_succ, sumR_succ, ih]; omega
theorem sumR_turn {p s : Nat} (h : s ≤ p) (g : Nat → Int) : sumR p (fun b => g ((b + s) % p)) = sumR p g := by
  obtain ⟨y, rfl⟩ : ∃ y, p = y + s := ⟨p - s, by omega⟩
  rw [sumR_split y s fun b => g ((b + s) % (y + s))]
  have e1 : sumR y (fun b => g ((b + s) % (y + s))) = sumR y (fun j => g (s + j)) := sumR_congr fun b hb => by
    rw [Nat.mod_eq_of_lt (by omega), Nat.add_comm]
  have e2 : sumR s (fun j => g ((y + j + s) % (y + s))) = sumR s g := sumR_congr fun j hj => by
    rw [show y + j + s = j + (y + s) by omega, Nat.add_mod_right, Nat.mod_eq_of_lt (by omega)]
  rw [e1, e2, Nat.add_comm y s, sumR_split s y g]
  omega
/-- turned: places called by so many more -/
def trn (c : Cd) (y : Nat) : Cd := ((c.1 + y) % c.2.length, c.2.drop (c.2.length - y) ++ c.2.take (c.2.length - y))
theorem trn_len (c : Cd) (y : Nat) : (trn c y).2.length = c.2.length := by
  show (c.2.drop (c.2.length - y) ++ c.2.take (c.2.length - y)).length = _
  rw [List.length_append, List.length_drop, List.length_take]
  omega
theorem rot_at {α : Type} {l : List α} {y k : Nat} (hy : y < l.length) (hk : k < l.length) : (l.drop (l.length - y) ++ l.take (l.length - y))[k]? = l[(k + (l.length - y)) % l.length]? := by
  rw [mod_two (by omega)]
  by_cases g : k < y
  · rw [List.getElem?_append_left (by rw [List.length_drop]; omega), List.getElem?_drop, if_pos (by omega), Nat.add_comm]
  · rw [List.getElem?_append_right (by rw [List.length_drop]; omega), List.length_drop, List.getElem?_take, if_pos (by omega), if_neg (by omega)]
    congr 1
    omega
theorem trn_at {c : Cd} {y k : Nat} (hy : y < c.2.length) (hk : k < c.2.length) : len (trn c y) k = len c ((k + (c.2.length - y)) % c.2.length) := by
  show (c.2.drop (c.2.length - y) ++ c.2.take (c.2.length - y)).getD k 0 = c.2.getD _ 0
  rw [List.getD_eq_getElem?_getD, List.getD_eq_getElem?_getD, rot_at hy hk]
theorem cnt_turn {p s b k : Nat} (hk : k < p) : ∀ L : Nat, cnt p b k L = cnt p ((b + s) % p) ((k + s) % p) L
  | 0 => rfl
  | L + 1 => by
    show cnt p b k L + (if (b + (L + 1)) % p = k then 1 else 0) = cnt p ((b + s) % p) ((k + s) % p) L + (if ((b + s) % p + (L + 1)) % p = (k + s) % p then 1 else 0)
    rw [cnt_turn (s := s) hk L]
    have e : (b + (L + 1)) % p = k ↔ ((b + s) % p + (L + 1)) % p = (k + s) % p := by
      rw [Nat.mod_add_mod, show b + s + (L + 1) = (b + (L + 1)) + s by omega]
      constructor
      · intro h
        rw [← Nat.mod_add_mod, h]
      · intro h
        have z : ((b + (L + 1) : Nat) : Int) % (p : Int) = (k : Int) % (p : Int) := by
          have h2 := congrArg (fun n : Nat => (n : Int)) h
          simp only [Int.natCast_emod, Int.natCast_add] at h2
          have h3 : (((b : Int) + ((L : Int) + 1) + (s : Int)) - s) % (p : Int) = (((k : Int) + s) - s) % (p : Int) := by
            rw [Int.sub_emod, show ((b : Int) + ((L : Int) + 1) + (s : Int)) % (p : Int) = ((k : Int) + s) % (p : Int) from h2, ← Int.sub_emod]
          rw [show (b : Int) + ((L : Int) + 1) + (s : Int) - s = ((b + (L + 1) : Nat) : Int) by push_cast; omega, show (k : Int) + s - s = k by omega] at h3
          exact h3
        have z2 : (((b + (L + 1)) % p : Nat) : Int) = ((k % p : Nat) : Int) := by
          rw [Int.natCast_emod, Int.natCast_emod]
          exact z
        rw [Int.ofNat.inj z2, Nat.mod_eq_of_lt hk]
    by_cases g : (b + (L + 1)) % p = k
    · rw [if_pos g, if_pos (e.mp g)]
    · rw [if_neg g, if_neg (fun z => g (e.mpr z))]
theorem num_trn {c : Cd} (h : COk c) {y k : Nat} (hy : y < c.2.length) (hk : k < c.2.length) : num (trn c y) k = num c ((k + (c.2.length - y)) % c.2.length) := by
  have hp : 0 < c.2.length := by omega
  unfold num
  rw [endsI_eq, endsI_eq, trn_len, trn_at hy hk]
  have e : sumR c.2.length (fun b => (cnt c.2.length b k (len (trn c y) b) : Int)) = sumR c.2.length (fun b => (fun b' => (cnt c.2.length b' ((k + (c.2.length - y)) % c.2.length) (len c b') : Int)) ((b + (c.2.length - y)) % c.2.length)) := sumR_congr fun b hb => by
    show _ = (cnt c.2.length ((b + (c.2.length - y)) % c.2.length) ((k + (c.2.length - y)) % c.2.length) (len c ((b + (c.2.length - y)) % c.2.length)) : Int)
    rw [trn_at hy hb, cnt_turn (s := c.2.length - y) hk]
  have e0 := e.trans (sumR_turn (p := c.2.length) (s := c.2.length - y) (by omega) fun b' => (cnt c.2.length b' ((k + (c.2.length - y)) % c.2.length) (len c b') : Int))
  rw [e0]
  have e1 : (k = (trn c y).1) ↔ ((k + (c.2.length - y)) % c.2.length = c.1) := by
    have h1 : c.1 < c.2.length := h
    show k = (c.1 + y) % c.2.length ↔ _
    rw [mod_two (x := c.1 + y) (by omega), mod_two (x := k + (c.2.length - y)) (by omega)]
    split <;> split <;> omega
  by_cases g : k = (trn c y).1
  · rw [if_pos g, if_pos (e1.mp g)]
  · rw [if_neg g, if_neg (fun z => g (e1.mpr z))]
theorem trn_ok {c : Cd} (h : COk c) (y : Nat) : COk (trn c y) := by
  show (c.1 + y) % c.2.length < (trn c y).2.length
  rw [trn_len]
  exact Nat.mod_lt _ (Nat.lt_of_le_of_lt (Nat.zero_le _) h)
theorem emod_two (a x b y p : Int) : (a % p + x - (b % p + y)) % p = ((a + x) - (b + y)) % p := by
  rw [Int.sub_emod, Int.emod_add_emod, Int.emod_add_emod, ← Int.sub_emod]
end Lk
end
section
set_option maxRecDepth 100000
set_option maxHeartbeats 2000000
/-! Tables less their first number; turned ones. -/
namespace Lk
open PySem PySem.Spec PyProof.Rows L2
def lessF (p : Nat) (f : Nat → Int) : List V := tab p fun k => (f k - f 0) % (p : Int)
def spLessL : Sp := fun vs H Q _ => ∃ (a : Addr) (p : Nat) (f : Nat → Int), vs = [.ref a] ∧ H a = some (.lst (tab p f)) ∧ 1 ≤ p ∧ p ≤ 12 ∧ ∀ q H', Same H H' → H' q = some (.tup (lessF p f)) → Q (.ref q) H'
def spLessT : Sp := fun vs H Q _ => ∃ (a : Addr) (p : Nat) (f : Nat → Int), vs = [.ref a] ∧ H a = some (.tup (tab p f)) ∧ 1 ≤ p ∧ p ≤ 12 ∧ ∀ q H', Same H H' → H' q = some (.tup (lessF p f)) → Q (.ref q) H'
theorem lessF_sgn {c d : Cd} (l : d.2.length = c.2.length) {f : Nat → Int} (h : ∀ k, k < c.2.length → (f k - f 0) % (c.2.length : Int) = (num d k - num d 0) % (c.2.length : Int)) : lessF c.2.length f = (sgn d).map vN := by
  rw [sgn_tab, l]
  exact tab_congr h
/-- what is counted with one word more -/
theorem less_one {c : Cd} {i : Nat} (h : i < c.2.length) (f : Nat → Int) (hf : ∀ k, k < c.2.length → f k = (num c k - num c 0) % (c.2.length : Int) + (if k = i then 1 else 0) - (if k = (i + (len c i + 1)) % c.2.length then 1 else 0)) : lessF c.2.length f = (sgn (one c i)).map vN := by
  refine lessF_sgn (one_len c i) fun k hk => ?_
  rw [hf k hk, hf 0 (by omega), num_one h, num_one h]
  generalize (if k = i then (1 : Int) else 0) = a
  generalize (if k = (i + (len c i + 1)) % c.2.length then (1 : Int) else 0) = b
  generalize (if (0 : Nat) = i then (1 : Int) else 0) = a0
  generalize (if (0 : Nat) = (i + (len c i + 1)) % c.2.length then (1 : Int) else 0) = b0
  rw [show ∀ x y : Int, x + a - b - (y + a0 - b0) = x + (a - b) - (y + (a0 - b0)) from fun x y => by omega, emod_two]
  congr 1
  omega
theorem less_turn {c : Cd} (h : COk c) {y : Nat} (hy : y < c.2.length) (f : Nat → Int) (hf : ∀ k, k < c.2.length → f k = (num c ((k + (c.2.length - y)) % c.2.length) - num c 0) % (c.2.length : Int)) : lessF c.2.length f = (sgn (trn c y)).map vN := by
  have hp : 0 < c.2.length := by omega
  refine lessF_sgn (trn_len c y) fun k hk => ?_
  rw [hf k hk, hf 0 hp, num_trn h hy hk, num_trn h hy hp, ← Int.sub_emod]
  congr 1
  omega
theorem tab_rot {p y : Nat} (hy : y < p) (f : Nat → Int) : (tab p f).drop (p - y) ++ (tab p f).take (p - y) = tab p fun k => f ((k + (p - y)) % p) := by
  refine List.ext_getElem? fun k => ?_
  by_cases hk : k < p
  · have z := rot_at (l := tab p f) (y := y) (k := k) (by rw [tab_len]; exact hy) (by rw [tab_len]; exact hk)
    rw [tab_len] at z
    rw [z, tab_at _ (Nat.mod_lt _ (by omega)), tab_at _ hk]
  · rw [List.getElem?_eq_none (by rw [List.length_append, List.length_drop, List.length_take, tab_len]; omega), List.getElem?_eq_none (by rw [tab_len]; omega)]
/-- NoCoder, NoCount; else told -/
theorem of_of {C1 C2 : Addr} {m : Nat} {told : Cd → Nat → VK → Hp → Prop} {Q : VK} {E : XK} {H : Hp} {v : V} {c : Cd} {n : Nat} (cat : Cat H v c) (ok : CdOk c) (hn : n ≤ m) (k : told c n Q H) : spOf C1 C2 m told [v, .int (n : Int)] H Q E := by
  refine ⟨v, .int (n : Int), cdD c, .int (n : Int), rfl, cat.th, .int _, fun z => ?_, fun _ z => ?_, fun c2 n2 ec _ en _ => ?_⟩
  · rw [isCd_cdD ok] at z
    cases z
  · exfalso
    have y : (decide ((0 : Int) ≤ (n : Int)) && decide ((n : Int) ≤ (m : Int))) = false := z
    rw [decide_eq_true (by omega), decide_eq_true (by omega)] at y
    cases y
  · have e := cdD_inj ec
    have e2 : n2 = n := by injection en with en; omega
    subst e e2
    exact k
end Lk
end
section
set_option maxRecDepth 100000
set_option maxHeartbeats 4000000
namespace Lk
open PySem PySem.Spec PyProof.Rows L2
theorem use_con {CL CK : Addr} {H : Hp} {l : List Nat} {p : Addr} {ws : List (List Nat)} {ls : List Nat} {Q : VK} {E : XK} (hl : isLoop l = true) (ndl : l.Nodup) (ep : H p = some (.tup (tx ws))) (hk : isKnown ws = true) (few : ws.length ≤ 5000) (short : ∀ x ∈ ws, x.length ≤ 100000) (hls : LNs ws l ls) (q : ∀ v H', Same H H' → Cat H' v (0, ls) → Q v H') : spCoderOn CL CK [.str (SX.S l), .ref p] H Q E := by
  have no : ∀ {A : Prop}, (true = false → A) := fun z => by cases z
  have l12 := (isLoop_len hl).2.2
  refine ⟨_, _, true, true, rfl, hl ▸ LoopV.str l (by omega), hk ▸ KnownV.tup ep (by omega) short, no, fun _ l' el _ => ?_⟩
  have e1 : l' = l := (SX.S_inj (V.str.inj el)).symm
  subst e1
  refine ⟨fun c => absurd ndl c, fun _ => ⟨no, fun _ => ⟨p, ws, rfl, ep, hk, few, fun ls2 hls2 v H' s' cat => ?_⟩⟩⟩
  have e2 := hls2.uniq hls
  subst e2
  exact q v H' s' cat
abbrev nIn : List Str := ["self", "loop", "known", "first", "_", "lengths"]
abbrev nLe : List Str := ["self", "n"]
abbrev nTe : List Str := ["self", "word", "at", "here", "lengths"]
abbrev nKe : List Str := ["self", "deed"]
abbrev nWo : List Str := ["self", "n", "coder", "learnt", "row"]
abbrev nKn : List Str := ["self", "word", "at", "_", "lengths"]
section
variable {P : Program} {w : World} {K : PySem.W.Frag} {mg : Str → Option Value} {base : Heap} {f C CL CK CP CC CN : Addr} {fd : FuncData}
theorem sc_init : FnScope nIn ["self", "loop", "known", "first"] (defScope s_Learner_init) := ⟨rfl, rfl, rfl, by decide +kernel, rfl, by decide +kernel, by decide +kernel⟩
theorem ok_init (F : Fun K "__init__" "Learner.__init__" s_Learner_init f fd) (T : LT K C) (cc : CalX P w K mg base 6 "coder_on" (spCoderOn CL CK)) (cp : CalX P w K mg base 3 "refuse_no_place" (spPlace CP)) (ml : mg "len" = none) : FnOk P w K mg base (L2.CX P w) 7 f fd ["self", "loop", "known", "first"] (spInit C) := by
  refine F.okX sc_init (fun vs H Q E h => ?_) (fun cdv A outer s H vs Q E hr h => ?_)
  · obtain ⟨p, dx, kp, l, ws, ls, s, rfl, _⟩ := h
    rfl
  · obtain ⟨p, dx, kp, l, ws, ls, s, rfl, hp, hl, ndl, hkp, hk, few, short, hls, hs, q⟩ := h
    have nd := sc_init.nd
    refine ⟨_, (pss_cons (by exact (ps_asg (pe_cX cc (takes_of rfl rfl rfl rfl) hr (by decide) rfl (pa_cons (pv 1) (pa_cons (pv 2) pa_nil))) (pg_tup rfl (pgs_cons (pg_name (i := 4) nd rfl (Or.inl rfl)) (pgs_cons (pg_name (i := 5) nd rfl (Or.inl rfl)) pgs_nil)))))
      (pss_cons (by exact (ps_expr (pe_cX cp (takes_of rfl rfl rfl rfl) hr (by decide) rfl (pa_cons (pv 3) (pa_cons (pe_callB call_len_str (by rfl) ml PySem.boot_len (pa_cons (pv 1) pa_nil)) pa_nil)))))
      (pss_cons (by exact (ps_fld (pv 0) (pv 1) rfl))
      (pss_cons (by exact (ps_fld (pv 0) (pe_tupS (pa_cons (pv 3) (pa_cons (pv 5) pa_nil))) rfl))
      (pss_cons (by exact (ps_fld (pv 0) pe_int rfl))
      (pss_cons (by exact (ps_fld (pv 0) (pe_lstS pa_nil) rfl))
      (pss_one (by exact (ps_fld (pv 0) (pe_lstS pa_nil) rfl))))))))), ?_⟩
    refine ⟨_, rfl, _, rfl, use_con hl ndl hkp hk few short hls fun v H1 s1 ⟨a, b, e, h1, h2⟩ => ?_⟩
    subst e
    have l12 := (isLoop_len hl).2.2
    have l0 := (isLoop_len hl).1
    have hp1 := s1 _ _ hp
    refine ⟨a, _, rfl, SqT.of h1, rfl, _, _, rfl, _, _, rfl, rfl, ?_⟩
    refine ⟨_, rfl, _, rfl, SX.S l, rfl, small12 (by omega), .int (s : Int), .int (s : Int), (SX.S l).length, rfl, by rw [SX.S_len]; omega, by rw [SX.S_len]; omega, .int _, fun _ => ?_, fun z => ?_⟩
    · refine ⟨_, rfl, _, rfl, p, C, dx, _, rfl, hp1, T.cl, T.n0, (by show 0 < 1000; decide), ?_⟩
      refine ⟨_, rfl, _, rfl, (by show 2 ≤ sizeLine; decide), fun t H2 nt s2 e2 => ?_⟩
      have npt : p ≠ t := by
        rintro rfl
        rw [upd_same] at nt
        cases nt
      have hp2 : H2 p = _ := s2 _ _ upd_same
      refine ⟨_, rfl, p, C, dx, _, rfl, hp2, T.cl, T.n1, (by show 1 < 1000; decide), ?_⟩
      refine ⟨_, rfl, p, C, dx, _, rfl, upd_same, T.cl, T.n2, (by show 2 < 1000; decide), ?_⟩
      refine ⟨(by show 0 ≤ sizeLine; decide), fun D H5 nD s5 eD => ⟨_, rfl, p, C, dx, _, rfl, s5 _ _ upd_same, T.cl, T.n3, (by show 3 < 1000; decide), ?_⟩⟩
      refine ⟨(by show 0 ≤ sizeLine; decide), fun A2 H7 nA s7 eA => ⟨_, rfl, p, C, dx, _, rfl, s7 _ _ upd_same, T.cl, T.n4, (by show 4 < 1000; decide), ?_⟩⟩
      have w2 : SameBut p H1 H2 := sameBut_upd.trans (Same.but s2)
      have w3 := (sameBut_upd (H := H2) (a := p) (o := HO.ins C dx (putF "_now" (.ref t) (putF "_loop" (.str (SX.S l)) [])))).trans (sameBut_upd (o := HO.ins C dx (putF "_learnt" (.int 0) (putF "_now" (.ref t) (putF "_loop" (.str (SX.S l)) [])))))
      have w5 := Same.but (a := p) s5
      have w6 := (sameBut_upd (H := H5) (a := p) (o := HO.ins C dx (putF "_deeds" (.ref D) (putF "_learnt" (.int 0) (putF "_now" (.ref t) (putF "_loop" (.str (SX.S l)) []))))))
      have w7 := Same.but (a := p) s7
      have w8 := (sameBut_upd (H := H7) (a := p) (o := HO.ins C dx (putF "_ahead" (.ref A2) (putF "_deeds" (.ref D) (putF "_learnt" (.int 0) (putF "_now" (.ref t) (putF "_loop" (.str (SX.S l)) [])))))))
      have all : SameBut p H _ := (Same.but s1).trans (w2.trans (w3.trans (w5.trans (w6.trans (w7.trans w8)))))
      have nDp : D ≠ p := by
        rintro rfl
        rw [upd_same] at nD
        cases nD
      have nAp : A2 ≠ p := by
        rintro rfl
        rw [upd_same] at nA
        cases nA
      have bp : b ≠ p := tup_ne h2 hp1 (fun _ z => nomatch z)
      refine q D A2 _ ?_ ?_ ⟨⟨dx, .ref t, upd_same.trans (congrArg (fun z => some (HO.ins C dx z)) (flds_mk rfl)), t, b, rfl, ?_, ?_⟩, ⟨[], ?_, .nil⟩, ⟨[], ?_, .nil⟩, ?_⟩ (fun x o e n => all x o n e)
      · cases e : H D with
        | none => rfl
        | some o => rw [((Same.but s1).trans (w2.trans w3)) _ _ nDp e] at nD; cases nD
      · cases e : H A2 with
        | none => rfl
        | some o => rw [((Same.but s1).trans (w2.trans (w3.trans (w5.trans w6)))) _ _ nAp e] at nA; cases nA
      · exact (w3.trans (w5.trans (w6.trans (w7.trans w8)))) _ _ npt.symm e2
      · exact (w2.trans (w3.trans (w5.trans (w6.trans (w7.trans w8))))) _ _ bp h2
      · exact (w6.trans (w7.trans w8)) _ _ nDp eD
      · exact w8 _ _ nAp eA
      · rintro rfl
        rw [w6 _ _ nDp eD] at nA
        cases nA
    · exfalso
      have y : (decide ((0 : Int) ≤ (s : Int)) && decide ((s : Int) ≤ (((SX.S l).length : Nat) : Int) - 1)) = false := z
      rw [SX.S_len, decide_eq_true (by omega), decide_eq_true (by omega)] at y
      cases y
theorem sc_keep : FnScope nKe ["self", "deed"] (defScope s_Learner_keep) := ⟨rfl, rfl, rfl, by decide +kernel, rfl, by decide +kernel, by decide +kernel⟩
theorem ok_keep (F : Fun K "_keep" "Learner._keep" s_Learner_keep f fd) (T : LT K C) : FnOk P w K mg base CX0 1 f fd ["self", "deed"] (spKeep C) := by
  refine F.ok sc_keep (fun vs H Q E h => ?_) (fun cdv A outer s H vs Q E hr h => ?_)
  · obtain ⟨p, D, A, x, u, d, rfl, _⟩ := h
    rfl
  · obtain ⟨p, D, A, x, u, d, rfl, L, du, few, q⟩ := h
    have nd := sc_keep.nd
    refine ⟨_, (pss_cons (by exact (ps_expr (pe_bm PySem.F.plainAttrs_list PySem.F.slot_list_append PySem.F.type_list_append mt_append (pe_fld (pv 0) rfl) (pa_cons (pv 1) pa_nil))))
      (pss_one (by exact (ps_expr (pe_bm PySem.F.plainAttrs_list PySem.F.slot_list_append PySem.F.type_list_append mt_append (pe_fld (pv 0) rfl) (pa_cons (pe_tupS (pa_cons (pe_fld (pv 0) rfl) (pa_cons (pe_fld (pv 0) rfl) pa_nil))) pa_nil)))))), ?_⟩
    obtain ⟨⟨dx, v, hp, hv⟩, ⟨ds, hD, aD⟩, ⟨as, hA, aA⟩, ne⟩ := id L
    have npD : p ≠ D := ne_of hp hD (by intro z; cases z)
    have npA : p ≠ A := ne_of hp hA (by intro z; cases z)
    have big : (100000 : Nat) < sizeLine := by decide
    have hp1 : (upd H D (.lst (ds ++ [u]))) p = _ := (upd_ne npD).trans hp
    have hA1 : (upd H D (.lst (ds ++ [u]))) A = _ := (upd_ne ne.symm).trans hA
    refine ⟨_, rfl, p, C, dx, _, _, rfl, hp, T.cl, T.n3, fl_deeds, .inl ⟨rfl, _, SqL.of hD⟩, _, rfl, D, ds, u, rfl, rfl, hD, by rw [aD.len]; omega, ?_⟩
    refine ⟨_, rfl, p, C, dx, _, _, rfl, hp1, T.cl, T.n4, fl_ahead, .inl ⟨rfl, _, SqL.of hA1⟩, _, rfl, p, C, dx, _, _, rfl, hp1, T.cl, T.n1, fl_now, _, rfl, p, C, dx, _, _, rfl, hp1, T.cl, T.n2, fl_learnt, (by show 2 ≤ sizeLine; decide), fun t H2 nt s2 e2 => ?_⟩
    have hA2 := s2 _ _ hA1
    refine ⟨A, as, _, rfl, rfl, hA2, by rw [aA.len]; omega, ?_⟩
    have r : Rest p D A H (upd H2 A (.lst (as ++ [.ref t]))) := ((Rest.refl.upd (.inr (.inl rfl))).trans (Rest.of s2)).upd (.inr (.inr (.inl rfl)))
    have tp := L.tups r
    have tA : t ≠ A := tup_ne e2 hA2 (fun _ z => nomatch z)
    refine q _ ⟨⟨dx, v, (upd_ne npA).trans (s2 _ _ hp1), tp.cat hv⟩, ⟨ds ++ [u], (upd_ne ne).trans (s2 _ _ upd_same), Al2.push (tp.deed du) (aD.mono fun _ _ z => tp.deed z)⟩, ⟨as ++ [.ref t], upd_same, Al2.push ⟨t, v, rfl, (upd_ne tA).trans e2, tp.cat hv⟩ (aA.mono fun _ _ z => tp.row z)⟩, ne⟩ r
theorem sc_learn : FnScope nLe ["self", "n"] (defScope s_Learner_learn) := ⟨rfl, rfl, rfl, by decide +kernel, rfl, by decide +kernel, by decide +kernel⟩
theorem ok_learn (F : Fun K "learn" "Learner.learn" s_Learner_learn f fd) (T : LT K C) (cn : CalX P w K mg base 3 "refuse_no_count" (spCount CN)) (kp : Met P w K mg base 1 C "_keep" (spKeep C)) (cb : CalX P w K mg base 5 "behind" (spOf CC CN 1000000000000000000 toldCoder)) {tp : Tok} (mp : mg "MOST_STEPS" = some (.int 1000000000000000000 tp)) : FnOk P w K mg base (L2.CX P w) 6 f fd ["self", "n"] (spLearnL C) := by
  refine F.okX sc_learn (fun vs H Q E h => ?_) (fun cdv A outer s H vs Q E hr h => ?_)
  · obtain ⟨p, D, A, x, n, rfl, _⟩ := h
    rfl
  · obtain ⟨p, D, A, x, n, rfl, L, ok, n1, n18, few, q⟩ := h
    have nd := sc_learn.nd
    refine ⟨_, (pss_cons (by exact (ps_expr (pe_cX cn (takes_of rfl rfl rfl rfl) hr (by decide) rfl (pa_cons (pv 1) (pa_cons pe_int (pa_cons (pe_glob (v := .int 1000000000000000000) rfl mp ⟨_, rfl⟩) pa_nil))))))
      (pss_cons (by exact (ps_expr (pe_m (pv 0) kp hr (by decide) (pa_cons (pe_tupS (pa_cons pe_str (pa_cons (pv 1) pa_nil))) pa_nil))))
      (pss_cons (by exact (ps_fld (pv 0) (pe_cX cb (takes_of rfl rfl rfl rfl) hr (by decide) rfl (pa_cons (pe_fld (pv 0) rfl) (pa_cons (pv 1) pa_nil))) rfl))
      (pss_one (by exact (ps_fldaug (pv 0) (pv 1) in_add)))))), ?_⟩
    refine ⟨_, rfl, _, .int (n : Int), 1, 1000000000000000000, rfl, .inr (.inr (.inr (.inr (.inl ⟨rfl, rfl⟩)))), .int _, fun _ => ?_, fun z => ?_⟩
    · obtain ⟨⟨dx, v, hp, hv⟩, _, _, _⟩ := id L
      have nok : ∀ {v' : V} {n' : Nat} {D' A' : Addr}, List.lookup ("_keep" : Str) (flds x.loop v' n' D' A') = none := fl_no (by simp; decide +kernel) (by simp; decide +kernel) (by simp; decide +kernel) (by simp; decide +kernel) (by simp; decide +kernel)
      refine ⟨_, rfl, p, dx, _, rfl, hp, nok, _, rfl, (by show 2 ≤ sizeLine; decide), fun t H1 nt s1 e1 => ?_⟩
      refine ⟨p, D, A, x, .ref t, .learn n, rfl, L.same s1, ⟨t, rfl, e1⟩, few, fun H2 L2 r2 => ?_⟩
      obtain ⟨⟨dx2, v2, hp2, hv2⟩, _, _, _⟩ := id L2
      refine ⟨_, rfl, p, C, dx2, _, _, rfl, hp2, T.cl, T.n1, fl_now, _, rfl, of_of hv2 ok n18 fun v3 H3 s3 c3 => ?_⟩
      refine ⟨_, rfl, p, C, dx2, _, rfl, s3 _ _ hp2, T.cl, T.n1, (by show 5 < 1000; decide), ?_⟩
      rw [flds_now]
      refine ⟨_, rfl, p, C, dx2, _, _, rfl, upd_same, T.cl, T.n2, fl_learnt, _, rfl, _, _, rfl, rfl, dx2, _, upd_same, (by show 5 < 1000; decide), ?_⟩
      rw [upd_upd, flds_learnt (m := x.n + n) (by push_cast; rfl)]
      obtain ⟨L4, r4⟩ := L2.put s3 dx2 c3 (x.n + n)
      exact q _ L4 ((Rest.of s1).trans (r2.trans r4))
    · exfalso
      have y : (decide ((1 : Int) ≤ (n : Int)) && decide ((n : Int) ≤ 1000000000000000000)) = false := z
      rw [decide_eq_true (by omega), decide_eq_true (by omega)] at y
      cases y
theorem sc_coderL : FnScope ["self"] ["self"] (defScope s_Learner_coder) := ⟨rfl, rfl, rfl, by decide +kernel, rfl, by decide +kernel, by decide +kernel⟩
theorem ok_coderL (F : Fun K "coder" "Learner.coder" s_Learner_coder f fd) (T : LT K C) : FnOk P w K mg base CX0 1 f fd ["self"] (spCoderL C) := by
  refine F.ok sc_coderL (fun vs H Q E h => ?_) (fun cdv A outer s H vs Q E hr h => ?_)
  · obtain ⟨p, D, A, x, rfl, _⟩ := h
    rfl
  · obtain ⟨p, D, A, x, rfl, L, q⟩ := h
    obtain ⟨⟨dx, v, hp, hv⟩, _, _, _⟩ := id L
    have nd := sc_coderL.nd
    refine ⟨_, (pss_one (by exact (ps_ret (pe_fld (pv 0) rfl)))), ?_⟩
    exact ⟨_, rfl, p, C, dx, _, _, rfl, hp, T.cl, T.n1, fl_now, q v hv⟩
theorem sc_countL : FnScope ["self"] ["self"] (defScope s_Learner_count) := ⟨rfl, rfl, rfl, by decide +kernel, rfl, by decide +kernel, by decide +kernel⟩
theorem ok_countL (F : Fun K "count" "Learner.count" s_Learner_count f fd) (T : LT K C) : FnOk P w K mg base CX0 1 f fd ["self"] (spCountL C) := by
  refine F.ok sc_countL (fun vs H Q E h => ?_) (fun cdv A outer s H vs Q E hr h => ?_)
  · obtain ⟨p, D, A, x, rfl, _⟩ := h
    rfl
  · obtain ⟨p, D, A, x, rfl, L, q⟩ := h
    obtain ⟨⟨dx, v, hp, hv⟩, _, _, _⟩ := id L
    have nd := sc_countL.nd
    refine ⟨_, (pss_one (by exact (ps_ret (pe_fld (pv 0) rfl)))), ?_⟩
    exact ⟨_, rfl, p, C, dx, _, _, rfl, hp, T.cl, T.n2, fl_learnt, q⟩
theorem sc_knows : FnScope nKn ["self", "word"] (defScope s_Learner_knows) := ⟨rfl, rfl, rfl, by decide +kernel, rfl, by decide +kernel, by decide +kernel⟩
theorem ok_knows (F : Fun K "knows" "Learner.knows" s_Learner_knows f fd) (T : LT K C) (po : C8.Cal P w K mg base 3 "place_of" spPlaceOf []) (ml : mg "len" = none) : FnOk P w K mg base CX0 4 f fd ["self", "word"] (spKnowsL C) := by
  refine F.ok sc_knows (fun vs H Q E h => ?_) (fun cdv A outer s H vs Q E hr h => ?_)
  · obtain ⟨p, D, A, x, v, b, rfl, _⟩ := h
    rfl
  · obtain ⟨p, D, A, x, v, b, rfl, L, l0, l12, hlen, hv, h5, q0, q1⟩ := h
    obtain ⟨⟨dx, cv, hp, ca, cb, rfl, hca, hcb⟩, _, _, _⟩ := id L
    have nd := sc_knows.nd
    refine ⟨_, (pss_cons (by exact (ps_set (i := 2) nd rfl (Or.inl rfl) (C8.pe_c po hr (by decide) rfl (pa_cons (pe_fld (pv 0) rfl) (pa_cons (pv 1) pa_nil)))))
      (pss_cons (by exact (ps_asg (pe_fld (pv 0) rfl) (pg_tup rfl (pgs_cons (pg_name (i := 3) nd rfl (Or.inl rfl)) (pgs_cons (pg_name (i := 4) nd rfl (Or.inl rfl)) pgs_nil)))))
      (pss_one (by exact (ps_ret (pe_and (pe_cmpR op_notN (pv 2) pe_non (nomark _)) (pe_one (pe_cmpR op_le (pe_callB call_len_str (by rfl) ml PySem.boot_len (pa_cons (pv 1) pa_nil)) (pe_ix ix_tup (pv 4) (pv 2) (fun _ _ => rfl)) (nomark _))))))))), ?_⟩
    refine ⟨_, rfl, p, C, dx, _, _, rfl, hp, T.cl, T.n0, fl_loop, _, rfl, x.loop, v, b, rfl, l0, l12, hv, h5, fun hb H1 s1 => ?_, fun hb w1 ew hw H1 s1 => ?_⟩
    · refine ⟨_, rfl, p, C, dx, _, _, rfl, s1 _ _ hp, T.cl, T.n1, fl_now, ca, _, rfl, SqT.of (s1 _ _ hca), rfl, _, _, rfl, _, _, rfl, rfl, ?_⟩
      refine ⟨_, rfl, rfl, _, rfl, ?_⟩
      rw [decide_eq_true rfl]
      exact q0 hb H1 s1
    · have fin := q1 hb w1 ew hw H1 s1
      subst ew
      unfold Ln.knows at fin
      refine ⟨_, rfl, p, C, dx, _, _, rfl, s1 _ _ hp, T.cl, T.n1, fl_now, ca, _, rfl, SqT.of (s1 _ _ hca), rfl, _, _, rfl, _, _, rfl, rfl, ?_⟩
      cases e : placeOf x.loop w1 with
      | none =>
        rw [e] at fin
        refine ⟨_, rfl, rfl, _, rfl, ?_⟩
        show (if (!decide (V.non = V.non)) = true then _ else _)
        rw [decide_eq_true rfl]
        exact fin
      | some a =>
        rw [e] at fin
        have ha : a < x.now.2.length := by rw [hlen]; exact place_lt e
        refine ⟨_, rfl, rfl, _, rfl, ?_⟩
        show (if (!decide (V.int (a : Int) = V.non)) = true then _ else _)
        rw [decide_eq_false (by intro z; cases z)]
        have h5' := h5 w1 rfl
        refine ⟨_, rfl, SX.S w1, rfl, (by rw [SX.S_len]; exact Nat.le_trans h5' (by decide)), _, rfl, _, rfl, cb, _, (a : Int), _, rfl, rfl, SqT.of (s1 _ _ hcb), atI_nat (nat_at ha), _, _, rfl, rfl, ?_⟩
        rw [SX.S_len]
        have e2 : decide ((w1.length : Int) ≤ ((x.now.2.getD a 0 : Nat) : Int)) = decide (w1.length ≤ x.now.2.getD a 0) := by
          by_cases c : w1.length ≤ x.now.2.getD a 0
          · rw [decide_eq_true c, decide_eq_true (by omega)]
          · rw [decide_eq_false c, decide_eq_false (by omega)]
        show Q (.bl (decide ((w1.length : Int) ≤ ((x.now.2.getD a 0 : Nat) : Int)))) H1
        rw [e2]
        exact fin
theorem sc_teach : FnScope nTe ["self", "word"] (defScope s_Learner_teach) := ⟨rfl, rfl, rfl, by decide +kernel, rfl, by decide +kernel, by decide +kernel⟩
theorem ok_teach (F : Fun K "teach" "Learner.teach" s_Learner_teach f fd) (T : LT K C) (po : C8.Cal P w K mg base 3 "place_of" spPlaceOf []) (kp : Met P w K mg base 1 C "_keep" (spKeep C)) (ol : C8.Cal P w K mg base 1 "one_longer" spLonger []) (W : ErrC K mg "NoWord" CC) (ml : mg "len" = none) : FnOk P w K mg base (L2.CX P w) 5 f fd ["self", "word"] (spTeachL C) := by
  refine F.okX sc_teach (fun vs H Q E h => ?_) (fun cdv A outer s H vs Q E hr h => ?_)
  · obtain ⟨p, D, A, x, wd, a, rfl, _⟩ := h
    rfl
  · obtain ⟨p, D, A, x, wd, a, rfl, L, l0, l12, hlen, hw, w5, pl, ha, wl, few, q⟩ := h
    obtain ⟨⟨dx, cv, hp, ca, cb, rfl, hca, hcb⟩, _, _, _⟩ := id L
    have nd := sc_teach.nd
    refine ⟨_, (pss_cons (by exact (ps_set (i := 2) nd rfl (Or.inl rfl) (C8.pe_c po hr (by decide) rfl (pa_cons (pe_fld (pv 0) rfl) (pa_cons (pv 1) pa_nil)))))
      (pss_cons (by exact (ps_asg (pe_fld (pv 0) rfl) (pg_tup rfl (pgs_cons (pg_name (i := 3) nd rfl (Or.inl rfl)) (pgs_cons (pg_name (i := 4) nd rfl (Or.inl rfl)) pgs_nil)))))
      (pss_cons (by exact (ps_if (PW.pt (pw_or (pt_cmpR op_isN (pv 2) pe_non (nomark _)) (pw_or1 (pt_cmpR op_ne (pe_callB call_len_str (by rfl) ml PySem.boot_len (pa_cons (pv 1) pa_nil)) (pe_op op_add (pe_ix ix_tup (pv 4) (pv 2) (fun _ _ => rfl)) pe_int) (nomark _))))) (pss_one (by exact (ps_raise rfl (takes_of rfl rfl rfl rfl) (SkE.pmk_own1 PySem.F.excBase_ValueError W.x W.g W.k (raises_own W.b W.t) rfl pe_str)))) pss_nil))
      (pss_cons (by exact (ps_expr (pe_m (pv 0) kp hr (by decide) (pa_cons (pe_tupS (pa_cons pe_str (pa_cons (pv 1) pa_nil))) pa_nil))))
      (pss_one (by exact (ps_fld (pv 0) (pe_tupS (pa_cons (pv 3) (pa_cons (C8.pe_c ol hr (by decide) rfl (pa_cons (pv 4) (pa_cons (pv 2) pa_nil))) pa_nil))) rfl))))))), ?_⟩
    have lw : WordV H (.str (SX.S wd)) true := hw ▸ WordV.str wd (by omega)
    refine ⟨_, rfl, p, C, dx, _, _, rfl, hp, T.cl, T.n0, fl_loop, _, rfl, x.loop, .str (SX.S wd), true, rfl, l0, l12, lw, fun w1 e1 => by rw [← SX.S_inj (V.str.inj e1)]; exact w5, fun z => (by cases z), fun _ w1 ew _ H1 s1 => ?_⟩
    have e1 : wd = w1 := SX.S_inj (V.str.inj ew)
    subst e1
    rw [pl]
    refine ⟨_, rfl, p, C, dx, _, _, rfl, s1 _ _ hp, T.cl, T.n1, fl_now, ca, _, rfl, SqT.of (s1 _ _ hca), rfl, _, _, rfl, _, _, rfl, rfl, ?_⟩
    refine ⟨_, rfl, rfl, _, rfl, ?_⟩
    show (if decide (V.int (a : Int) = V.non) = true then _ else _)
    rw [decide_eq_false (by intro z; cases z)]
    refine iteF ⟨_, rfl, SX.S wd, rfl, (by rw [SX.S_len]; exact Nat.le_trans w5 (by decide)), _, rfl, _, rfl, cb, _, (a : Int), _, rfl, rfl, SqT.of (s1 _ _ hcb), atI_nat (nat_at ha), _, _, rfl, rfl, rfl, _, rfl, ?_⟩
    have hne : (!decide (V.int (((SX.S wd).length : Nat) : Int) = V.int (((x.now.2.getD a 0 : Nat) : Int) + 1))) = false := by
      rw [decide_eq_true (congrArg V.int (by rw [SX.S_len]; omega))]
      rfl
    show (if (!decide (V.int (((SX.S wd).length : Nat) : Int) = V.int (((x.now.2.getD a 0 : Nat) : Int) + 1))) = true then _ else _)
    rw [hne]
    refine iteF ?_
    have nok : ∀ {v' : V} {n' : Nat} {D' A' : Addr}, List.lookup ("_keep" : Str) (flds x.loop v' n' D' A') = none := fl_no (by simp; decide +kernel) (by simp; decide +kernel) (by simp; decide +kernel) (by simp; decide +kernel) (by simp; decide +kernel)
    refine ⟨_, rfl, p, dx, _, rfl, s1 _ _ hp, nok, _, rfl, (by show 2 ≤ sizeLine; decide), fun t H2 nt s2 e2 => ?_⟩
    have s12 := Same.trans s1 s2
    refine ⟨p, D, A, x, .ref t, .teach wd, rfl, L.same s12, ⟨t, rfl, e2⟩, few, fun H3 L3 r3 => ?_⟩
    have tp3 := (L.same s12).tups r3
    obtain ⟨⟨dx3, v3, hp3, hv3⟩, _, _, _⟩ := id L3
    have hcb3 := tp3 _ _ (s12 _ _ hcb)
    refine ⟨_, rfl, _, rfl, _, rfl, cb, x.now.2, a, rfl, hcb3, ha, by omega, fun b4 H4 s4 e4 => ⟨(by show 2 ≤ sizeLine; decide), fun t5 H5 n5 s5 e5 => ?_⟩⟩
    have s45 := Same.trans s4 s5
    refine ⟨_, rfl, p, C, dx3, _, rfl, s45 _ _ hp3, T.cl, T.n1, (by show 5 < 1000; decide), ?_⟩
    rw [flds_now]
    obtain ⟨L6, r6⟩ := L3.put (c := (x.now.1, x.now.2.set a (x.now.2.getD a 0 + 1))) s45 dx3 ⟨t5, b4, rfl, e5, s5 _ _ e4⟩ x.n
    exact q _ L6 ((Rest.of s12).trans (r3.trans r6))
theorem sc_wordL : FnScope nWo ["self", "n"] (defScope s_Learner_word) := ⟨rfl, rfl, rfl, by decide +kernel, rfl, by decide +kernel, by decide +kernel⟩
theorem ok_wordL (F : Fun K "word" "Learner.word" s_Learner_word f fd) (T : LT K C) (cn : CalX P w K mg base 3 "refuse_no_count" spCountG) (wa : CalX P w K mg base 6 "word_at" (spOf1 CC CN 1000000000000000000 toldWd)) : FnOk P w K mg base (L2.CX P w) 7 f fd ["self", "n"] (spWordL C) := by
  refine F.okX sc_wordL (fun vs H Q E h => ?_) (fun cdv A outer s H vs Q E hr h => ?_)
  · obtain ⟨p, D, A, x, n, r, rfl, _⟩ := h
    rfl
  · obtain ⟨p, D, A, x, n, r, rfl, L, n1, nx, few, er, okr, hr1, hr2, q⟩ := h
    obtain ⟨⟨dx, v, hp, hv⟩, ⟨ds, hD, aD⟩, ⟨as, hA, aA⟩, ne⟩ := id L
    have nd := sc_wordL.nd
    refine ⟨_, (pss_cons (by exact (ps_expr (pe_cX cn (takes_of rfl rfl rfl rfl) hr (by decide) rfl (pa_cons (pv 1) (pa_cons pe_int (pa_cons (pe_fld (pv 0) rfl) pa_nil))))))
      (pss_cons (by exact (ps_asg (pe_ix ix_list (pe_lc (own := [("row", 4)]) (g := (gName 4)) rfl nd (pi_list (pe_fld (pv 0) rfl)) (blkOk_by (N := nWo) (sc := defScope s_Learner_word) (by decide +kernel)) (fun _ _ _ _ _ => (pg_name (i := 4) nd rfl (Or.inl rfl))) (fun _ _ _ _ _ => pts_one (pt_cmpR op_lt (pe_ix (ix_tupK (K := K) rfl) (pv 4) pe_int (fun _ _ => rfl)) (pv 1) (nomark _))) (fun _ _ _ _ _ => (pv 4))) (pe_un un_neg pe_int) (fun _ _ => rfl)) (pg_tup rfl (pgs_cons (pg_name (i := 2) nd rfl (Or.inl rfl)) (pgs_cons (pg_name (i := 3) nd rfl (Or.inl rfl)) pgs_nil)))))
      (pss_one (by exact (ps_ret (pe_cX wa (takes_of rfl rfl rfl rfl) hr (by decide) rfl (pa_cons (pv 2) (pa_cons (pe_op op_sub (pv 1) (pv 3)) pa_nil)))))))), ?_⟩
    refine ⟨_, rfl, _, rfl, p, C, dx, _, _, rfl, hp, T.cl, T.n2, fl_learnt, .int (n : Int), .int (n : Int), 1, (x.n : Int), rfl, .int _, ?_, ?_⟩
    · show (decide ((1 : Int) ≤ (n : Int)) && decide ((n : Int) ≤ (x.n : Int))) = true
      rw [decide_eq_true (by omega), decide_eq_true (by omega)]
      rfl
    refine ⟨_, rfl, p, C, dx, _, _, rfl, hp, T.cl, T.n4, fl_ahead, A, rfl, ⟨_, SqL.of hA⟩, fun D2 nD2 => ?_⟩
    refine lc_list (fun i H3 => Same H H3 ∧ ∃ ks, H3 D2 = some (.lst ks) ∧ Al2 (RowV H) ks ((x.rows.take i).filter fun r => decide (r.2.2 < n))) ⟨same_new nD2, [], upd_same, .nil⟩ (fun i H3 _ q => SqL.of (q.1 _ _ hA)) ?_ ?_
    · rintro i u H3 hu ⟨s3, ks, e3, a3⟩
      obtain ⟨rw_, hrw, ⟨ua, uc, rfl, hua, huc⟩⟩ := aA.get hu
      have tk : x.rows.take (i + 1) = x.rows.take i ++ [rw_] := by rw [List.take_add_one, hrw]; rfl
      have hf : ((x.rows.take (i + 1)).filter fun r => decide (r.2.2 < n)) = ((x.rows.take i).filter fun r => decide (r.2.2 < n)) ++ (if rw_.2.2 < n then [rw_] else []) := by
        rw [tk, List.filter_append]
        congr 1
        by_cases c : rw_.2.2 < n
        · simp [List.filter, c]
        · simp [List.filter, c]
      refine ⟨rfl, _, rfl, ua, _, 1, _, rfl, rfl, SqT.of (s3 _ _ hua), rfl, _, rfl, _, _, rfl, rfl, _, rfl, ?_⟩
      dsimp only
      by_cases c : rw_.2.2 < n
      · rw [if_pos (decide_eq_true (by omega))]
        have kl : ks.length ≤ 100000 := by
          rw [a3.len]
          refine Nat.le_trans (List.length_filter_le _ _) (Nat.le_trans ?_ few)
          rw [List.length_take]
          exact Nat.min_le_right _ _
        have big : (100000 : Nat) < sizeLine := by decide
        refine ⟨_, rfl, ks, e3, by omega, same_push s3 nD2, ks ++ [.ref ua], upd_same, ?_⟩
        rw [hf, if_pos c]
        exact Al2.push ⟨ua, uc, rfl, hua, huc⟩ a3
      · rw [if_neg (fun z => c (by have y := of_decide_eq_true z; omega))]
        refine ⟨s3, ks, e3, ?_⟩
        rw [hf, if_neg c, List.append_nil]
        exact a3
    · rintro H3 ⟨s3, ks, e3, a3⟩
      rw [show as.length = x.rows.length from aA.len, List.take_length] at a3
      obtain ⟨u, hu, ⟨ua, uc, rfl, hua, huc⟩⟩ := a3.last er
      refine ⟨_, rfl, D2, ks, _, _, rfl, rfl, SqL.of e3, atI_last hu, ua, _, rfl, SqT.of (s3 _ _ hua), rfl, _, _, rfl, _, _, rfl, rfl, ?_⟩
      refine ⟨_, rfl, _, rfl, _, rfl, _, _, rfl, rfl, ?_⟩
      dsimp only [tNil]
      rw [show (n : Int) - (r.2.2 : Int) = ((n - r.2.2 : Nat) : Int) by omega]
      exact of1_of (huc.same s3) okr (by omega) hr2 fun q4 H4 s4 e4 => q q4 H4 (Same.trans s3 s4) e4
end
end Lk
end
section
set_option maxRecDepth 100000
namespace Lk
open PySem L2
variable {K : PySem.W.Frag} {f : Addr} {fd : FuncData}
theorem kb1 (FD : FunD K "__init__" "Learner.__init__" (defArgs s_Learner_init) (defBody s_Learner_init) (defScope s_Learner_init) [] [("first", V.int 0)] f fd) : ∃ g, KBn K fd ["self", "loop", "known", "first"] 3 ["first"] g (fun vs zs => vs ++ zs) := by
  have h := FD.kbinds0 (ps := ["self", "loop", "known", "first"]) 3 ["first"] [] (fun us _ ws => us ++ ws) (by simp) (fun q hq => by cases hq) (fun a b c => a.append c) (fun D doc pm an cdv ct us mv ws h1 h2 h3 => by
    match us, mv, ws, h1, h2, h3 with
    | [_, _, _], [], [_], _, _, _ => rfl)
  obtain ⟨mv, h⟩ := h
  exact ⟨_, h⟩
theorem kb0 (FD : FunD K "__init__" "Learner.__init__" (defArgs s_Learner_init) (defBody s_Learner_init) (defScope s_Learner_init) [] [("first", V.int 0)] f fd) : ∃ g, KBn K fd ["self", "loop", "known", "first"] 3 [] g (fun vs _ => vs ++ [V.int 0]) := by
  have h := FD.kbinds0 (ps := ["self", "loop", "known", "first"]) 3 [] [("first", V.int 0)] (fun us mv _ => us ++ mv) (by simp) (fun q hq => hq) (fun a b c => a.append b) (fun D doc pm an cdv ct us mv ws h1 h2 h3 => by
    match us, mv, ws, h1, h2, h3 with
    | [_, _, _], [_], [], _, _, _ => exact ⟨_, _, _, _, _, _, rfl, rfl, rfl⟩)
  obtain ⟨mv, h⟩ := h
  exact ⟨_, h⟩
variable {P : Program} {w : World} {mg : Str → Option Value} {base : Heap} {C : Addr} {k : Nat} {sp : Sp}
theorem maker_of {kD : Addr} {od an : Option Addr} {ocv doc pm cdv ct : Value} {osl : Array (Option Value)} {t0 : Tok}
    (l : K.lookup f = some ⟨ocv, od, .func (PySem.W.fnOf "__init__" "Learner.__init__" (defArgs s_Learner_init) (defBody s_Learner_init) (defScope s_Learner_init) .none (.ref kD) doc pm an cdv ct), osl⟩)
    (c : PySem.W.codeIn K cdv "Learner.__init__" = true) (kp : PySem.W.keepIn K (.ref f) = true) (hd : PySem.W.nsIn K kD "first" = some (some (.int 0 t0))) (M : Mk K C f) (hm : mg "Learner" = some (.ref C))
    (F : FnOk P w K mg base (L2.CX P w) k f (PySem.W.fnOf "__init__" "Learner.__init__" (defArgs s_Learner_init) (defBody s_Learner_init) (defScope s_Learner_init) .none (.ref kD) doc pm an cdv ct) ["self", "loop", "known", "first"] sp) : Maker P w K mg base k "Learner" C (.int 0) sp "first" := by
  have FD : FunD K "__init__" "Learner.__init__" (defArgs s_Learner_init) (defBody s_Learner_init) (defScope s_Learner_init) [] [("first", V.int 0)] f (PySem.W.fnOf "__init__" "Learner.__init__" (defArgs s_Learner_init) (defBody s_Learner_init) (defScope s_Learner_init) .none (.ref kD) doc pm an cdv ct) :=
    ⟨⟨ocv, od, .none, .ref kD, doc, pm, an, cdv, ct, osl, rfl, l, c, .inl ⟨rfl, rfl⟩, .inr ⟨kD, rfl, fun q hq => by
      rw [List.mem_singleton.mp hq]
      exact ⟨_, hd, _, rfl⟩⟩⟩, kp⟩
  obtain ⟨g1, b1⟩ := kb1 FD
  obtain ⟨g0, b0⟩ := kb0 FD
  exact ⟨⟨f, _, _, g0, g1, F, M, hm, b0, b1⟩⟩
end Lk
end
section
set_option maxRecDepth 100000
set_option maxHeartbeats 4000000
namespace Lk
open PySem PySem.Spec PyProof.Rows L2
def spLenL (C : Addr) : Sp := fun vs H Q _ => ∃ (p D A : Addr) (x : Ln), vs = [.ref p] ∧ LnAt C H p D A x ∧ Q (.int ((x.rows.length : Nat) : Int)) H
def spLogL (C : Addr) : Sp := fun vs H Q _ => ∃ (p D A : Addr) (x : Ln), vs = [.ref p] ∧ LnAt C H p D A x ∧ ∀ q us H', H q = none → Same H H' → H' q = some (.lst us) → Al2 (DeedV H') us x.rows → Q (.ref q) H'
def spBackL (C CE : Addr) : Sp := fun vs H Q E => ∃ (p D A : Addr) (x : Ln), vs = [.ref p] ∧ LnAt C H p D A x ∧ (x.rows = [] → E (.ref CE) none H) ∧
  (∀ init d c k, x.rows = init ++ [(d, c, k)] → ∀ H', LnAt C H' p D A ⟨x.loop, c, k, init⟩ → Rest p D A H H' → Q .non H')
theorem Al2.snoc {α β : Type} {R : α → β → Prop} : ∀ {as : List α} {bs : List β} {b : β}, Al2 R as (bs ++ [b]) → ∃ as' a, as = as' ++ [a] ∧ Al2 R as' bs ∧ R a b
  | _, [], _, .cons h .nil => ⟨[], _, rfl, .nil, h⟩
  | _, _ :: bs, _, .cons h t => by
    obtain ⟨as', a, e, h1, h2⟩ := t.snoc (bs := bs)
    exact ⟨_ :: as', a, by rw [e]; rfl, .cons h h1, h2⟩
theorem last_at {α : Type} (l : List α) (a : α) : (l ++ [a])[(l ++ [a]).length - 1]? = some a := by
  rw [List.length_append]
  show (l ++ [a])[l.length + 1 - 1]? = some a
  rw [Nat.add_sub_cancel, List.getElem?_append_right (Nat.le_refl _), Nat.sub_self]
  rfl
abbrev nBk : List Str := ["self"]
section
variable {P : Program} {w : World} {K : PySem.W.Frag} {mg : Str → Option Value} {base : Heap} {f C CE : Addr} {fd : FuncData}
theorem sc_lenL : FnScope ["self"] ["self"] (defScope s_Learner_len) := ⟨rfl, rfl, rfl, by decide +kernel, rfl, by decide +kernel, by decide +kernel⟩
theorem ok_lenL (F : Fun K "__len__" "Learner.__len__" s_Learner_len f fd) (T : LT K C) (ml : mg "len" = none) : FnOk P w K mg base CX0 1 f fd ["self"] (spLenL C) := by
  refine F.ok sc_lenL (fun vs H Q E h => ?_) (fun cdv A outer s H vs Q E hr h => ?_)
  · obtain ⟨p, D, A, x, rfl, _⟩ := h
    rfl
  · obtain ⟨p, D, A, x, rfl, L, q⟩ := h
    obtain ⟨⟨dx, v, hp, hv⟩, ⟨us, hD, aD⟩, _, _⟩ := id L
    have nd := sc_lenL.nd
    refine ⟨_, (pss_one (by exact (ps_ret (pe_callB call_len_seq (by rfl) ml PySem.boot_len (pa_cons (pe_fld (pv 0) rfl) pa_nil))))), ?_⟩
    refine ⟨_, rfl, p, C, dx, _, _, rfl, hp, T.cl, T.n3, fl_deeds, D, us, rfl, .inl (SqL.of hD), ?_⟩
    rw [aD.len]
    exact q
theorem sc_logL : FnScope ["self"] ["self"] (defScope s_Learner_log) := ⟨rfl, rfl, rfl, by decide +kernel, rfl, by decide +kernel, by decide +kernel⟩
theorem ok_logL (F : Fun K "log" "Learner.log" s_Learner_log f fd) (T : LT K C) (ml : mg "list" = none) : FnOk P w K mg base CX0 1 f fd ["self"] (spLogL C) := by
  refine F.ok sc_logL (fun vs H Q E h => ?_) (fun cdv A outer s H vs Q E hr h => ?_)
  · obtain ⟨p, D, A, x, rfl, _⟩ := h
    rfl
  · obtain ⟨p, D, A, x, rfl, L, q⟩ := h
    obtain ⟨⟨dx, v, hp, hv⟩, ⟨us, hD, aD⟩, _, _⟩ := id L
    have nd := sc_logL.nd
    refine ⟨_, (pss_one (by exact (ps_ret (pe_callTy call_lisS (by rfl) ml (by decide +kernel) (pa_cons (pe_fld (pv 0) rfl) pa_nil))))), ?_⟩
    exact ⟨_, rfl, p, C, dx, _, _, rfl, hp, T.cl, T.n3, fl_deeds, D, us, rfl, .inl hD, fun q1 H1 n1 s1 e1 => q q1 us H1 n1 s1 e1 (aD.mono fun _ _ z => (Tups.of s1).deed z)⟩
theorem sc_backL : FnScope nBk ["self"] (defScope s_Learner_back) := ⟨rfl, rfl, rfl, by decide +kernel, rfl, by decide +kernel, by decide +kernel⟩
theorem ok_backL (F : Fun K "back" "Learner.back" s_Learner_back f fd) (T : LT K C) (W : ErrC K mg "Nothing" CE) : FnOk P w K mg base (L2.CX P w) 1 f fd ["self"] (spBackL C CE) := by
  refine F.okX sc_backL (fun vs H Q E h => ?_) (fun cdv A outer s H vs Q E hr h => ?_)
  · obtain ⟨p, D, A, x, rfl, _⟩ := h
    rfl
  · obtain ⟨p, D, A, x, rfl, L, q0, q1⟩ := h
    obtain ⟨⟨dx, v, hp, hv⟩, ⟨us, hD, aD⟩, ⟨ts, hA, aA⟩, ne⟩ := id L
    have nd := sc_backL.nd
    refine ⟨_, (pss_cons (by exact (ps_if (pt_not (pt_truth (pe_fld (pv 0) rfl) (by intro _; rfl))) (pss_one (by exact (ps_raise rfl (takes_of rfl rfl rfl rfl) (SkE.pmk_own1 PySem.F.excBase_ValueError W.x W.g W.k (raises_own W.b W.t) rfl pe_str)))) pss_nil))
      (pss_cons (by exact (ps_expr (pe_bm0 PySem.F.plainAttrs_list PySem.F.slot_list_pop PySem.F.type_list_pop mt_pop (pe_fld (pv 0) rfl))))
      (pss_one (by exact (ps_asg (pe_bm0 PySem.F.plainAttrs_list PySem.F.slot_list_pop PySem.F.type_list_pop mt_pop (pe_fld (pv 0) rfl)) (pg_tup rfl (pgs_cons (pg_fld (pv 0)) (pgs_cons (pg_fld (pv 0)) pgs_nil)))))))), ?_⟩
    refine ⟨_, rfl, p, C, dx, _, _, rfl, hp, T.cl, T.n3, fl_deeds, ?_⟩
    refine ⟨!us.isEmpty, .inl ⟨us, SqL.of hD, rfl⟩, ?_⟩
    rcases List.eq_nil_or_concat x.rows with hn | ⟨init, ⟨d, c, k⟩, er⟩
    · have e0 : us = [] := List.eq_nil_of_length_eq_zero (by rw [aD.len, hn]; rfl)
      subst e0
      exact iteT (q0 hn)
    · have er' : x.rows = init ++ [(d, c, k)] := by rw [er]; simp
      rw [er'] at aD aA
      obtain ⟨us', u, rfl, aD', _⟩ := aD.snoc
      obtain ⟨ts', ta, rfl, aA', ra, rv, rfl, hra, hcat⟩ := aA.snoc
      rw [show (us' ++ [u]).isEmpty = false by simp]
      refine iteF ?_
      have npD : p ≠ D := ne_of hp hD (by intro z; cases z)
      have npA : p ≠ A := ne_of hp hA (by intro z; cases z)
      refine ⟨_, rfl, p, C, dx, _, _, rfl, hp, T.cl, T.n3, fl_deeds, .inl ⟨rfl, _, SqL.of hD⟩, D, _, u, rfl, rfl, hD, last_at _ _, ?_⟩
      rw [List.dropLast_concat]
      have hp1 : (upd H D (.lst us')) p = _ := (upd_ne npD).trans hp
      have hA1 : (upd H D (.lst us')) A = _ := (upd_ne ne.symm).trans hA
      refine ⟨_, rfl, p, C, dx, _, _, rfl, hp1, T.cl, T.n4, fl_ahead, .inl ⟨rfl, _, SqL.of hA1⟩, A, _, .ref ra, rfl, rfl, hA1, last_at _ _, ?_⟩
      rw [List.dropLast_concat]
      have raD : ra ≠ D := tup_ne hra hD (fun _ z => nomatch z)
      have raA : ra ≠ A := tup_ne hra hA (fun _ z => nomatch z)
      have hp2 : (upd (upd H D (.lst us')) A (.lst ts')) p = _ := (upd_ne npA).trans hp1
      have hra2 : (upd (upd H D (.lst us')) A (.lst ts')) ra = _ := (upd_ne raA).trans ((upd_ne raD).trans hra)
      refine ⟨ra, _, rfl, SqT.of hra2, rfl, _, _, rfl, _, rfl, p, C, dx, _, rfl, hp2, T.cl, T.n1, (by show 5 < 1000; decide), _, _, rfl, _, rfl, p, C, dx, _, rfl, upd_same, T.cl, T.n2, ?_, rfl, ?_⟩
      · rw [flds_now]
        show 5 < 1000
        decide
      rw [upd_upd, flds_now, flds_learnt (m := k) rfl]
      have r : Rest p D A H (upd (upd (upd H D (.lst us')) A (.lst ts')) p (.ins C dx (flds x.loop rv k D A))) := ((Rest.refl.upd (.inr (.inl rfl))).upd (.inr (.inr (.inl rfl)))).upd (.inl rfl)
      have tp := L.tups r
      exact q1 init d c k er' _ ⟨⟨dx, rv, upd_same, tp.cat hcat⟩, ⟨us', (upd_ne npD.symm).trans ((upd_ne ne).trans upd_same), aD'.mono fun _ _ z => tp.deed z⟩, ⟨ts', (upd_ne npA.symm).trans upd_same, aA'.mono fun _ _ z => tp.row z⟩, ne⟩ r
end
end Lk
end
section
set_option maxRecDepth 100000
set_option maxHeartbeats 2000000
/-! A def called in an except suite on the error that is handled: isinstance of it, a list made over a range there. -/
namespace Lk
open PySem PySem.Spec PyProof.Rows L2 L2H HotX
section
variable {X : Cx} {pins : List (Addr × Obj)} {σ : L2.St} {H : Hp} {s : Shared}
/-- isinstance(e, c), e a pinned error -/
def rIsP (K : PySem.W.Frag) (p : Addr × Obj) : List V → Hp → VK → Prop := fun xs H Q => ∃ (D : Addr) (c : V) (u : Value) (b : Bool), xs = [.ref p.1, c] ∧ ExcC K D ∧ Zc (.ref D) none p.2 ∧ (∃ vs, p.2.data = .fields vs) ∧ ClsV c u ∧ PySem.W.kitOne K (.ref D) u = some b ∧ Q (.bl b) H
theorem call_isP {p : Addr × Obj} (hp : p ∈ X.pn) : CallR X (.builtin "isinstance") (rIsP X.K p) := by
  intro pins s σ H xs us Q I r h
  obtain ⟨D, c, u, b, rfl, C, hz, ⟨vs, hv⟩, k, e, q⟩ := h
  obtain ⟨u1, u2, rfl, r1, r2⟩ := vals2 r
  have e2 := k.eq r2
  subst e2
  cases (show u1 = Value.ref p.1 from r1)
  have hget := (I.pin p (List.mem_append_left _ hp)).1
  have J : PySem.W.InstAt s.heap p.1 p.2 D none := by
    obtain ⟨a, oc, od, oda, osl⟩ := p
    obtain ⟨h1, h2⟩ := hz
    dsimp only at h1 h2 hv hget
    subst h1 h2 hv
    exact ⟨hget, rfl, rfl, trivial⟩
  exact PySem.W.kia_one (PySem.W.handS_kitx_exc C.hg C.hk C.hs C.hd C.ha C.hn C.ht C.hm) I.kIn J e (fun z => nomatch z) fun tk => ⟨.bl b, H, I.tok tk, rfl, q⟩
end
/-! ### such a def -/
structure FnE (P : Program) (w : World) (K : PySem.W.Frag) (mg : Str → Option Value) (base : Heap) (k : Nat) (f : Addr) (fd : FuncData) (x : Str) (D : Addr) (told : VK → Hp → Prop) : Prop where
  run : ∀ (A : Around) (outer : List Env) (s : Shared) (H : Hp) (args : Args) (Q : VK) (p : Addr × Obj), RoomH k A → Hot1 A p → Zc (.ref D) none p.2 → PinOk outer H s p → Env0 P w K mg base A outer s H → BindsTo s fd args ([x].zip [.ref p.1]) → told Q H →
    codeAny (model P w) A (.call (.ref f) args) (CR C8.CX0 outer P w H s Q C8.E0) s
section
variable {P : Program} {w : World} {K : PySem.W.Frag} {mg : Str → Option Value} {base : Heap}
theorem fnE_of {x n qual : Str} {st : Stmt} {f D : Addr} {fd : FuncData} {N : List Str} {k : Nat} {told : VK → Hp → Prop} (F : Fun K n qual st f fd) (S : FnScope N [x] (defScope st))
    (body : ∀ (cdv : Value) (A : Around) (outer : List Env) (s : Shared) (H : Hp) (Q : VK) (p : Addr × Obj), Hot1 A p → Zc (.ref D) none p.2 → RoomH k (A.deeper (envOfC qual (defScope st) s.heap.objs.size f cdv)) → told Q H →
      ∃ t, PSs (cxH C8.CX0 P w K mg base N qual (defScope st) f cdv A outer s H C8.E0 p) (defBody st) t ∧ t { nx := fun _ H2 => Q .non H2, rt := Q } (L2.start N [.ref p.1]) H) : FnE P w K mg base (k + 1) f fd x D told := by
  obtain ⟨oc, od, kV, doc, pm, an, cdv, ct, osl, rfl, lk, code⟩ := F.ex
  refine ⟨fun A outer s H args Q p hr hot hz pin e0 hb ht => ?_⟩
  have inK : K.In s.heap := e0.mod.kin.keeps fun b o q => (e0.bs b o q).1
  have free : s.heap.NoLimit := e0.mod.nolimit.keeps fun b o q => (e0.bs b o q).1
  refine codeAny_call_function hr.depth (inK _ _ lk) rfl S.co S.gen rfl (PySem.W.codeRec_of inK code) (hb _ _ _ _ (wpAny_newFunctionEnv_cells S.kind (fun ⟨n, v⟩ hy => ?_) fun env he s1 x1 => ?_))
  · exact (S.par n (List.of_mem_zip hy).1).imp id fun q => ⟨q, PySem.W.cellsFrom_some _ _ _ (.inl q)⟩
  · subst he
    obtain ⟨t, hs, q⟩ := body cdv A outer s H Q p hot hz (hr.deeper _) ht
    have I0 : Inv (cxH C8.CX0 P w K mg base N qual (defScope st) f cdv A outer s H C8.E0 p) [] (L2.start N [.ref p.1]) H s1 := inv_startH (us := [.ref p.1]) S pin e0 rfl (.cons rfl .nil) x1
    refine ⟨free.keeps x1.toInCall.keep, codeAny_func (wpAny_mono (hs.run [] s1 _ H _ I0 q) (fun fl s2 z => ?_) fun _ _ z => z)⟩
    match fl, z with
    | .ret u, ⟨v, _, H2, J, rv, q2⟩ => exact ⟨v, H2, J.os, J.bare, J.base, J.hok, rv, q2⟩
    | .next, ⟨_, H2, J, q2⟩ => exact ⟨V.non, H2, J.os, J.bare, J.base, J.hok, (rfl : RelV .non Value.none), q2⟩
    | .brk, ⟨_, _, _, no⟩ => exact no.elim
    | .cont, ⟨_, _, _, no⟩ => exact no.elim
end
section
variable {X : Cx} {k i : Nat} {f D : Addr} {fd : FuncData} {x y n : Str} {told : VK → Hp → Prop} {p q pos : Pos} {pe : Addr × Obj}
/-- x(e) in the suite, e the error -/
theorem pe_callE (F : FnE X.prog X.w X.K X.mg X.base k f fd y D told) (hr : RoomH k X.A) (hot : Hot1 X.A pe) (hp : pe ∈ X.pn) (hz : Zc (.ref D) none pe.2) (hg : Gl X x) (hm : X.mg x = some (.ref f)) (hk : PySem.W.keepIn X.K (.ref f) = true) (hb : Binds X.K fd [y] [])
    (hN : X.N[i]? = some n) (hv : Vis X.env.scope n) (hdb : (x == ("__debug__" : Str)) = false := by decide) (hd2 : (n == ("__debug__" : Str)) = false := by decide) (hcd : (n == ("__classdict__" : Str)) = false := by decide)
    (he : starEach [Expr.Name n q] X.env = (false, eval (.Name n q) X.env) :: starEach [] X.env := by rfl) (hpl : (backTo pos (starEach [] X.env)).any (·.1) = false := by rfl) :
    PE X (.Call (.Name x p) [.Name n q] [] pos) (fun σ H Q => σ[i]? = some (some (.ref pe.1)) ∧ told Q H) := by
  refine ⟨fun pins s σ H Q I ⟨hs, ht⟩ => ?_⟩
  refine wpAny_Call_Name_kw (ld_glob I hg hm ?_ hdb)
  have ha : PA X [Expr.Name n q] (tCons (tVar i) tNil) := pa_cons (pe_var hN hv hd2 hcd) pa_nil
  refine PySem.W.callWith_K (h₀ := X.base) I.ok.mod.kin hk (thn (ha.run pos pins s σ H (fun vs H1 => vs = [.ref pe.1] ∧ H1 = H) I ⟨_, hs, rfl, rfl⟩) fun us s1 ⟨vs, H1, I1, r, ev, eH⟩ => ⟨I1.kIn, ?_⟩) he hpl
  subst ev eH
  obtain ⟨u, rfl, ru⟩ := vals1 r
  cases (show u = Value.ref pe.1 from ru)
  have b := hb s1 [.ref pe.1] I1.kIn rfl
  rw [List.append_nil] at b
  have P1 := I1.pin pe (List.mem_append_left _ hp)
  have pin : PinOk X.stack H1 s1 pe := ⟨P1.1, P1.2.1, fun hm => (List.mem_cons.mp (I1.stkSub pe.1 hm)).elim P1.2.2.1 P1.2.2.2.1, P1.2.2.2.2⟩
  refine wpAny_call (codeAny_mono (F.run X.A X.stack s1 H1 _ Q pe hr hot hz pin I1.env0 b ht) fun r2 s2 z => ?_)
  match r2, z with
  | .ok (.ret u), z => exact I1.after z
  | .ok .next, z => exact z.elim
  | .ok .brk, z => exact z.elim
  | .ok .cont, z => exact z.elim
  | .error _, z => exact z.elim
end
end Lk
end
section
set_option maxRecDepth 100000
set_option maxHeartbeats 2000000
/-! [elt for target in iter if ..] while an error is handled. -/
namespace Lk
open PySem PySem.Spec PyProof.Rows L2 L2H HotX
section
variable {X : Cx}
/-- a block's context that bears the pinned thing p -/
abbrev blkP (X : Cx) (s : Shared) (H : Hp) (scope : Scope) (ce : Env) (fp : List Addr) (p : Addr × Obj) : Cx := { X.blk s H scope ce fp with pn := [p] }
structure PinB (X : Cx) (H0 : Hp) (h0 : Heap) (fp : List Addr) (ce : Env) (p : Addr × Obj) : Prop where
  get : h0.get? p.1 = some p.2
  none : H0 p.1 = none
  nfs : p.1 ∉ frs X.stack
  nfp : p.1 ∉ fp
  nl : p.1 ≠ ce.locals
  nc : ∀ v, p.2.data ≠ .cell v
theorem to_pin {s0 s : Shared} {H0 H : Hp} {scope : Scope} {ce : Env} {fp : List Addr} {p : Addr × Obj} {pins : List (Addr × Obj)} {σ : L2.St} (b : PinB X H0 s0.heap fp ce p) (I : Inv (X.blk s0 H0 scope ce fp) pins σ H s) : Inv (blkP X s0 H0 scope ce fp p) pins σ H s :=
  ⟨⟨I.ok.1, I.ok.2, I.ok.3, I.ok.4, I.ok.5, I.ok.6, I.ok.7, I.ok.8, I.ok.9, I.ok.10, I.ok.11, I.ok.12, I.ok.13, I.ok.14, I.ok.15, I.ok.16, I.ok.17, I.ok.18⟩, I.os, I.bare, I.base, I.loc, I.cell, I.free, I.freeC, fun q hq => by
    rcases List.mem_append.mp hq with h | h
    · rw [List.mem_singleton.mp h]
      exact ⟨I.base.keep p.1 p.2 b.get b.none b.nfs b.nfp, I.base.free p.1 p.2 b.get b.none b.nfp, b.nl, b.nfs, b.nc⟩
    · exact I.pin q (List.mem_append_right _ h), I.hok, I.len⟩
theorem from_pin {s0 s : Shared} {H0 H : Hp} {scope : Scope} {ce : Env} {fp : List Addr} {p : Addr × Obj} {pins : List (Addr × Obj)} {σ : L2.St} (I : Inv (blkP X s0 H0 scope ce fp p) pins σ H s) : Inv (X.blk s0 H0 scope ce fp) pins σ H s :=
  ⟨⟨I.ok.1, I.ok.2, I.ok.3, I.ok.4, I.ok.5, I.ok.6, I.ok.7, I.ok.8, I.ok.9, I.ok.10, I.ok.11, I.ok.12, I.ok.13, I.ok.14, I.ok.15, I.ok.16, I.ok.17, I.ok.18⟩, I.os, I.bare, I.base, I.loc, I.cell, I.free, I.freeC, fun q hq => I.pin q (List.mem_append_right _ hq), I.hok, I.len⟩
/-- over a range, the list as a value -/
theorem pe_lcH {elt tg iter : Expr} {ifs : List Expr} {scope : Scope} {own : List (Str × Nat)} {pos : Pos} {wi : TI} {g : TG} {tt : TT} {te : TE} {p : Addr × Obj} (hot : Hot1 X.A p) (hp : p ∈ X.pn) (nd : X.N.Nodup) (src : PIH X tg iter wi) (blk : BlkOk X.N X.env.scope scope own)
    (pg : ∀ (s : Shared) (H : Hp) (C : Addr) (cl : List (Str × Addr)) (fp : List Addr), PG (X.blk s H scope (compEnvC scope cl C X.env) fp) tg g)
    (pt : ∀ (s : Shared) (H : Hp) (C : Addr) (cl : List (Str × Addr)) (fp : List Addr), PTs (X.blk s H scope (compEnvC scope cl C X.env) fp) ifs tt)
    (pe : ∀ (s : Shared) (H : Hp) (C : Addr) (cl : List (Str × Addr)) (fp : List Addr), PE (X.blk s H scope (compEnvC scope cl C X.env) fp) elt te) (plain : ∀ x, foldedSetIterable iter X.env x = pure x := by intro _; rfl) :
    PE X (.ListComp elt [⟨tg, iter, ifs, 0⟩] scope pos) (tLc wi g tt te (own.map (·.2))) := by
  refine ⟨fun pins s σ H Q I wish => ?_⟩
  rw [eval_ListComp]
  have seen : ∀ y ∈ scope.names, y.2 = .free → ∃ c, X.env.cells.lookup y.1 = some c := fun y hy e => (blk.free y hy e).elim (fun z => I.ok.has _ (.inl z)) fun z => I.ok.has _ (.inr z)
  refine wpAny_comprehension_free (use := none) rfl plain (closure_ok seen) blk.kind (fun y hy e => by rw [blk.uniq y hy, e]) (thn (src.run pins s σ H _ I wish) fun v1 s1 z1 => thn z1 fun v2 s2 z2 => ?_)
  obtain ⟨it, fp, tn, J, H2, rfl, I2, T, at0, off, more⟩ := z2
  refine wpAny_newObj_type (newEnv_comp ?_) (by show 0 ≤ sizeLine; decide)
  obtain ⟨D, eD⟩ : ∃ D, s2.heap.objs.size = D := ⟨_, rfl⟩
  have freshD : H2 D = none := I2.hok.fresh (Nat.le_of_eq eD)
  obtain ⟨W, ⟨m0, w0⟩, turn⟩ := more D freshD
  obtain ⟨s3, e3⟩ : ∃ s3 : Shared, ({ s2 with heap := s2.heap.push { cls := .type "list", data := .seq ([] : List Value).toArray } } : Shared) = s3 := ⟨_, rfl⟩
  have h3 : s3.heap = s2.heap.push { cls := .type "list", data := .seq ([] : List Value).toArray } := by rw [← e3]
  have up3 : ∀ b o, s2.heap.get? b = some o → s3.heap.get? b = some o := fun b o e => by rw [h3]; exact Heap.get?_push_of_some _ e
  have I3 : Inv X pins σ (upd H2 D (.lst [])) s3 := by
    have z := I2.laid (a := D) (o := .lst []) (h' := s3.heap) (t' := s2.toks) up3 (Nat.le_of_eq eD) ⟨Nat.zero_le _, [], 0, .nil, by rw [h3, ← eD]; exact Heap.get?_push_size _ rfl⟩
    rw [← e3] at z ⊢
    exact z
  have small : ∀ b ∈ fp, b < s2.heap.objs.size := fun b hb => by
    obtain ⟨o, e, _⟩ := T.obj _ _ at0 b hb
    exact Heap.lt_size e
  have off3 : ∀ b ∈ fp, FpOk X pins (upd H2 D (.lst [])) b ∧ b < s3.heap.objs.size := fun b hb => by
    have lt := small b hb
    refine ⟨⟨?_, (off b hb).2⟩, ?_⟩
    · rw [upd_ne (by rw [← eD]; exact Nat.ne_of_lt lt)]
      exact (off b hb).1
    · rw [h3, Heap.size_push]
      exact Nat.lt_succ_of_lt lt
  have I4 := block_start I3 blk nd off3
  have g4 := pg s3 (upd H2 D (.lst [])) s3.heap.objs.size (cellsFrom (s3.heap.objs.size + 1) scope.names (cloFrom X.env.cells scope.names [])) fp
  have t4 := pt s3 (upd H2 D (.lst [])) s3.heap.objs.size (cellsFrom (s3.heap.objs.size + 1) scope.names (cloFrom X.env.cells scope.names [])) fp
  have e4 := pe s3 (upd H2 D (.lst [])) s3.heap.objs.size (cellsFrom (s3.heap.objs.size + 1) scope.names (cloFrom X.env.cells scope.names [])) fp
  rw [e3]
  show codeAny _ _ (.compStart (.ListComp elt [⟨tg, iter, ifs, 0⟩] scope pos) 0 (.ref it) (.ref s2.heap.objs.size) (compEnvC scope (cellsFrom (s3.heap.objs.size + 1) scope.names (cloFrom X.env.cells scope.names [])) s3.heap.objs.size X.env)) (compPost (model X.prog X.w) X.A X.xe none (EP X pins σ Q) (.ref s2.heap.objs.size) s3.heap.objs.size) { s3 with heap := pushCells (s3.heap.push { cls := .type "dict", data := .dict #[] }) scope.names }
  rw [eD]
  have noW : ∀ b ∈ fp, (upd H2 D (.lst [])) b = none := fun b hb => (off3 b hb).1.1
  have pinB : PinB X (upd H2 D (.lst [])) s3.heap fp (compEnvC scope (cellsFrom (s3.heap.objs.size + 1) scope.names (cloFrom X.env.cells scope.names [])) s3.heap.objs.size X.env) p := by
    have q := I3.pin p (List.mem_append_left _ hp)
    exact ⟨q.1, q.2.1, fun hm => (List.mem_cons.mp (I3.stkSub p.1 hm)).elim q.2.2.1 q.2.2.2.1, fun hm => (off3 p.1 hm).1.2.2.2.2.2 p (List.mem_append_left _ hp) rfl, Nat.ne_of_lt (Heap.lt_size q.1), q.2.2.2.2⟩
  obtain ⟨ce, ece⟩ : ∃ ce, compEnvC scope (cellsFrom (s3.heap.objs.size + 1) scope.names (cloFrom X.env.cells scope.names [])) s3.heap.objs.size X.env = ce := ⟨_, rfl⟩
  have cL : ce.locals = s3.heap.objs.size := by rw [← ece]; rfl
  rw [ece] at I4 g4 t4 e4 pinB ⊢
  generalize upd H2 D (.lst []) = HA at I3 I4 g4 t4 e4 w0 noW off3 pinB
  obtain ⟨s4, e5⟩ : ∃ s4 : Shared, ({ s3 with heap := pushCells (s3.heap.push { cls := .type "dict", data := .dict #[] }) scope.names } : Shared) = s4 := ⟨_, rfl⟩
  rw [e5] at I4 ⊢
  have at4 : tn 0 s4.heap := T.keep _ _ _ at0 fun b _ o e => by rw [← e5]; exact pushCells_keeps _ _ _ _ (Heap.get?_push_of_some _ (up3 b o e))
  have hotB : ∀ {s' : Shared} {H' : Hp} {ps : List (Addr × Obj)} {τ : L2.St}, Inv (blkP X s3 HA scope ce fp p) ps τ H' s' → HotC (blkP X s3 HA scope ce fp p) := fun _ => ⟨p, hot, List.mem_singleton.mpr rfl⟩
  have offB : ∀ {τ : L2.St} {H' : Hp} {s' : Shared}, Inv (blkP X s3 HA scope ce fp p) [] τ H' s' → (∀ b ∈ fp, H' b = none) → ∀ b ∈ fp, FpOk (blkP X s3 HA scope ce fp p) [] H' b := fun {τ H' s'} J' hn b hb =>
    ⟨hn b hb, (J'.ok.exf b hb).1, J'.ok.exfs b hb, .inl hb, fun x c e => (J'.ok.exf b hb).2 x c e, fun q hq z => pinB.nfp (by
      have hq2 : q ∈ [p] := by simpa using hq
      rw [List.mem_singleton.mp hq2] at z
      rw [z]
      exact hb)⟩
  have loop : codeAny (model X.prog X.w) X.A (.compLoop (.ListComp elt [⟨tg, iter, ifs, 0⟩] scope pos) 0 (.ref it) (.ref D) ce) (compPost (model X.prog X.w) X.A X.xe none (EP X pins σ Q) (.ref D) s3.heap.objs.size) s4 := by
    refine compLoop_any (fun n s' => ∃ i H', Inv (X.blk s3 HA scope ce fp) [] (wipe σ (own.map (·.2))) H' s' ∧ tn i s'.heap ∧ (∀ b ∈ fp, H' b = none) ∧ W i n H') ?_ m0 ⟨0, HA, I4, at4, noW, w0⟩
    rintro n s5 ⟨i, H5, I5, at5, no5, w5⟩
    have I5p := to_pin pinB I5
    rcases turn i n H5 w5 with ⟨stop, done⟩ | ⟨go, Nx, fall, step⟩
    · refine thnF (T.done (blkP X s3 HA scope ce fp p) rfl rfl rfl (hotB I5p) i [] s5 _ H5 (fun _ _ => False) I5p (offB I5p no5) at5 stop) fun r s6 ⟨hr, I6p⟩ => ?_
      subst hr
      have I6 := from_pin I6p
      have I7 : Inv X pins σ H5 s6 := I3.call' (ch := fp) I6.os I6.base I6.hok I6.bare fun b hb => by
        have q := (off3 b hb).1
        exact ⟨q.2.2.2.1, q.2.1, q.2.2.2.2.1, q.2.2.2.2.2⟩
      have nC : H5 s3.heap.objs.size = none := by
        have z : H5 ce.locals = none := I6.free
        rw [← cL]
        exact z
      obtain ⟨m, hn, _⟩ := I6.loc
      have hn2 : s6.heap.Ns s3.heap.objs.size m := by
        have z : s6.heap.Ns ce.locals m := hn
        rw [← cL]
        exact z
      obtain ⟨f0, f1, f2, f3, f4, f5⟩ := I3.fpOk (H' := H5) (b := s3.heap.objs.size) (Nat.le_refl _) nC
      exact ⟨m, hn2, fun h9 sb => ⟨.ref D, H5, I7.turned (t' := s6.toks) (fun b o hb e => (sb.2 b hb).trans e) f0 f1 f3 f4 f5, rfl, done⟩⟩
    · refine thnF (T.item (blkP X s3 HA scope ce fp p) rfl rfl rfl (hotB I5p) i [] s5 _ H5 (fun _ _ => False) I5p (offB I5p no5) at5 go) fun r s6 ⟨u, hr, z6⟩ => ?_
      subst hr
      refine thnF z6 fun _ s7 ⟨x, H7, I7p, r7, y7, at7, no7⟩ => ?_
      have I7 := from_pin I7p
      have offA : ∀ b ∈ fp, FpOk (X.blk s3 HA scope ce fp) [] H7 b := fun b hb => ⟨no7 b hb, (I7.ok.exf b hb).1, I7.ok.exfs b hb, .inl hb, fun x c e => (I7.ok.exf b hb).2 x c e, fun q hq => absurd (show q ∈ ([] : List (Addr × Obj)) ++ [] from hq) (by simp)⟩
      have I7q := I7.pinned offA (T.obj _ _ at7)
      refine thnF (g4.run _ s7 _ H7 x u _ I7q r7 (step x H7 y7)) fun _ s8 ⟨τ, H8, I8, same8, q8⟩ => ?_
      refine thnF (t4.run _ s8 τ H8 _ I8 q8) fun yes s9 ⟨H9, I9, q9⟩ => ?_
      have next : ∀ {s' : Shared} {H' : Hp}, Inv (X.blk s3 HA scope ce fp) ([] ++ pinsAt fp s7.heap) τ H' s' → Nx H' → ∃ m, m < n ∧ ∃ i H', Inv (X.blk s3 HA scope ce fp) [] (wipe σ (own.map (·.2))) H' s' ∧ tn i s'.heap ∧ (∀ b ∈ fp, H' b = none) ∧ W i m H' := fun {s' H'} J' nx => by
        obtain ⟨m2, lt, w2⟩ := fall H' nx
        have keep7 : ∀ b ∈ fp, ∀ o, s7.heap.get? b = some o → s'.heap.get? b = some o ∧ H' b = none := fun b hb o e => by
          have z := J'.pin (b, o) (List.mem_append_right _ (List.mem_append_right _ (mem_pinsAt hb e)))
          exact ⟨z.1, z.2.1⟩
        refine ⟨m2, lt, i + 1, H', (J'.unpinned (pins := [])).weak (by rw [← same8, wipe_length]) (fun j v e => ?_), T.keep _ _ _ at7 fun b hb o e => (keep7 b hb o e).1, fun b hb => ?_, w2⟩
        · rw [← same8] at e
          exact (wipe_some e).1
        · obtain ⟨o, e, _⟩ := T.obj _ _ at7 b hb
          exact (keep7 b hb o e).2
      cases yes with
      | false => exact next I9 q9
      | true => exact thnF (e4.run _ s9 τ H9 _ I9 q9) fun z s10 ⟨yv, H10, I10, r10, acc, a1, a2, nx⟩ => app_ok (X := X.blk s3 HA scope ce fp) I10 a1 a2 r10 fun s11 I11 => next I11 nx
  exact codeAny_compStart_list loop (T.self X.A 0 _ _ _ at4 loop)
end
end Lk
end
section
set_option maxRecDepth 100000
set_option maxHeartbeats 2000000
/-! Defs that raise where nothing is handled, told with that; what calls them. -/
namespace Lk
open PySem PySem.Spec PyProof.Rows L2
section
variable {P : Program} {w : World} {K : PySem.W.Frag} {mg : Str → Option Value} {base : Heap}
theorem okN {x qual : Str} {st : Stmt} {f : Addr} {fd : FuncData} {N ps : List Str} {k : Nat} {sp : Sp} (F : Fun K x qual st f fd) (S : FnScope N ps (defScope st)) (len : ∀ vs H Q E, sp vs H Q E → vs.length = ps.length)
    (hbody : ∀ (cdv : Value) (A : Around) (outer : List Env) (s : Shared) (H : Hp) (vs : List V) (Q : VK) (E : XK), Room k (A.deeper (envOfC qual (defScope st) s.heap.objs.size f cdv)) → sp vs H Q E →
      ∃ t, PSs (cxOf (L2N.CX P w) P w K mg base N qual (defScope st) f cdv A outer s H E) (defBody st) t ∧ t { nx := fun _ H' => Q .non H', rt := Q } (L2.start N vs) H) : FnOk P w K mg base (L2N.CX P w) (k + 1) f fd ps sp := by
  obtain ⟨oc, od, kV, doc, pm, an, cdv, ct, osl, rfl, lk, hcd⟩ := F.ex
  exact fn_of lk hcd S len fun A outer s H vs Q E hr hsp => hbody cdv A outer s H vs Q E hr hsp
end
structure CalN (P : Program) (w : World) (K : PySem.W.Frag) (mg : Str → Option Value) (base : Heap) (k : Nat) (x : Str) (sp : Sp) : Prop where
  ex : ∃ (f : Addr) (fd : FuncData) (ps : List Str), FnOk P w K mg base (L2N.CX P w) k f fd ps sp ∧ mg x = some (.ref f) ∧ PySem.W.keepIn K (.ref f) = true ∧ Binds K fd ps []
section
variable {X : Cx} {k j : Nat} {x : Str} {sp : Sp} {p pos : Pos} {e : Expr} {es : List Expr} {t : TA} {W : WX}
theorem pe_cN (c : CalN X.prog X.w X.K X.mg X.base k x sp) (tk : L2N.Takes X W) (hr : Room j X.A) (hk : k ≤ j) (hg : Gl X x) (ha : PA X (e :: es) t)
    (hdb : (x == ("__debug__" : Str)) = false := by decide) (he : starEach (e :: es) X.env = (false, eval e X.env) :: starEach es X.env := by rfl) (hpl : (backTo pos (starEach es X.env)).any (·.1) = false := by rfl) :
    PE X (.Call (.Name x p) (e :: es) [] pos) (tCallS sp (WE W) t) := by
  obtain ⟨f, fd, ps, F, hm, kp, b⟩ := c.ex
  exact pe_callS F (hr.mono hk) hg hm kp b (fun σ => L2N.passAt tk σ) ha hdb he hpl
/-- .. where it raises nothing -/
theorem pe_cN0 (c : CalN X.prog X.w X.K X.mg X.base k x sp) (hr : Room j X.A) (hk : k ≤ j) (hg : Gl X x) (ha : PA X (e :: es) t)
    (hdb : (x == ("__debug__" : Str)) = false := by decide) (he : starEach (e :: es) X.env = (false, eval e X.env) :: starEach es X.env := by rfl) (hpl : (backTo pos (starEach es X.env)).any (·.1) = false := by rfl) :
    PE X (.Call (.Name x p) (e :: es) [] pos) (tCall sp [] E0 t) := by
  obtain ⟨f, fd, ps, F, hm, kp, b⟩ := c.ex
  exact pe_call F (hr.mono hk) hg hm kp b .nil (fun _ _ _ _ _ _ _ h => by obtain ⟨_, _, _, _, _, _, _, _, _, _, _, _, z⟩ := h; exact z.elim) ha hdb he hpl
/-- x(f"..") that is raised -/
theorem pmkN1 {C : Addr} {bm : List Value} {B n1 n2 : String} {a : Expr} {ta : TE} (F : ExcBaseFacts B n1 n2 bm) (q : PySem.W.excIn X.K C bm n1 = true) (g : X.mg x = some (.ref C)) (kC : PySem.W.keepIn X.K (.ref C) = true) (r : Raises X (.ref C)) (hg : Gl X x)
    (he : PE X a ta) (hs : starEach [a] X.env = (false, eval a X.env) :: starEach [] X.env := by rfl) (hdb : (x == ("__debug__" : Str)) = false := by decide) :
    L2N.PMk X (.Call (.Name x p) [a] [] pos) (fun σ H Q => ta σ H fun _ H1 => Q (.ref C) none H1) := by
  intro pins s σ H Q I h
  refine wpAny_Call_Name_kw (ld_glob I hg g ?_ hdb)
  refine PySem.W.callWith_K (h₀ := X.base) I.ok.mod.kin kC ?_ hs rfl
  rw [hs]
  show wpAny (model X.prog X.w) X.A (spliced ((false, eval a X.env) :: backTo pos (starEach [] X.env))) _ X.xe s
  refine Calls.spliced_cons (thn (he.run pins s σ H _ I h) fun u1 t1 ⟨w1, G1, J1, z1, y1⟩ => Calls.spliced_nil ⟨J1.kIn, ?_⟩)
  obtain ⟨bm', n', nm', qn', bs', hd', sn', sub', ab', col', dd', k0', k1', k2', k3', k5', mN', hC', hN', hni', T'⟩ := exc_obj J1.kIn q
  show wpAny (model X.prog X.w) X.A (call (.ref C) [u1]) _ X.xe t1
  refine wpAny_call_exc_subT F T' hC' hN' hni' (fun h' e hm => L2N.mk_of J1 hm r y1 (J1.hok.gone hm.new)) ?_
  show 1 ≤ sizeLine
  decide
end
end Lk
end
section
set_option maxRecDepth 100000
set_option maxHeartbeats 2000000
/-! Methods that may raise where nothing is handled, called within a try; a class made so. -/
namespace Lk
open PySem PySem.Spec PyProof.Rows L2
structure MetN (P : Program) (w : World) (K : PySem.W.Frag) (mg : Str → Option Value) (base : Heap) (k : Nat) (C : Addr) (m : Str) (sp : Sp) : Prop where
  ex : ∃ (f : Addr) (fd : FuncData) (ps : List Str), FnOk P w K mg base (L2N.CX P w) k f fd ps sp ∧ Meth K C m f ∧ Binds K fd ps []
  cl : Cls K C
structure MakerN (P : Program) (w : World) (K : PySem.W.Frag) (mg : Str → Option Value) (base : Heap) (k : Nat) (x : Str) (C : Addr) (first : V) (sp : Sp) (key : Str) : Prop where
  ex : ∃ (f : Addr) (fd : FuncData) (ps : List Str) (g0 g1 : List Value → List Value → List Value), FnOk P w K mg base (L2N.CX P w) k f fd ps sp ∧ Mk K C f ∧ mg x = some (.ref C) ∧ KBn K fd ps 3 [] g0 (fun vs _ => vs ++ [first]) ∧ KBn K fd ps 3 [key] g1 (fun vs zs => vs ++ zs)
def tMethS (C : Addr) (m : Str) (sp : Sp) (E : L2.St → XK) (ta : TE) (t : TA) : TE := fun σ H Q => ta σ H fun x H1 => ∃ a dx fs, x = .ref a ∧ H1 a = some (.ins C dx fs) ∧ fs.lookup m = none ∧
  t σ H1 fun vs H2 => sp (x :: vs) H2 Q (E σ)
def tMakeKS (C : Addr) (n m : Nat) (sp : Sp) (gV : List V → List V → List V) (E : L2.St → XK) (t tk : TA) : TE := fun σ H Q => t σ H fun vs H1 => tk σ H1 fun zs H2 => vs.length = n ∧ zs.length = m ∧ ∀ x dx, H2 x = none → H2 dx = none → dx ≠ x →
  sp (gV (.ref x :: vs) zs) (upd (upd H2 dx (.own x)) x (.ins C dx [])) (fun v H3 => v = .non ∧ Q (.ref x) H3) (E σ)
section
variable {X : Cx} {CX : CXT} {k j n : Nat} {C f : Addr} {fd : FuncData} {ps ks : List Str} {m x : Str} {sp : Sp} {p pos apos : Pos} {o e : Expr} {es : List Expr} {ta : TE} {t tk : TA} {W : WX} {E : L2.St → XK} {kws : List Keyword} {g : List Value → List Value → List Value} {gV : List V → List V → List V}
theorem pe_mN (ho : PE X o ta) (c : MetN X.prog X.w X.K X.mg X.base k C m sp) (tk : L2N.Takes X W) (hr : Room j X.A) (hk : k ≤ j) (ha : PA X (e :: es) t) {pl : PySem.Sem Bool}
    (h1 : starEach (e :: es) X.env = (false, eval e X.env) :: starEach es X.env := by rfl) (h2 : ((backTo pos (starEach es X.env)).any fun x => x.fst) = false := by rfl)
    (h3 : (eval ((o.Attribute m apos).Call (e :: es) [] pos) X.env = do
      let ov ← eval o X.env
      standAt apos.atName
      let __x ← holding [ov] (getMethod ov m pl)
      match __x with
        | (f, first) => callWith pos f first (backTo pos (starEach (e :: es) X.env)) (backToKw pos (keywordEach [] X.env))) := by rfl) :
    PE X (.Call (.Attribute o m apos) (e :: es) [] pos) (tMethS C m sp (WE W) ta t) := by
  obtain ⟨f, fd, ps, F, M, b⟩ := c.ex
  refine ⟨fun pins s σ H Q I h => ?_⟩
  refine PySem.W.methodCall_KW (pl := pl) (thn (ho.run pins s σ H _ I h) fun u s1 ⟨x, H1, I1, rx, a, dx, fs, ex, ea, l, q⟩ => ?_) h3
  subst ex
  obtain rfl : u = Value.ref a := rx
  refine getmeth_ok I1 ea c.cl M l ?_
  refine PySem.W.callWith_K (first := [.ref a]) (h₀ := X.base) I.ok.mod.kin M.kp (thn (ha.run pos pins s1 σ H1 _ I1 q) fun us s2 ⟨vs, H2, I2, r, q2⟩ => ⟨I2.kIn, ?_⟩) h1 h2
  exact run_fnS (us := .ref a :: us) (vs := .ref a :: vs) F (hr.mono hk) b (L2N.passAt tk σ) I2 (.cons rfl r) q2
theorem pe_mN_0 (ho : PE X o ta) (c : MetN X.prog X.w X.K X.mg X.base k C m sp) (tk : L2N.Takes X W) (hr : Room j X.A) (hk : k ≤ j) {pl : PySem.Sem Bool}
    (h3 : (eval ((o.Attribute m apos).Call [] [] pos) X.env = do
      let ov ← eval o X.env
      standAt apos.atName
      let __x ← holding [ov] (getMethod ov m pl)
      match __x with
        | (f, first) => callWith pos f first (backTo pos (starEach [] X.env)) (backToKw pos (keywordEach [] X.env))) := by rfl) :
    PE X (.Call (.Attribute o m apos) [] [] pos) (tMethS C m sp (WE W) ta tNil) := by
  obtain ⟨f, fd, ps, F, M, b⟩ := c.ex
  refine ⟨fun pins s σ H Q I h => ?_⟩
  refine PySem.W.methodCall_KW (pl := pl) (thn (ho.run pins s σ H _ I h) fun u s1 ⟨x, H1, I1, rx, a, dx, fs, ex, ea, l, q⟩ => ?_) h3
  subst ex
  obtain rfl : u = Value.ref a := rx
  refine getmeth_ok I1 ea c.cl M l ?_
  exact PySem.W.callWith_K0 (first := [.ref a]) I1.kIn M.kp (run_fnS (us := [.ref a]) (vs := [.ref a]) F (hr.mono hk) b (L2N.passAt tk σ) I1 (.cons rfl .nil) q)
theorem run_makeKS {pins : List (Addr × Obj)} {σ : L2.St} {H : Hp} {s : Shared} {Q : VK} {us ws : List Value} {vs zs : List V} (M : Mk X.K C f) (F : FnOk X.prog X.w X.K X.mg X.base CX k f fd ps sp) (hr : Room (k + 1) X.A) (hb : KBn X.K fd ps (n + 1) ks g gV) (hx : PassesAt CX X σ (E σ))
    (I : Inv X pins σ H s) (r : Vals vs us) (rz : Vals zs ws) (l1 : vs.length = n) (l2 : zs.length = ks.length)
    (h : ∀ x dx, H x = none → H dx = none → dx ≠ x → sp (gV (.ref x :: vs) zs) (upd (upd H dx (.own x)) x (.ins C dx [])) (fun v H2 => v = .non ∧ Q (.ref x) H2) (E σ)) :
    wpAny (model X.prog X.w) X.A (call (.ref C) us (ks.zip ws)) (EP X pins σ Q) X.xe s := by
  have hq := h (s.heap.objs.size + 1) s.heap.objs.size (I.hok.fresh (Nat.le_succ _)) (I.hok.fresh (Nat.le_refl _)) (Nat.ne_of_lt (Nat.lt_succ_self _))
  have I2 := Inv.made (C := C) I
  have r1 : Vals (V.ref (s.heap.objs.size + 1) :: vs) (Value.ref (s.heap.objs.size + 1) :: us) := .cons rfl r
  have r2 := hb.rel r1 rz
  have n1 : (Value.ref (s.heap.objs.size + 1) :: us).length = n + 1 := by
    rw [List.length_cons, ← r.length, l1]
  refine wpAny_call (make_map (f := f) I.kIn M.makes M.init (beq_iff_eq.mp M.fn) (codeAny_mono (F.run _ X.stack _ _ ⟨Value.ref (s.heap.objs.size + 1) :: us, ks.zip ws⟩ (g (Value.ref (s.heap.objs.size + 1) :: us) ws) _ _ (E σ) (hr.make C us (ks.zip ws))
    (I2.env0.make C us (ks.zip ws)) (hb.to _ (Value.ref (s.heap.objs.size + 1) :: us) ws I2.kIn n1 (rz.length.symm.trans l2)) r2 hq) fun r s' hq' => ?_))
  cases r with
  | error e => exact hx pins _ _ e s' I2 hq'
  | ok fl =>
    cases fl with
    | ret u =>
      obtain ⟨v, H', I3, rv, ev, q3⟩ := I2.after hq'
      subst ev
      exact ⟨rv, ⟨V.ref (s.heap.objs.size + 1), H', I3, rfl, q3⟩⟩
    | next => exact False.elim hq'
    | brk => exact False.elim hq'
    | cont => exact False.elim hq'
theorem pe_mkN1 {key : Str} {first : V} {tz : TA} (c : MakerN X.prog X.w X.K X.mg X.base k x C first sp key) (tk : L2N.Takes X W) (hr : Room j X.A) (hk : k + 1 ≤ j) (hg : Gl X x) (ha : PA X (e :: es) t) (hkw : PK X kws tz)
    (hall : ((backToKw pos (keywordEach kws X.env)).all fun x => x.fst.isSome) = true := by rfl)
    (hks : List.filterMap (fun x => x.fst) (backToKw pos (keywordEach kws X.env)) = [key] := by rfl)
    (hdb : (x == Str.ofString "__debug__") = false := by decide)
    (he : starEach (e :: es) X.env = (false, eval e X.env) :: starEach es X.env := by rfl)
    (hpl : (((backTo pos (starEach (e :: es) X.env)).any fun x => x.fst) || (backToKw pos (keywordEach kws X.env)).any fun x => x.fst.isNone) = false := by rfl) :
    PE X (.Call (.Name x p) (e :: es) kws pos) (tMakeKS C 2 1 sp (fun vs zs => vs ++ zs) (WE W) t tz) := by
  obtain ⟨f, fd, ps, g0, g1, F, M, hm, b0, b1⟩ := c.ex
  refine ⟨fun pins s σ H Q I h => ?_⟩
  refine wpAny_Call_Name_kw (ld_glob I hg hm ?_ hdb)
  refine PySem.W.callWith_KW (h₀ := X.base) I.ok.mod.kin M.kp hall (thn (ha.run pos pins s σ H _ I h) fun us s1 ⟨vs, H1, I1, r, q⟩ => ?_) hpl he
  refine thn (hkw.run pos pins s1 σ H1 _ I1 q) fun ws s2 ⟨zs, H2, I2, rz, l1, l2, q2⟩ => ⟨I2.kIn, ?_⟩
  rw [hks]
  exact run_makeKS (n := 2) (ks := [key]) (E := WE W) M F (hr.mono hk) b1 (L2N.passAt tk σ) I2 r rz l1 l2 q2
end
variable {P : Program} {w : World} {K : PySem.W.Frag} {mg : Str → Option Value} {base : Heap} {k : Nat} {C f : Addr} {fd : FuncData} {ps : List Str} {m : Str} {sp : Sp}
theorem mkMetN (M : Meth K C m f) (c : Cls K C) (b : Binds K fd ps []) (ok : FnOk P w K mg base (L2N.CX P w) k f fd ps sp) : MetN P w K mg base k C m sp := ⟨⟨f, fd, ps, ok, M, b⟩, c⟩
end Lk
end
section
set_option maxRecDepth 100000
set_option maxHeartbeats 4000000
namespace Lk
open PySem PySem.Spec PyProof.Rows L2
/-- where the word is the next longer one -/
def Ln.next (x : Ln) (w : List Nat) : Option Nat := match placeOf x.loop w with
  | some a => if w.length = x.now.2.getD a 0 + 1 then some a else none
  | none => none
/-- anything is taught, or refused -/
def spTeachN (C CE : Addr) : Sp := fun vs H Q E => ∃ (p D A : Addr) (x : Ln) (v : V) (b : Bool), vs = [.ref p, v] ∧ LnAt C H p D A x ∧ 0 < x.loop.length ∧ x.loop.length ≤ 12 ∧ x.now.2.length = x.loop.length ∧ WordV H v b ∧ (∀ w, v = .str (SX.S w) → w.length ≤ 50000) ∧ x.rows.length ≤ 100000 ∧
  (b = false → ∀ H', Same H H' → E (.ref CE) none H') ∧ (b = true → ∀ w, v = .str (SX.S w) → isWord w = true → (x.next w = none → ∀ H', Same H H' → E (.ref CE) none H') ∧ ∀ a, x.next w = some a → ∀ H', LnAt C H' p D A (x.teach w a) → Rest p D A H H' → Q .non H')
abbrev nTeN : List Str := ["self", "word", "at", "here", "lengths"]
section
variable {P : Program} {w : World} {K : PySem.W.Frag} {mg : Str → Option Value} {base : Heap} {f C CE : Addr} {fd : FuncData}
theorem scN_teach : FnScope nTeN ["self", "word"] (defScope s_Learner_teach) := ⟨rfl, rfl, rfl, by decide +kernel, rfl, by decide +kernel, by decide +kernel⟩
theorem okN_teach (F : Fun K "teach" "Learner.teach" s_Learner_teach f fd) (T : LT K C) (po : C8.Cal P w K mg base 3 "place_of" spPlaceOf []) (kp : Met P w K mg base 1 C "_keep" (spKeep C)) (ol : C8.Cal P w K mg base 1 "one_longer" spLonger []) (W : ErrC K mg "NoWord" CE) (ml : mg "len" = none) : FnOk P w K mg base (L2N.CX P w) 5 f fd ["self", "word"] (spTeachN C CE) := by
  refine okN F scN_teach (fun vs H Q E h => ?_) (fun cdv A outer s H vs Q E hr h => ?_)
  · obtain ⟨p, D, A, x, v, b, rfl, _⟩ := h
    rfl
  · obtain ⟨p, D, A, x, v, b, rfl, L, l0, l12, hlen, hw, w5, few, qn, q⟩ := h
    obtain ⟨⟨dx, cv, hp, ca, cb, rfl, hca, hcb⟩, _, _, _⟩ := id L
    have nd := scN_teach.nd
    refine ⟨_, (pss_cons (by exact (ps_set (i := 2) nd rfl (Or.inl rfl) (C8.pe_c po hr (by decide) rfl (pa_cons (pe_fld (pv 0) rfl) (pa_cons (pv 1) pa_nil)))))
      (pss_cons (by exact (ps_asg (pe_fld (pv 0) rfl) (pg_tup rfl (pgs_cons (pg_name (i := 3) nd rfl (Or.inl rfl)) (pgs_cons (pg_name (i := 4) nd rfl (Or.inl rfl)) pgs_nil)))))
      (pss_cons (by exact (ps_if (PW.pt (pw_or (pt_cmpR op_isN (pv 2) pe_non (nomark _)) (pw_or1 (pt_cmpR op_ne (pe_callB call_len_str (by rfl) ml PySem.boot_len (pa_cons (pv 1) pa_nil)) (pe_op op_add (pe_ix ix_tup (pv 4) (pv 2) (fun _ _ => rfl)) pe_int) (nomark _))))) (pss_one (by exact (L2N.ps_raise rfl (L2N.takes_of rfl rfl rfl rfl) (pmkN1 PySem.F.excBase_ValueError W.x W.g W.k (raises_own W.b W.t) rfl pe_str)))) pss_nil))
      (pss_cons (by exact (ps_expr (pe_m (pv 0) kp hr (by decide) (pa_cons (pe_tupS (pa_cons pe_str (pa_cons (pv 1) pa_nil))) pa_nil))))
      (pss_one (by exact (ps_fld (pv 0) (pe_tupS (pa_cons (pv 3) (pa_cons (C8.pe_c ol hr (by decide) rfl (pa_cons (pv 4) (pa_cons (pv 2) pa_nil))) pa_nil))) rfl))))))), ?_⟩
    have bad : ∀ {H1 : Hp}, Same H H1 → E (.ref CE) none H1 → E (.ref CE) none H1 := fun _ e => e
    refine ⟨_, rfl, p, C, dx, _, _, rfl, hp, T.cl, T.n0, fl_loop, _, rfl, x.loop, v, b, rfl, l0, l12, hw, w5, fun z H1 s1 => ?_, fun z wd ew isw H1 s1 => ?_⟩
    · refine ⟨_, rfl, p, C, dx, _, _, rfl, s1 _ _ hp, T.cl, T.n1, fl_now, ca, _, rfl, SqT.of (s1 _ _ hca), rfl, _, _, rfl, _, _, rfl, rfl, ?_⟩
      refine ⟨_, rfl, rfl, _, rfl, ?_⟩
      exact iteT (iteT (qn z _ s1))
    · subst ew
      have lw5 := w5 wd rfl
      obtain ⟨q1, q2⟩ := q z wd rfl isw
      refine ⟨_, rfl, p, C, dx, _, _, rfl, s1 _ _ hp, T.cl, T.n1, fl_now, ca, _, rfl, SqT.of (s1 _ _ hca), rfl, _, _, rfl, _, _, rfl, rfl, ?_⟩
      refine ⟨_, rfl, rfl, _, rfl, ?_⟩
      cases pl : placeOf x.loop wd with
      | none =>
        exact iteT (iteT (q1 (by unfold Ln.next; rw [pl]) _ s1))
      | some a =>
        have ha : a < x.now.2.length := by rw [hlen]; exact place_lt pl
        show (if decide (V.int (a : Int) = V.non) = true then _ else _)
        rw [decide_eq_false (by intro z; cases z)]
        refine iteF ⟨_, rfl, SX.S wd, rfl, (by rw [SX.S_len]; exact Nat.le_trans lw5 (by decide)), _, rfl, _, rfl, cb, _, (a : Int), _, rfl, rfl, SqT.of (s1 _ _ hcb), atI_nat (nat_at ha), _, _, rfl, rfl, rfl, _, rfl, ?_⟩
        by_cases wl : wd.length = x.now.2.getD a 0 + 1
        · have nx : x.next wd = some a := by unfold Ln.next; rw [pl]; exact if_pos wl
          have hne : (!decide (V.int (((SX.S wd).length : Nat) : Int) = V.int (((x.now.2.getD a 0 : Nat) : Int) + 1))) = false := by
            rw [decide_eq_true (congrArg V.int (by rw [SX.S_len]; omega))]
            rfl
          show (if (!decide (V.int (((SX.S wd).length : Nat) : Int) = V.int (((x.now.2.getD a 0 : Nat) : Int) + 1))) = true then _ else _)
          rw [hne]
          refine iteF ?_
          have nok : ∀ {v' : V} {n' : Nat} {D' A' : Addr}, List.lookup ("_keep" : Str) (flds x.loop v' n' D' A') = none := fl_no (by simp; decide +kernel) (by simp; decide +kernel) (by simp; decide +kernel) (by simp; decide +kernel) (by simp; decide +kernel)
          refine ⟨_, rfl, p, dx, _, rfl, s1 _ _ hp, nok, _, rfl, (by show 2 ≤ sizeLine; decide), fun t H2 nt s2 e2 => ?_⟩
          have s12 := Same.trans s1 s2
          refine ⟨p, D, A, x, .ref t, .teach wd, rfl, L.same s12, ⟨t, rfl, e2⟩, few, fun H3 L3 r3 => ?_⟩
          have tp3 := (L.same s12).tups r3
          obtain ⟨⟨dx3, v3, hp3, hv3⟩, _, _, _⟩ := id L3
          have hcb3 := tp3 _ _ (s12 _ _ hcb)
          refine ⟨_, rfl, _, rfl, _, rfl, cb, x.now.2, a, rfl, hcb3, ha, by omega, fun b4 H4 s4 e4 => ⟨(by show 2 ≤ sizeLine; decide), fun t5 H5 n5 s5 e5 => ?_⟩⟩
          have s45 := Same.trans s4 s5
          refine ⟨_, rfl, p, C, dx3, _, rfl, s45 _ _ hp3, T.cl, T.n1, (by show 5 < 1000; decide), ?_⟩
          rw [flds_now]
          obtain ⟨L6, r6⟩ := L3.put (c := (x.now.1, x.now.2.set a (x.now.2.getD a 0 + 1))) s45 dx3 ⟨t5, b4, rfl, e5, s5 _ _ e4⟩ x.n
          exact q2 a nx _ L6 ((Rest.of s12).trans (r3.trans r6))
        · have nx : x.next wd = none := by unfold Ln.next; rw [pl]; exact if_neg wl
          have hne : (!decide (V.int (((SX.S wd).length : Nat) : Int) = V.int (((x.now.2.getD a 0 : Nat) : Int) + 1))) = true := by
            rw [decide_eq_false (fun z => wl (by have y := V.int.inj z; rw [SX.S_len] at y; omega))]
            rfl
          show (if (!decide (V.int (((SX.S wd).length : Nat) : Int) = V.int (((x.now.2.getD a 0 : Nat) : Int) + 1))) = true then _ else _)
          rw [hne]
          exact iteT (q1 nx _ s1)
end
end Lk
end
section
set_option maxRecDepth 100000
set_option maxHeartbeats 2000000
namespace Lk
open PySem PySem.Spec PyProof.Rows L2
section
variable {P : Program} {w : World} {K : PySem.W.Frag} {mg : Str → Option Value} {base : Heap}
abbrev nPail : List Str := ["script", "k", "cell"]
theorem sc_pail : FnScope nPail ["script", "k"] (defScope s_law_pail) := ⟨rfl, rfl, rfl, by decide +kernel, rfl, by decide +kernel, by decide +kernel⟩
theorem ok_pail {f : Addr} {fd : FuncData} (F : Fun K "_law_pail" "_law_pail" s_law_pail f fd) (mmax : mg "max" = none) (ml : mg "len" = none) : FnOk P w K mg base CX0 1 f fd ["script", "k"] (spPot K) := by
  refine F.ok sc_pail (fun vs H Q E h => ?_) (fun cdv A outer s H vs Q E hr h => ?_)
  · obtain ⟨S, ns, k, rfl, _⟩ := h
    rfl
  · obtain ⟨S, ns, k, rfl, hS, hk, hl, q⟩ := h
    have nd := sc_pail.nd
    refine ⟨_, (pss_cons (by exact (ps_set (i := 2) nd rfl (Or.inl rfl) pe_int))
      (C8.pss_cut (by exact (ps_if (pt_cmpR op_lt (pv 1) (pe_callB call_len_seq (by rfl) ml PySem.boot_len (pa_cons (pv 0) pa_nil)) (nomark _)) (pss_one (by exact (ps_set (i := 2) nd rfl (Or.inl rfl) (pe_ix ix_list (pv 0) (pv 1) (fun _ _ => rfl))))) pss_nil))
      (pss_one (by exact (ps_ret (pe_lstS (pa_cons (pe_callB (call_max2 rfl) (by rfl) mmax (by decide +kernel) (pa_cons pe_int (pa_cons (pe_op op_sub (pv 2) (pe_op op_pow pe_int pe_int)) pa_nil))) (pa_cons (pe_op op_add (pe_op op_mul (pe_op op_mod (pv 2) pe_int) pe_int) (pv 1)) (pa_cons pe_int pa_nil))))))))), ?_⟩
    refine ⟨fun σ' H' => ∃ c : Int, σ' = [some (.ref S), some (.int (k : Int)), some (.int c)] ∧ H' = H, ?_, ?_⟩
    · refine ⟨_, rfl, _, rfl, S, _, rfl, .inl hS, _, _, rfl, rfl, _, rfl, ite2 (fun e => ?_) (fun e => ?_)⟩
      · have e2 := of_decide_eq_true e
        rw [List.length_map] at e2
        have hk2 : k < ns.length := by omega
        have at1 : (ns.map V.int)[k]? = some (V.int ns[k]) := by rw [List.getElem?_map, List.getElem?_eq_getElem hk2]; rfl
        exact ⟨_, rfl, _, rfl, S, _, (k : Int), _, rfl, rfl, hS, atI_nat at1, _, rfl, rfl⟩
      · exact ⟨0, rfl, rfl⟩
    · rintro σ0 H2 ⟨c, rfl, rfl⟩
      have e34 : (0 : Int) < 162259276829213363391578010288127 := by decide
      refine ⟨_, rfl, _, _, rfl, rfl, ⟨by decide, by decide, by decide⟩, _, _, rfl, rfl, _, _, rfl, _, rfl, _, _, rfl, rfl, e34, _, _, rfl, rfl, .inr ⟨by decide, by decide⟩, _, rfl, _, _, rfl, rfl, (by show 3 ≤ sizeLine; decide), fun p H1 n1 s1 e1 => q p H1 n1 s1 ⟨_, _, 0, e1, ?_, ?_, by decide, by decide⟩⟩
      · have z := Int.emod_nonneg c (show (162259276829213363391578010288127 : Int) ≠ 0 by decide)
        omega
      · have z := Int.emod_lt_of_pos c e34
        have z2 : (162259276829213363391578010288127 : Int) * 64 + 64 < 10 ^ 36 := by decide
        omega
abbrev nDip : List Str := ["pail", "many", "found", "mixed"]
theorem sc_dip : FnScope nDip ["pail", "many"] (defScope s_law_dip) := ⟨rfl, rfl, rfl, by decide +kernel, rfl, by decide +kernel, by decide +kernel⟩
theorem ok_dip {f : Addr} {fd : FuncData} (F : Fun K "_law_dip" "_law_dip" s_law_dip f fd) : FnOk P w K mg base CX0 1 f fd ["pail", "many"] spPull := by
  refine F.ok sc_dip (fun vs H Q E h => ?_) (fun cdv A outer s H vs Q E hr h => ?_)
  · obtain ⟨a, m, n, rfl, _⟩ := h
    rfl
  · obtain ⟨a, m, n, rfl, ⟨u0, u1, u2, hb, g1, l1, g2, l2⟩, hn, h0, h1, q⟩ := h
    have nd := sc_dip.nd
    refine ⟨_, (pss_cons (by exact (ps_if (pt_cmpR op_gt (pe_ix ix_list (pv 0) pe_int (fun _ _ => rfl)) pe_int (nomark _)) (pss_cons (by exact (ps_set (i := 2) nd rfl (Or.inl rfl) (pe_op op_mod (pe_ix ix_list (pv 0) pe_int (fun _ _ => rfl)) (pv 1))))
      (pss_cons (by exact (ps_asg (pe_op op_fdivW (pe_ix ix_list (pv 0) pe_int (fun _ _ => rfl)) (pv 1)) (pg_sub (pv 0) pe_int set_list)))
      (pss_one (by exact (ps_ret (pv 2)))))) pss_nil))
      (pss_cons (by exact (ps_asg (pe_op op_add (pe_ix ix_list (pv 0) pe_int (fun _ _ => rfl)) pe_int) (pg_sub (pv 0) pe_int set_list)))
      (pss_cons (by exact (ps_set (i := 3) nd rfl (Or.inl rfl) (pe_op op_mod (pe_op op_powW (pe_op op_add (pe_ix ix_list (pv 0) pe_int (fun _ _ => rfl)) (pe_op op_mul pe_int (pe_ix ix_list (pv 0) pe_int (fun _ _ => rfl)))) pe_int) pe_int)))
      (pss_cons (by exact (ps_set (i := 3) nd rfl (Or.inl rfl) (pe_op op_mod (pe_op op_powW (pe_op op_add (pv 3) (pe_op op_mul (pe_op op_mul pe_int (pe_ix ix_list (pv 0) pe_int (fun _ _ => rfl))) (pe_ix ix_list (pv 0) pe_int (fun _ _ => rfl)))) pe_int) pe_int)))
      (pss_one (by exact (ps_ret (pe_op op_mod (pe_op op_fdiv (pv 3) pe_int) (pv 1))))))))), ?_⟩
    refine ⟨_, rfl, a, _, 0, .int u0, rfl, rfl, SqL.of hb, rfl, _, _, rfl, rfl, _, rfl, ite2 (fun c => ?_) (fun c => ?_)⟩
    · refine ⟨_, rfl, a, _, 0, .int u0, rfl, rfl, SqL.of hb, rfl, _, rfl, _, _, rfl, rfl, h0, ?_⟩
      refine ⟨_, rfl, a, _, 0, .int u0, rfl, rfl, SqL.of hb, rfl, _, rfl, _, _, rfl, rfl, pick_div h0 h1, _, rfl, a, _, 0, 0, rfl, rfl, hb, rfl, ?_⟩
      refine ⟨_, rfl, ?_⟩
      refine q _ _ (Int.emod_nonneg _ (by omega)) (Int.emod_lt_of_pos _ h0) ⟨u0 / m, u1, u2, upd_same, g1, l1, g2, by omega⟩ fun p o n e => ?_
      rw [upd_ne n]
      exact e
    · refine ⟨_, rfl, a, _, 2, .int u2, rfl, rfl, SqL.of hb, rfl, _, _, rfl, rfl, _, rfl, a, _, 2, 2, rfl, rfl, hb, rfl, ?_⟩
      have e38 : (0 : Int) < 170141183460469231731687303715884105727 := by decide
      have e36 : (0 : Int) < 162259276829213363391578010288127 := by decide
      have b1 : (u1 + 2654435761 * (u2 + 1)).natAbs < 2 ^ 1000 := by
        have z : (2 : Nat) ^ 1000 > 10 ^ 40 := by decide +kernel
        omega
      refine ⟨_, rfl, a, _, 1, .int u1, rfl, rfl, SqL.of upd_same, rfl, _, rfl, a, _, 2, .int (u2 + 1), rfl, rfl, SqL.of upd_same, rfl, _, _, rfl, rfl, .inl ⟨by decide, by decide⟩, _, _, rfl, rfl, _, _, rfl, rfl, ⟨by decide, by decide, b1⟩, _, _, rfl, rfl, e38, ?_⟩
      dsimp only
      generalize hF : ((u1 + 2654435761 * (u2 + 1)) ^ (3 : Int).toNat % 170141183460469231731687303715884105727 : Int) = F1
      have hF0 : 0 ≤ F1 := by rw [← hF]; exact Int.emod_nonneg _ (by omega)
      have hF1 : F1 < 170141183460469231731687303715884105727 := by rw [← hF]; exact Int.emod_lt_of_pos _ e38
      have hF2 : F1 < 10 ^ 39 := Int.lt_trans hF1 (by decide)
      have b2 : (F1 + 40692 * (u2 + 1) * (u2 + 1)).natAbs < 2 ^ 1000 := by
        have z : (2 : Nat) ^ 1000 > 10 ^ 40 := by decide +kernel
        have y : 40692 * (u2 + 1) * (u2 + 1) ≤ 40692 * 100001 * 100001 := Int.mul_le_mul (by omega) (by omega) (by omega) (by omega)
        have y0 : 0 ≤ 40692 * (u2 + 1) * (u2 + 1) := Int.mul_nonneg (by omega) (by omega)
        omega
      refine ⟨_, rfl, _, rfl, a, _, 2, .int (u2 + 1), rfl, rfl, SqL.of upd_same, rfl, _, _, rfl, rfl, .inl ⟨by decide, by decide⟩, _, rfl, a, _, 2, .int (u2 + 1), rfl, rfl, SqL.of upd_same, rfl, _, _, rfl, rfl, .inr ⟨by omega, by omega⟩, _, _, rfl, rfl, _, _, rfl, rfl, ⟨by decide, by decide, b2⟩, _, _, rfl, rfl, e36, ?_⟩
      refine ⟨_, rfl, _, _, rfl, rfl, ⟨by decide, by decide⟩, _, rfl, _, _, rfl, rfl, h0, ?_⟩
      exact q _ _ (Int.emod_nonneg _ (by omega)) (Int.emod_lt_of_pos _ h0) ⟨u0, u1, u2 + 1, upd_same, g1, l1, by omega, by omega⟩ sameBut_upd
end
end Lk
end
section
set_option maxRecDepth 100000
set_option maxHeartbeats 4000000
namespace Lk
open PySem PySem.Spec PyProof.Rows L2
/-- so many letters of the endless loop from a place on -/
def spLetL : Sp := fun vs H Q _ => ∃ (l : List Nat) (x n : Nat), vs = [.str (SX.S l), .int (x : Int), .int (n : Int)] ∧ 0 < l.length ∧ l.length ≤ 12 ∧ n ≤ 50000 ∧ ∀ H', Same H H' → Q (.str (SX.S (run l x n))) H'
abbrev nLL : List Str := ["loop", "place", "many", "k"]
section
variable {P : Program} {w : World} {K : PySem.W.Frag} {mg : Str → Option Value} {base : Heap}
theorem sc_letL : FnScope nLL ["loop", "place", "many"] (defScope s_law_letters) := ⟨rfl, rfl, rfl, by decide +kernel, rfl, by decide +kernel, by decide +kernel⟩
theorem ok_letL {f : Addr} {fd : FuncData} (F : Fun K "_law_letters" "_law_letters" s_law_letters f fd) (ml : mg "len" = none) (mr : mg "range" = none) : FnOk P w K mg base CX0 1 f fd ["loop", "place", "many"] spLetL := by
  refine F.ok sc_letL (fun vs H Q E h => ?_) (fun cdv A outer s H vs Q E hr h => ?_)
  · obtain ⟨l, x, n, rfl, _⟩ := h
    rfl
  · obtain ⟨l, x, n, rfl, l0, l12, hn, q⟩ := h
    have nd := sc_letL.nd
    refine ⟨_, (pss_one (by exact (ps_ret (pe_join pe_str (pe_lc (own := [("k", 3)]) (g := (gName 3)) (tt := tYes) rfl nd (pi_range1 (by rfl) mr (pa_cons (pv 2) pa_nil)) (blkOk_by (N := nLL) (sc := defScope s_law_letters) (by decide +kernel)) (fun _ _ _ _ _ => (pg_name (i := 3) nd rfl (Or.inl rfl))) (fun _ _ _ _ _ => pts_nil) (fun _ _ _ _ _ => (pe_item_str (pv 0) (pe_op op_mod (pe_op op_add (pv 1) (pv 3)) (pe_callB call_len_str (by rfl) ml PySem.boot_len (pa_cons (pv 0) pa_nil))) (fun _ _ => rfl)))))))), ?_⟩
    refine ⟨⟨_, rfl⟩, _, rfl, (n : Int), rfl, by omega, by omega, fun D nD => ?_⟩
    rw [Int.toNat_natCast]
    refine lc_range (lo := 0) (n := n) (fun i H3 => Same H H3 ∧ H3 D = some (.lst (((run l x n).take i).map chN))) ⟨same_new nD, upd_same⟩ ?_ ?_
    · rintro i H3 hi ⟨s3, e3⟩
      have hm : (x + i) % l.length < l.length := Nat.mod_lt _ l0
      have hc : (SX.S l).cps[(((x : Int) + (0 + (i : Int))) % ((SX.S l).length : Int)).toNat]? = some (lat l (x + i)) := by
        rw [SX.S_len, show ((x : Int) + (0 + (i : Int))) % (l.length : Int) = (((x + i) % l.length : Nat) : Int) by push_cast; rw [Int.zero_add], Int.toNat_natCast]
        show (l.toArray)[(x + i) % l.length]? = _
        rw [List.getElem?_toArray, List.getElem?_eq_getElem hm]
        unfold lat
        rw [getD_eq hm]
      obtain ⟨acc, a1, a2, a3⟩ := snoc_map (f := chN) (x := lat l (x + i)) e3 (run_at hi) (by rw [run_len]; omega)
      refine ⟨rfl, _, rfl, _, rfl, _, rfl, _, _, rfl, rfl, _, rfl, SX.S l, rfl, small12 l12, _, _, rfl, rfl, by rw [SX.S_len]; omega, ?_⟩
      refine ⟨_, _, _, rfl, rfl, Int.emod_nonneg _ (by rw [SX.S_len]; omega), ?_, ?_, hc, acc, a1, a2, same_push s3 nD, a3⟩
      · have z := Int.emod_lt_of_pos ((x : Int) + (0 + (i : Int))) (show (0 : Int) < ((SX.S l).length : Int) by rw [SX.S_len]; omega)
        rw [SX.S_len] at z ⊢
        omega
      · exact Int.emod_lt_of_pos _ (by rw [SX.S_len]; omega)
    · rintro H3 ⟨s3, e3⟩
      rw [List.take_of_length_le (by rw [run_len]; exact Nat.le_refl _)] at e3
      refine ⟨_, D, (run l x n).map fun c => SX.S [c], rfl, rfl, .inl (SqL.of (by rw [List.map_map]; exact e3)), ?_, ?_⟩
      · exact ones_size _ (by rw [run_len]; omega)
      · rw [join_ones]
        exact q H3 s3
end
end Lk
end
section
set_option maxRecDepth 100000
set_option maxHeartbeats 4000000
namespace Lk
open PySem PySem.Spec PyProof.Rows L2
def alB : List Nat := (List.range 26).map fun i => 97 + i
theorem alB_S : Str.ofString "abcdefghijklmnopqrstuvwxyz" = SX.S alB := by decide +kernel
theorem alB_nd : alB.Nodup := by decide +kernel
theorem alB_az : ∀ c ∈ alB, 97 ≤ c ∧ c ≤ 122 := by decide +kernel
theorem eraseB_map {α β : Type} (g : α → β) : ∀ (l : List α) (k : Nat), (l.map g).eraseIdx k = (l.eraseIdx k).map g
  | [], _ => rfl
  | x :: l, 0 => rfl
  | x :: l, k + 1 => congrArg (fun z => g x :: z) (eraseB_map g l k)
theorem eraseB_perm {α : Type} : ∀ (l : List α) (k : Nat) (h : k < l.length), (l[k] :: l.eraseIdx k).Perm l
  | x :: l, 0, _ => List.Perm.refl _
  | x :: l, k + 1, h => by
    have ih := eraseB_perm l k (by simpa using h)
    exact (List.Perm.swap x _ _).trans (ih.cons x)
def chr1 (c : Nat) : V := .str (SX.S [c])
def spLoopP : Sp := fun vs H Q _ => ∃ (a : Addr) (n : Int) (most : Nat), vs = [.ref a, .int (most : Int)] ∧ Urn H a n ∧ n ≤ 90000 ∧ 1 ≤ most ∧ most ≤ 12 ∧ ∀ l H', isLoop l = true → l.Nodup → l.length ≤ most → Urn H' a (n + 13) → SameBut a H H' → Q (.str (SX.S l)) H'
abbrev nLP : List Str := ["pail", "most", "left", "k"]
section
variable {P : Program} {w : World} {K : PySem.W.Frag} {mg : Str → Option Value} {base : Heap}
theorem sc_loopP : FnScope nLP ["pail", "most"] (defScope s_law_loop) := ⟨rfl, rfl, rfl, by decide +kernel, rfl, by decide +kernel, by decide +kernel⟩
theorem ok_loopP {f : Addr} {fd : FuncData} (F : Fun K "_law_loop" "_law_loop" s_law_loop f fd) (pick : C8.Cal P w K mg base 1 "_law_dip" spPull []) (ml : mg "len" = none) (mr : mg "range" = none) (mls : mg "list" = none) : FnOk P w K mg base CX0 2 f fd ["pail", "most"] spLoopP := by
  refine F.ok sc_loopP (fun vs H Q E h => ?_) (fun cdv A outer s H vs Q E hr h => ?_)
  · obtain ⟨a, n, most, rfl, _⟩ := h
    rfl
  · obtain ⟨a, n, most, rfl, hu, n9, h1, h12, q⟩ := h
    obtain ⟨_, _, _, hb, _⟩ := id hu
    have nd := sc_loopP.nd
    refine ⟨_, (pss_cons (by exact (ps_set (i := 2) nd rfl (Or.inr rfl) (pe_callTy (cr_listS rfl) (by rfl) mls (by decide +kernel) (pa_cons pe_str pa_nil))))
      (pss_one (by exact (ps_ret (pe_join pe_str (pe_lc (own := [("k", 3)]) (g := (gName 3)) (tt := tYes) rfl nd (pi_range1 (by rfl) mr (pa_cons (pe_op op_add pe_int (C8.pe_c pick hr (by decide) rfl (pa_cons (pv 0) (pa_cons (pv 1) pa_nil)))) pa_nil)) (blkOk_by (N := nLP) (sc := defScope s_law_loop) (by decide +kernel)) (fun _ _ _ _ _ => (pg_name (i := 3) nd rfl (Or.inl rfl))) (fun _ _ _ _ _ => pts_nil) (fun _ _ _ _ _ => (pe_bmK (K := K) rfl PySem.F.plainAttrs_list PySem.F.slot_list_pop PySem.F.type_list_pop mt_popAt (pv 2) (pa_cons (C8.pe_c pick hr (by decide) rfl (pa_cons (pv 0) (pa_cons (pe_callB (call_lenK (K := K) rfl) (by rfl) ml PySem.boot_len (pa_cons (pv 2) pa_nil)) pa_nil))) pa_nil))))))))), ?_⟩
    rw [alB_S]
    refine ⟨alB, rfl, by decide, fun L nL => ?_⟩
    have naL : a ≠ L := ne_of_none hb nL
    have bag1 : ∀ {H' : Hp} {c : Addr} {o : HO} {m : Int}, Urn H' a m → a ≠ c → Urn (upd H' c o) a m := fun h ne => by
      obtain ⟨u0, u1, u2, e, r⟩ := h
      exact ⟨u0, u1, u2, (upd_ne ne).trans e, r⟩
    refine ⟨⟨_, rfl⟩, _, rfl, _, rfl, a, _, n, rfl, bag1 hu naL, by omega, by omega, Int.le_trans (show ((most : Nat) : Int) ≤ 12 by omega) (by decide), fun m H3 m0 m12 bg3 sb3 => ⟨_, _, rfl, rfl, 1 + m, rfl, by omega, by omega, fun D nD => ?_⟩⟩
    have eL3 : H3 L = some (.lst (alB.map chr1)) := sb3 L _ naL.symm upd_same
    have s03 : SameBut a H H3 := fun c o nb e => sb3 c o nb (same_new nL c o e)
    have nDa : a ≠ D := by
      obtain ⟨_, _, _, e, _⟩ := bg3
      exact ne_of_none e nD
    have nLD : L ≠ D := ne_of_none eL3 nD
    have nDH : H D = none := by
      cases e : H D with
      | none => rfl
      | some o => rw [s03 D o nDa.symm e] at nD; cases nD
    obtain ⟨M, hM, M1, M12⟩ : ∃ M : Nat, (1 + m).toNat = M ∧ 1 ≤ M ∧ M ≤ most := ⟨_, rfl, by omega, by omega⟩
    rw [hM]
    refine lc_range (lo := 0) (n := M) (fun i H4 => ∃ os ls : List Nat, (os ++ ls).Perm alB ∧ os.length = i ∧ H4 L = some (.lst (ls.map chr1)) ∧ H4 D = some (.lst (os.map fun c => V.str (SX.S [c]))) ∧ Urn H4 a (n + 1 + (i : Int)) ∧ SameBut a H H4) ⟨[], alB, List.Perm.refl _, rfl, (upd_ne nLD).trans eL3, upd_same, by simpa using bag1 bg3 nDa, fun c o nb e => by rw [upd_ne (ne_of_none e nDH)]; exact s03 c o nb e⟩ ?_ ?_
    · rintro i H4 hi ⟨os, ls, perm, hos, eL, eD, bg, sb⟩
      have len26 : os.length + ls.length = 26 := by
        have z := perm.length_eq
        rw [List.length_append] at z
        exact z
      refine ⟨rfl, _, rfl, .inl ⟨rfl, _, SqL.of eL⟩, _, rfl, _, rfl, L, _, rfl, .inl (SqL.of eL), a, _, _, rfl, bg, by omega, by rw [List.length_map]; omega, ?_, fun v H5 v0 v1 bg5 sb5 => ?_⟩
      · rw [List.length_map]
        have z : (26 : Int) ≤ 10 ^ 40 := by decide
        omega
      rw [List.length_map] at v1
      have eL5 := sb5 L _ naL.symm eL
      have eD5 := sb5 D _ nDa.symm eD
      have hv : v.toNat < ls.length := by omega
      have hy : ls[v.toNat]? = some (ls[v.toNat]) := List.getElem?_eq_getElem hv
      refine ⟨L, ls.map chr1, v, v.toNat, chr1 (ls[v.toNat]), rfl, rfl, eL5, by omega, by omega, by rw [List.length_map]; exact seq_at v0 v1, by rw [List.getElem?_map, hy]; rfl, os.map (fun c => V.str (SX.S [c])), by rw [upd_ne nLD.symm]; exact eD5, ?_, os ++ [ls[v.toNat]], ls.eraseIdx v.toNat, ?_, ?_, ?_, ?_, ?_, ?_⟩
      · rw [List.length_map, hos]
        exact Nat.lt_of_lt_of_le (show i < 13 by omega) (by decide)
      · rw [List.append_assoc]
        refine List.Perm.trans (List.Perm.append_left os ?_) perm
        exact eraseB_perm ls v.toNat hv
      · rw [List.length_append, hos]
        rfl
      · rw [upd_ne nLD, upd_same]
        exact congrArg (fun z => some (HO.lst z)) (eraseB_map chr1 ls v.toNat)
      · rw [upd_same, List.map_append]
        rfl
      · have z := bag1 (o := .lst (os.map (fun c => V.str (SX.S [c])) ++ [chr1 ls[v.toNat]])) (bag1 (o := .lst ((ls.map chr1).eraseIdx v.toNat)) bg5 naL) nDa
        rw [show n + 1 + ((i + 1 : Nat) : Int) = n + 1 + (i : Int) + 1 by omega]
        exact z
      · intro c o nb e
        rw [upd_ne (ne_of_none e nDH), upd_ne (ne_of_none e nL)]
        exact sb5 c o nb (sb c o nb e)
    · rintro H4 ⟨os, ls, perm, hos, eL, eD, bg, sb⟩
      have az : Az os := fun c hc => alB_az c (perm.mem_iff.mp (List.mem_append_left _ hc))
      have nd' : os.Nodup := (List.nodup_append.mp (perm.symm.nodup alB_nd)).1
      refine ⟨_, D, os.map fun c => SX.S [c], rfl, rfl, .inl (SqL.of (by rw [List.map_map]; exact eD)), ?_, ?_⟩
      · have e : ((os.map fun c => SX.S [c]).map (·.length)).sum = os.length := by
          rw [List.map_map]
          clear eD hos perm az nd' eL
          induction os with
          | nil => rfl
          | cons c r ih =>
            rw [List.map_cons, List.sum_cons, ih, List.length_cons]
            show 1 + r.length = r.length + 1
            omega
        rw [e, List.length_map, show (Str.ofString "").length = 0 from by decide +kernel]
        omega
      · rw [join_ones]
        exact q os H4 (isLoop_of az (by omega) (by omega)) nd' (by omega) (by
          obtain ⟨u0, u1, u2, e, z1, z2, z3, z4⟩ := bg
          exact ⟨u0, u1, u2, e, z1, z2, z3, by omega⟩) sb
end
end Lk
end
section
set_option maxRecDepth 100000
set_option maxHeartbeats 2000000
/-! What is known at first: where of each place words to a length are, and some that don't stand in the loop. -/
namespace Lk
open PySem PySem.Spec PyProof.Rows L2
def rayAt (l ls : List Nat) (p : Nat) : List (List Nat) := (List.range (ls.getD p 0)).map fun k => run l p (k + 1)
def raysTo (l ls : List Nat) (n : Nat) : List (List Nat) := (List.range n).flatMap (rayAt l ls)
theorem raysTo_succ (l ls : List Nat) (n : Nat) : raysTo l ls (n + 1) = raysTo l ls n ++ rayAt l ls n := by
  unfold raysTo
  rw [List.range_succ, List.flatMap_append]
  simp
theorem rays_len {l ls : List Nat} {m : Nat} (h : ∀ x ∈ ls, x ≤ m) : ∀ n, (raysTo l ls n).length ≤ n * m
  | 0 => Nat.zero_le _
  | n + 1 => by
    rw [raysTo_succ, List.length_append, Nat.succ_mul]
    have z := rays_len (l := l) h n
    have y : (rayAt l ls n).length ≤ m := by
      unfold rayAt
      rw [List.length_map, List.length_range]
      by_cases c : n < ls.length
      · rw [getD_eq c]
        exact h _ (List.getElem_mem c)
      · rw [List.getD_eq_getElem?_getD, List.getElem?_eq_none (by omega)]
        exact Nat.zero_le _
    omega
theorem rays_mem {l ls w : List Nat} {n : Nat} : w ∈ raysTo l ls n ↔ ∃ p k, p < n ∧ k < ls.getD p 0 ∧ w = run l p (k + 1) := by
  unfold raysTo rayAt
  rw [List.mem_flatMap]
  constructor
  · rintro ⟨p, hp, h⟩
    rw [List.mem_map] at h
    obtain ⟨k, hk, rfl⟩ := h
    exact ⟨p, k, List.mem_range.mp hp, List.mem_range.mp hk, rfl⟩
  · rintro ⟨p, k, hp, hk, rfl⟩
    exact ⟨p, List.mem_range.mpr hp, List.mem_map.mpr ⟨k, List.mem_range.mpr hk, rfl⟩⟩
theorem run_head {l : List Nat} {p k : Nat} (hp : p < l.length) : (run l p (k + 1)).head? = some (l[p]) := by
  rw [List.head?_eq_getElem?, run_at (Nat.succ_pos k)]
  unfold lat
  rw [Nat.add_zero, Nat.mod_eq_of_lt hp, getD_eq hp]
theorem run_one {l : List Nat} (nd : l.Nodup) {p p' k k' : Nat} (hp : p < l.length) (hp' : p' < l.length) (e : run l p (k + 1) = run l p' (k' + 1)) : p = p' ∧ k = k' := by
  have h1 := congrArg List.length e
  rw [run_len, run_len] at h1
  have h2 := congrArg List.head? e
  rw [run_head hp, run_head hp'] at h2
  exact ⟨(List.getElem_inj nd).mp (Option.some.inj h2), by omega⟩
theorem rays_nodup {l ls : List Nat} (nd : l.Nodup) : ∀ {n : Nat}, n ≤ l.length → (raysTo l ls n).Nodup
  | 0, _ => List.nodup_nil
  | n + 1, h => by
    rw [raysTo_succ]
    refine List.nodup_append.mpr ⟨rays_nodup nd (by omega), ?_, fun x hx y hy e => ?_⟩
    · unfold rayAt
      refine List.pairwise_map.mpr (List.Pairwise.imp (fun {i j} hij e => ?_) List.pairwise_lt_range)
      have z := congrArg List.length e
      rw [run_len, run_len] at z
      omega
    · obtain ⟨p, k, hp, hk, rfl⟩ := rays_mem.mp hx
      unfold rayAt at hy
      obtain ⟨k', hk', rfl⟩ := List.mem_map.mp hy
      have z := (run_one nd (by omega) (by omega) e).1
      omega
/-- the words that are known at first -/
def fstW (l ls : List Nat) (c x k : Nat) : List (List Nat) := raysTo l ls l.length ++ [[c], [c, x]].take k
theorem st_mem {c x k : Nat} {w : List Nat} (h : w ∈ ([[c], [c, x]] : List (List Nat)).take k) : w = [c] ∨ w = [c, x] := by
  have z := List.mem_of_mem_take h
  simpa using z
theorem not_ray {l ls : List Nat} {c : Nat} (nc : c ∉ l) {w : List Nat} (hw : w ∈ raysTo l ls l.length) : w.head? ≠ some c := by
  obtain ⟨p, k, hp, hk, rfl⟩ := rays_mem.mp hw
  rw [run_head hp]
  intro e
  exact nc (Option.some.inj e ▸ List.getElem_mem hp)
section
variable {l ls : List Nat} {c x k : Nat}
theorem fst_nodup (nd : l.Nodup) (nc : c ∉ l) : (fstW l ls c x k).Nodup := by
  refine List.nodup_append.mpr ⟨rays_nodup nd (Nat.le_refl _), ?_, fun w hw v hv e => ?_⟩
  · have z : ([[c], [c, x]] : List (List Nat)).Nodup := by simp
    exact List.Sublist.nodup (List.take_sublist _ _) z
  · have z := not_ray nc hw
    rcases st_mem hv with y | y
    · rw [e, y] at z; exact z rfl
    · rw [e, y] at z; exact z rfl
theorem fst_word (az : Az l) (l0 : 0 < l.length) (h24 : ∀ n ∈ ls, n ≤ 24) (hls : ls.length = l.length) (hc : 97 ≤ c ∧ c ≤ 122) (hx : x ∈ l) : ∀ w ∈ fstW l ls c x k, isWord w = true ∧ w.length ≤ 24 := by
  intro w hw
  rcases List.mem_append.mp hw with h | h
  · obtain ⟨p, j, hp, hj, rfl⟩ := rays_mem.mp h
    have z : ls.getD p 0 ≤ 24 := by rw [getD_eq (by omega)]; exact h24 _ (List.getElem_mem _)
    exact ⟨isWord_iff.mpr ⟨az_run az l0 _ _, by rw [run_len]; omega⟩, by rw [run_len]; omega⟩
  · rcases st_mem h with rfl | rfl
    · exact ⟨isWord_iff.mpr ⟨fun y hy => by rw [List.mem_singleton.mp hy]; exact hc, by show 0 < 1; decide⟩, by show 1 ≤ 24; decide⟩
    · refine ⟨isWord_iff.mpr ⟨fun y hy => ?_, by show 0 < 2; decide⟩, by show 2 ≤ 24; decide⟩
      rcases List.mem_cons.mp hy with rfl | h2
      · exact hc
      · rw [List.mem_singleton.mp h2]; exact az _ hx
theorem fst_clos : ∀ w ∈ fstW l ls c x k, w.take (w.length - 1) ∈ ([] : List Nat) :: fstW l ls c x k := by
  intro w hw
  rcases List.mem_append.mp hw with h | h
  · obtain ⟨p, j, hp, hj, rfl⟩ := rays_mem.mp h
    rw [run_len, run_take (by omega), Nat.add_sub_cancel]
    cases j with
    | zero => exact List.mem_cons_self
    | succ j => exact List.mem_cons_of_mem _ (List.mem_append_left _ (rays_mem.mpr ⟨p, j, hp, by omega, rfl⟩))
  · rcases st_mem h with rfl | rfl
    · exact List.mem_cons_self
    · refine List.mem_cons_of_mem _ (List.mem_append_right _ ?_)
      show [c] ∈ _
      match k, h with
      | k + 1, _ => exact List.mem_cons_self
theorem fst_lns (nd : l.Nodup) (hls : ls.length = l.length) (nc : c ∉ l) {ws : List (List Nat)} (p : ws.Perm (fstW l ls c x k)) : LNs ws l ls := by
  refine ⟨hls, fun a ha => ⟨fun j h1 hj => ?_, fun h => ?_⟩⟩
  · refine p.mem_iff.mpr (List.mem_append_left _ (rays_mem.mpr ⟨a, j - 1, ha, by omega, ?_⟩))
    rw [Nat.sub_add_cancel h1]
  · rcases List.mem_append.mp (p.mem_iff.mp h) with y | y
    · obtain ⟨q, j, hq, hj, e⟩ := rays_mem.mp y
      obtain ⟨rfl, rfl⟩ := run_one nd ha hq e
      exact Nat.lt_irrefl _ hj
    · have z := run_head (k := ls.getD a 0) ha
      have nl : l[a] ≠ c := fun e => nc (e ▸ List.getElem_mem ha)
      rcases st_mem y with e | e
      · rw [e] at z; exact nl (Option.some.inj z).symm
      · rw [e] at z; exact nl (Option.some.inj z).symm
theorem fst_len (h24 : ∀ n ∈ ls, n ≤ 24) (l12 : l.length ≤ 12) : (fstW l ls c x k).length ≤ 290 := by
  have z := rays_len (l := l) h24 l.length
  have y : (([[c], [c, x]] : List (List Nat)).take k).length ≤ 2 := by rw [List.length_take]; exact Nat.min_le_right _ _
  unfold fstW
  rw [List.length_append]
  omega
end
end Lk
end
section
set_option maxRecDepth 100000
set_option maxHeartbeats 4000000
namespace Lk
open PySem PySem.Spec PyProof.Rows L2
def spRays : Sp := fun vs H Q _ => ∃ (l : List Nat) (L : Addr) (ls : List Nat), vs = [.str (SX.S l), .ref L] ∧ 0 < l.length ∧ l.length ≤ 12 ∧ H L = some (.lst (ls.map vN)) ∧ ls.length ≤ 12 ∧ (∀ x ∈ ls, x ≤ 100) ∧
  ∀ D H', H D = none → Same H H' → H' D = some (.lst ((raysTo l ls ls.length).map fun x => V.str (SX.S x))) → Q (.ref D) H'
abbrev nRy : List Str := ["loop", "lengths", "found", "place", "length", "k"]
section
variable {P : Program} {w : World} {K : PySem.W.Frag} {mg : Str → Option Value} {base : Heap}
theorem sc_rays : FnScope nRy ["loop", "lengths"] (defScope s_law_rays) := ⟨rfl, rfl, rfl, by decide +kernel, rfl, by decide +kernel, by decide +kernel⟩
theorem ok_rays {f : Addr} {fd : FuncData} (F : Fun K "_law_rays" "_law_rays" s_law_rays f fd) (lt : C8.Cal P w K mg base 1 "_law_letters" spLetL []) (mr : mg "range" = none) (me : mg "enumerate" = none) : FnOk P w K mg base CX0 2 f fd ["loop", "lengths"] spRays := by
  refine F.ok sc_rays (fun vs H Q E h => ?_) (fun cdv A outer s H vs Q E hr h => ?_)
  · obtain ⟨l, L, ls, rfl, _⟩ := h
    rfl
  · obtain ⟨l, L, ls, rfl, l0, l12, hL, n12, hls, q⟩ := h
    have nd := sc_rays.nd
    refine ⟨_, (pss_cons (by exact (ps_set (i := 2) nd rfl (Or.inl rfl) (pe_lstS pa_nil)))
      (pss_cons (by exact (ps_for PassesOwn.never rfl (pi_enum (by rfl) me (pa_cons (pv 1) pa_nil)) (pg_tup rfl (pgs_cons (pg_name (i := 3) nd rfl (Or.inr rfl)) (pgs_cons (pg_name (i := 4) nd rfl (Or.inl rfl)) pgs_nil))) (pss_one (by exact (ps_expr (pe_bm PySem.F.plainAttrs_list PySem.F.slot_list_extend PySem.F.type_list_extend mt_extend (pv 2) (pa_cons (pe_lc (own := [("k", 5)]) (g := (gName 5)) (tt := tYes) rfl nd (pi_range1 (by rfl) mr (pa_cons (pv 4) pa_nil)) (blkOk_by (N := nRy) (sc := defScope s_law_rays) (by decide +kernel)) (fun _ _ _ _ _ => (pg_name (i := 5) nd rfl (Or.inl rfl))) (fun _ _ _ _ _ => pts_nil) (fun _ _ _ _ _ => (C8.pe_c lt hr (by decide) rfl (pa_cons (pv 0) (pa_cons (pv 3) (pa_cons (pe_op op_add (pv 5) pe_int) pa_nil)))))) pa_nil)))))))
      (pss_one (by exact (ps_ret (pv 2)))))), ?_⟩
    refine ⟨by decide, fun D H1 nD s1 e1 => ?_⟩
    refine ⟨_, rfl, L, _, rfl, SqL.of (s1 _ _ hL), ?_⟩
    refine for_it walk_enum (fun i σ H2 => ∃ y3 y4 y5, σ = [some (.str (SX.S l)), some (.ref L), some (.ref D), y3, y4, y5] ∧ Same H H2 ∧ H2 D = some (.lst ((raysTo l ls i).map fun x => V.str (SX.S x)))) ⟨none, none, none, rfl, s1, e1⟩ (fun i σ H2 _ h => by
      obtain ⟨_, _, _, _, s2, _⟩ := h
      exact SqL.of (s2 _ _ hL)) ?_ ?_
    · rintro i x σ H2 H3 hi ⟨y3, y4, y5, rfl, s2, e2⟩ ⟨T, x1, x2, rfl, nT, rfl, hx1, hx2⟩
      rw [List.length_map] at hi
      dsimp only at hx1 hx2
      have hx1' : x1 = .int (i : Int) := (Option.some.inj hx1).symm
      rw [nat_at hi] at hx2
      cases hx2
      subst hx1'
      have sT : Same H (upd H2 T (.tup [.int (i : Int), .int ((ls.getD i 0 : Nat) : Int)])) := s2.trans (same_new nT)
      have eT : (upd H2 T (.tup [.int (i : Int), .int ((ls.getD i 0 : Nat) : Int)])) D = _ := (upd_ne (ne_of_none e2 nT)).trans e2
      have hm : ls.getD i 0 ≤ 100 := by rw [getD_eq hi]; exact hls _ (List.getElem_mem hi)
      refine ⟨T, [.int (i : Int), .int ((ls.getD i 0 : Nat) : Int)], rfl, SqT.of upd_same, rfl, _, _, rfl, _, _, rfl, rfl, ?_⟩
      refine ⟨_, rfl, .inl ⟨rfl, _, SqL.of eT⟩, _, rfl, ((ls.getD i 0 : Nat) : Int), rfl, by omega, by omega, fun D2 nD2 => ?_⟩
      rw [Int.toNat_natCast]
      refine lc_range (lo := 0) (n := ls.getD i 0) (fun j H3 => Same (upd H2 T (.tup [.int (i : Int), .int ((ls.getD i 0 : Nat) : Int)])) H3 ∧ H3 D2 = some (.lst (((rayAt l ls i).take j).map fun x => V.str (SX.S x)))) ⟨same_new nD2, upd_same⟩ ?_ ?_
      · rintro j H3 hj ⟨s3, e3⟩
        have hr1 : (rayAt l ls i)[j]? = some (run l i (j + 1)) := by
          unfold rayAt
          rw [List.getElem?_map, List.getElem?_range hj]
          rfl
        obtain ⟨acc, a1, a2, a3⟩ := snoc_map (f := fun x => V.str (SX.S x)) e3 hr1 (by unfold rayAt; rw [List.length_map, List.length_range]; omega)
        have e3' := e3
        refine ⟨rfl, _, rfl, _, rfl, _, rfl, _, _, rfl, rfl, l, i, j + 1, ?_, l0, l12, by omega, fun H4 s4 => ?_⟩
        · show [V.str (SX.S l), V.int (i : Int), V.int (0 + (j : Int) + 1)] = _
          rw [show (0 : Int) + (j : Int) + 1 = ((j + 1 : Nat) : Int) by push_cast; omega]
        obtain ⟨acc, a1, a2, a3⟩ := snoc_map (f := fun x => V.str (SX.S x)) (s4 _ _ e3) hr1 (by unfold rayAt; rw [List.length_map, List.length_range]; omega)
        exact ⟨acc, a1, a2, same_push (s3.trans s4) nD2, a3⟩
      · rintro H3 ⟨s3, e3⟩
        have rl : (rayAt l ls i).length = ls.getD i 0 := by unfold rayAt; rw [List.length_map, List.length_range]
        rw [List.take_of_length_le (by rw [rl]; exact Nat.le_refl _)] at e3
        have zl := rays_len (l := l) hls i
        have z2 : i * 100 ≤ 1200 := by omega
        have big : (100000 : Nat) < sizeLine := by decide
        refine ⟨D, D2, _, _, rfl, rfl, s3 _ _ eT, e3, by rw [List.length_map, List.length_map, rl]; omega, ?_⟩
        refine ⟨_, _, _, rfl, fun b o e => ?_, ?_⟩
        · rw [upd_ne (ne_of_none e nD)]
          exact s3 _ _ (sT b o e)
        · rw [raysTo_succ, List.map_append]
          exact upd_same
    · rintro σ H2 ⟨y3, y4, y5, rfl, s2, e2⟩
      rw [List.length_map] at e2
      exact ⟨_, rfl, q D H2 nD s2 e2⟩
end
end Lk
end
section
set_option maxRecDepth 100000
set_option maxHeartbeats 3200000
/-! set(a list of tuples of ints) of any length, few of them unlike. -/
namespace Lk
open PySem PySem.Spec PyProof.Rows L2
theorem few_of {α : Type} [DecidableEq α] : ∀ (l D : List α), l.Nodup → (∀ x ∈ l, x ∈ D) → l.length ≤ D.length
  | [], _, _, _ => Nat.zero_le _
  | x :: l, D, n, s => by
    obtain ⟨a, b⟩ := List.nodup_cons.mp n
    have m : x ∈ D := s x List.mem_cons_self
    have z := few_of l (D.erase x) b fun y hy => (List.mem_erase_of_ne (fun e => a (by rw [← e]; exact hy))).2 (s y (List.mem_cons_of_mem _ hy))
    rw [List.length_erase_of_mem m] at z
    have := List.length_pos_of_mem m
    rw [List.length_cons]
    omega
section
variable {P : Program} {w : World} {A : Around} {E : Value → Shared → Prop} {s : Shared}
abbrev Row := Addr × List Int
/-- the loop that puts in what a walk yields: the unlike ones are among D -/
theorem put_all {I S : Addr} {fp wr : List Addr} {G : Array GenState → Array GenState → Prop} {n : Nat} {Pv : Nat → Value → Prop} {St : Nat → Shared → Prop} {R : Result → Shared → Prop} (W : WalksS P w A.in1 I fp wr G n Pv St) (off : S ∉ fp)
    (ks : List Row) (en : n = ks.length) (D : List (List Int)) (fD : D.length < 62) (inD : ∀ p ∈ ks, p.2 ∈ D) (val : ∀ i v, Pv i v → ∃ p, ks[i]? = some p ∧ v = .ref p.1) (g0 : Heap) (tk : ∀ p ∈ ks, IsT P w g0 p.2 p.1) (noS : g0.get? S = none) (now : ∀ b ∈ wr, g0.get? b = none) (un : A.in1.units < cLine) :
    ∀ (k i : Nat) (s : Shared), n - i = k → i ≤ n → St i s → (∀ b o, g0.get? b = some o → s.heap.get? b = some o) → (∃ L es ep t, SetTR P w s.heap S L es ep t ∧ Got ks i L) →
      (∀ s' L es ep t, Moved (S :: wr) G s s' → SetTR P w s'.heap S L es ep t → Got ks n L → (∀ b o, g0.get? b = some o → s'.heap.get? b = some o) → R (.ok (.ret .none)) s') → codeAny (model P w) A (.builtin "set.update.loop" ⟨[.ref S, .ref I], []⟩) R s := by
  have offw : S ∉ wr := fun h => off (W.sub _ h)
  have wider : ∀ b ∈ wr, b ∈ S :: wr := fun b hb => List.mem_cons_of_mem _ hb
  have stays : ∀ {s s' : Shared}, Moved wr G s s' → (∀ b o, g0.get? b = some o → s.heap.get? b = some o) → ∀ b o, g0.get? b = some o → s'.heap.get? b = some o := fun m h b o e => m.heap b o (fun hb => by rw [now b hb] at e; cases e) (h b o e)
  intro k
  induction k with
  | zero =>
    rintro i s ek hi st old ⟨L, es, ep, t, ts, g⟩ done
    obtain rfl : i = n := by omega
    refine codeAny_builtin F.entry_set_update_loop ?_; rw [Around.under_plainId F.plain_set_update_loop _]
    show wpAny _ A.in1 (pyNext (.ref I) >>= _) _ _ s
    refine wpAny_bind (W.done s _ _ st fun s2 mv => ?_)
    show wpAny _ A.in1 (ret Value.none) _ _ s2
    have old2 := stays mv old
    exact wpAny_pure (done s2 L es ep t (mv.mono wider) (ts.keep (fun o e => mv.heap S o offw e) fun p hp => isT_keep (tk p (List.mem_of_mem_take (g.sub p hp))) old2) g old2)
  | succ k ih =>
    rintro i s ek hi st old ⟨L, es, ep, t, ts, g⟩ done
    have lt : i < n := by omega
    refine codeAny_builtin F.entry_set_update_loop ?_; rw [Around.under_plainId F.plain_set_update_loop _]
    show wpAny _ A.in1 (pyNext (.ref I) >>= _) _ _ s
    refine wpAny_bind (W.item i s _ _ lt st fun v s2 pv st2 mv => ?_)
    obtain ⟨p, hp, rfl⟩ := val i v pv
    have old2 := stays mv old
    have inks : ∀ q ∈ L, q ∈ ks := fun q hq => List.mem_of_mem_take (g.sub q hq)
    have ts2 : SetTR P w s2.heap S L es ep t := ts.keep (fun o e => mv.heap S o offw e) fun q hq => isT_keep (tk q (inks q hq)) old2
    have few : L.length ≤ D.length := by
      have z := few_of (L.map (·.2)) D ts2.nd fun x hx => by
        obtain ⟨q, hq, rfl⟩ := List.mem_map.mp hx
        exact inD q (inks q hq)
      rwa [List.length_map] at z
    have isx : IsT P w s2.heap p.2 p.1 := isT_keep (tk p (List.mem_of_getElem? hp)) old2
    show wpAny _ A.in1 (holding [Value.ref p.1] (setAdd S (.ref p.1)) >>= _) _ _ s2
    refine wpAny_bind (wpAny_holding ?_); unfold setAdd
    refine wpAny_holding (wpAny_bind (wpAny_pyHash_tuple un isx ?_))
    refine add_at (s := { s2 with toks := s2.toks + (p.2.length + 1) }) ts2 isx un (by omega) fun b h3 L3 es3 ep3 t3 sb ts3 c1 c2 => ?_
    have g3 : Got ks (i + 1) L3 := by
      rcases Classical.em (p.2 ∈ L.map (·.2)) with c | c
      · rw [c1 c]; exact g.same hp c
      · exact g.more hp (c2 c)
    have old3 : ∀ b o, g0.get? b = some o → h3.get? b = some o := fun b o e => (sb.2 b (fun z => by rw [z, noS] at e; cases e)).trans (old2 b o e)
    refine wpAny_pure ⟨plainId_quiet F.plain_set_update_loop _, ih (i + 1) _ (by omega) lt (W.frame _ s2 _ _ st2 (Nat.le_add_right _ _) fun b hb o e => ?_) old3 ⟨L3, es3, ep3, t3, ts3, g3⟩ fun s4 L4 es4 ep4 t4 mv4 ts4 g4 old4 => ?_⟩
    · rw [sb.2 b (fun h : b = S => off (by rw [← h]; exact hb))]; exact e
    · refine done s4 L4 es4 ep4 t4 (Moved.trans W.gtrans ((mv.mono wider).then_heap (Nat.le_add_right _ _) fun b o hb e => ?_) mv4) ts4 g4 old4
      rw [sb.2 b (fun h : b = S => hb (by rw [h]; exact List.mem_cons_self))]; exact e
def newSet (w : World) : Obj := { cls := .type "set", dict := none, data := .set #[] 0 (.fresh 0 0 (!w.params.followText "set-order")) }
set_option maxRecDepth 100000 in
theorem set_many {l : Addr} {items : Array Value} (ks : List Row) (D : List (List Int)) (fD : D.length < 62) (inD : ∀ p ∈ ks, p.2 ∈ D) {Q : Value → Shared → Prop} (calm : A.handled = none) (isl : s.heap.IsList l items) (its : items.toList = ks.map fun p => Value.ref p.1)
    (tk : ∀ p ∈ ks, IsT P w s.heap p.2 p.1) (un : A.units + 3 < cLine)
    (fin : ∀ (h' : Heap) (n : Nat) L es ep t, SetTR P w h' s.heap.objs.size L es ep t → Got ks ks.length L → (∀ b o, s.heap.get? b = some o → h'.get? b = some o) → Q (.ref s.heap.objs.size) { s with heap := h', toks := n }) :
    wpAny (model P w) A (call (.type "set") [.ref l]) Q E s := by
  have size : items.size = ks.length := by
    have q := congrArg List.length its
    rwa [Array.length_toList, List.length_map] at q
  obtain ⟨c0, tl0, mro0⟩ := F.called_set.mro
  have made0 := F.called_set.made
  have sub0 := F.called_set.sub
  have ty0 := F.called_set.notType
  have can0 := F.called_set.canCreate
  have tc0 := F.typeCall_set_1 (.ref l)
  have li0 := F.called_set.init.lookup
  have bi0 := F.called_set.init.bind (.ref s.heap.objs.size)
  refine wpAny_call (codeAny_of_tree ?_)
  show wpAny _ _ (callAny (.type "set") _) _ _ _
  refine wpAny_pure ⟨Code.quiet_builtin _ (by decide +kernel), codeAny_builtin F.entry_type_call ?_⟩
  rw [Around.under_plain (weight_type_call_type "set" [.ref l] []) rfl]
  repeat (any_goals (first | assumption | wp_step))
  refine codeAny_mono (code_set_led1 (.ref l) (E := E) (Q₁ := fun x s1 => x = .ref s.heap.objs.size ∧ s1 = { s with heap := s.heap.push (newSet w) }) ⟨rfl, rfl⟩) fun r s1 hr => ?_
  cases r with
  | error e => exact hr
  | ok fl =>
    cases fl with
    | ret x =>
      obtain ⟨rfl, rfl⟩ := hr
      have there : (s.heap.push (newSet w)).get? s.heap.objs.size = some (newSet w) := Heap.get?_push_size _ rfl
      have kind : Shared.TypeIs { s with heap := s.heap.push (newSet w) } (.ref s.heap.objs.size) "set" := ⟨_, there, rfl⟩
      repeat (any_goals (first | assumption | wp_step))
      refine codeAny_mono (codeAny_call_builtin (R := wants (fun r s2 => r = .none ∧ ∃ h' n L es ep t, s2 = { s with heap := h', toks := n } ∧ SetTR P w h' s.heap.objs.size L es ep t ∧ Got ks ks.length L ∧ (∀ b o, s.heap.get? b = some o → h'.get? b = some o)) E) F.called_set.init.plain F.entry_set_init (check_set_init_1 kind ?_)) fun r2 s2 hr2 => ?_
      · obtain ⟨ob, ho, hc, m, hd⟩ := isl
        obtain ⟨oc, od, odat, osl⟩ := ob
        simp only at hc hd
        subst hc; subst hd
        have ho2 : (s.heap.push (newSet w)).get? l = some { cls := .type "list", dict := od, data := .seq items m, slots := osl } := Heap.get?_push_of_some _ ho
        have isl2 : (s.heap.push (newSet w)).IsList l items := ⟨_, ho2, rfl, m, rfl⟩
        have s1_ := F.sub_list_set
        have s2_ := F.sub_list_frozenset
        have s3_ : (Value.type "list" == Value.type "dict") = false := by decide
        unfold Builtin.«set.__init__» noKeywords Builtin.Frozenset.updateFrom
        generalize eI : pyIter = PI
        wp_walk
        subst eI
        refine wpAny_pyIter_list isl2 (wpAny_bind (wpAny_runValue ?_))
        have lS : l < s.heap.objs.size := Heap.lt_size ho
        have calm3 : A.in1.in1.in1.handled = none := by simp [calm]
        have neI : l ≠ (s.heap.push (newSet w)).objs.size := by rw [Heap.size_push]; exact Nat.ne_of_lt (Nat.lt_succ_of_lt lS)
        have offS : s.heap.objs.size ∉ [(s.heap.push (newSet w)).objs.size, l] := by
          rw [Heap.size_push]; simp only [List.mem_cons, List.mem_singleton, List.not_mem_nil, or_false, not_or]
          exact ⟨Nat.ne_of_lt (Nat.lt_succ_self _), Nat.ne_of_gt lS⟩
        have val : ∀ (i : Nat) (v : Value), items[i]? = some v → ∃ p, ks[i]? = some p ∧ v = .ref p.1 := fun i v e => by
          have q : items.toList[i]? = some v := by rw [Array.getElem?_toList]; exact e
          rw [its, List.getElem?_map] at q
          obtain ⟨p, e1, e2⟩ := Option.map_eq_some_iff.mp q
          exact ⟨p, e1, e2.symm⟩
        have free : ∀ b, s.heap.objs.size ≤ b → s.heap.get? b = none := fun b hb => by
          cases q : s.heap.get? b with
          | none => rfl
          | some o => exact absurd (Nat.lt_of_lt_of_le (Heap.lt_size q) hb) (Nat.lt_irrefl _)
        refine put_all ((Walks.list calm3 _ l neI items).toS) offS ks size D fD inD val s.heap tk (free _ (Nat.le_refl _)) (fun b hb => free b (by rw [List.mem_singleton.mp hb, Heap.size_push]; exact Nat.le_succ _)) un (items.size - 0) 0 _ (by omega) (Nat.zero_le _)
          ⟨⟨_, Heap.get?_push_size _ rfl, rfl, rfl⟩, (isl2.push _)⟩ (fun b o e => Heap.get?_push_of_some _ (Heap.get?_push_of_some _ e)) ?first ?last
        case first => exact ⟨[], #[], 0, _, setTR_fresh (Heap.get?_push_of_some _ there), Got.zero ks⟩
        case last =>
          intro s3 L es ep t mv ts g old
          obtain ⟨h3, g2, d2, t2, o2⟩ := s3
          obtain rfl : g2 = s.gens := mv.gens
          obtain rfl : d2 = s.drawn := mv.drawn
          obtain rfl : o2 = s.os := mv.os
          show wpAny _ _ _ _ _ _
          refine wpAny_pure ?_
          show wpAny _ _ (ret Value.none) _ _ _
          rw [size] at g
          exact wpAny_pure ⟨rfl, h3, t2, L, es, ep, t, rfl, ts, g, old⟩
      · cases r2 with
        | error e => exact hr2
        | ok fl2 =>
          cases fl2 with
          | ret r =>
            obtain ⟨rfl, h3, n, L, es, ep, t, rfl, ts, g, old⟩ := hr2
            repeat (any_goals (first | assumption | wp_step))
            exact fin _ _ _ _ _ _ ts g old
          | _ => exact hr2.elim
    | _ => exact hr.elim
end
/-- set(xs), xs a list of tuples of ints, the unlike ones among D -/
def rSetMany (K : PySem.W.Frag) (P : Program) (w : World) : List V → Hp → VK → Prop := fun xs H Q => ∃ (l : Addr) (ks : List Row) (D : List (List Int)), xs = [V.ref l] ∧ SqL K H l (ks.map fun p => V.ref p.1) ∧ (∀ p ∈ ks, SqT K H p.1 (p.2.map V.int)) ∧ D.length < 62 ∧ (∀ p ∈ ks, p.2 ∈ D) ∧
  ∀ a L, H a = none → (∀ p ∈ L, p ∈ ks) → (∀ p ∈ ks, p.2 ∈ L.map (·.2)) → Q (.ref a) (upd H a (SetTO P w a L))
theorem cr_setMany {X : Cx} (hc : X.calm = true) (hu : X.A.units + 64 < cLine) : CallR X (.type "set") (rSetMany X.K X.prog X.w) := by
  intro pins s σ H xs us Q I r h
  obtain ⟨l, ks, D, rfl, sl, hk, fD, inD, q⟩ := h
  rw [Vals.ref1 r]
  obtain ⟨its, rv, pl, hz⟩ := I.list sl
  have new : H s.heap.objs.size = none := I.hok.fresh (Nat.le_refl _)
  refine set_many (P := X.prog) (w := X.w) ks D fD inD (I.ok.hd hc) pl.isList (by simpa using refs_of_vals rv) (fun p hp => I.isT (hk p hp)) (by omega) fun h' n L es ep t R g k => ?_
  exact ⟨.ref s.heap.objs.size, upd H s.heap.objs.size (SetTO X.prog X.w s.heap.objs.size L), I.laid (t' := n) k (Nat.le_refl _) (setTO_new R.t0), rfl, q _ L new (fun p hp => List.mem_of_mem_take (g.sub p hp)) fun p hp => g.all p (by rw [List.take_length]; exact hp)⟩
end Lk
end
section
set_option maxRecDepth 100000
set_option maxHeartbeats 4000000
namespace Lk
open PySem PySem.Spec PyProof.Rows L2
def spBegun : Sp := fun vs H Q _ => ∃ (a : Addr) (n : Int) (l : List Nat), vs = [.ref a, .str (SX.S l)] ∧ Urn H a n ∧ n ≤ 80000 ∧ isLoop l = true ∧ l.Nodup ∧ l.length ≤ 12 ∧
  ∀ r tl tw ls ws H', H' r = some (.tup [.ref tl, .ref tw]) → H' tl = some (.tup (ls.map vN)) → H' tw = some (.tup (tx ws)) → ls.length = l.length → (∀ x ∈ ls, x ≤ 24) → isKnown ws = true → ws.length ≤ 300 → (∀ x ∈ ws, x.length ≤ 24) → LNs ws l ls →
    Urn H' a (n + 50) → SameBut a H H' → Q (.ref r) H'
/-- the letters that the loop has not -/
def offL (l : List Nat) : List Nat := alB.filter fun c => decide (c ∉ l)
theorem two_filter {α : Type} (f : α → Bool) : ∀ xs : List α, (xs.filter f).length + (xs.filter fun x => !f x).length = xs.length
  | [] => rfl
  | x :: r => by
    have ih := two_filter f r
    rw [List.filter_cons, List.filter_cons, List.length_cons]
    cases h : f x
    · simp
      omega
    · simp
      omega
theorem off_len {l : List Nat} (h : l.length ≤ 12) : 14 ≤ (offL l).length := by
  have e := two_filter (fun c => decide (c ∉ l)) alB
  have z : (alB.filter fun c => !decide (c ∉ l)).length ≤ l.length := few_len (List.Pairwise.filter _ alB_nd) fun y hy => by
    have k := (List.mem_filter.mp hy).2
    by_cases c : y ∈ l
    · exact c
    · rw [decide_eq_true c] at k
      cases k
  have a26 : alB.length = 26 := by decide +kernel
  unfold offL
  omega
abbrev nBg : List Str := ["pail", "loop", "lengths", "some", "strange", "letter"]
section
variable {P : Program} {w : World} {K : PySem.W.Frag} {mg : Str → Option Value} {base : Heap}
theorem sc_begun : FnScope nBg ["pail", "loop"] (defScope s_law_begun) := ⟨rfl, rfl, rfl, by decide +kernel, rfl, by decide +kernel, by decide +kernel⟩
theorem ok_begun {f : Addr} {fd : FuncData} (F : Fun K "_law_begun" "_law_begun" s_law_begun f fd) (dip : C8.Cal P w K mg base 1 "_law_dip" spPull []) (ry : C8.Cal P w K mg base 2 "_law_rays" spRays []) (ms : mg "sorted" = none) (mt : mg "tuple" = none) : FnOk P w K mg base CX0 3 f fd ["pail", "loop"] spBegun := by
  refine F.ok sc_begun (fun vs H Q E h => ?_) (fun cdv A outer s H vs Q E hr h => ?_)
  · obtain ⟨a, n, l, rfl, _⟩ := h
    rfl
  · obtain ⟨a, n, l, rfl, hu, n8, hl, ndl, l12, q⟩ := h
    have nd := sc_begun.nd
    refine ⟨_, (pss_cons (by exact (ps_setLc (i := 2) (own := [("letter", 5)]) (g := (gName 5)) (by rfl) nd rfl rfl (sw_true rfl rfl rfl (by decide +kernel)) (pi_str (pv 1)) (blkOk_by (N := nBg) (sc := defScope s_law_begun) (by decide +kernel)) (fun _ _ _ _ _ => (pg_name (i := 5) nd rfl (Or.inl rfl))) (fun _ _ _ _ _ => pts_nil) (fun _ _ _ _ _ => (pe_ix (ix_listK (K := K) rfl) (pe_lstS (pa_cons pe_int (pa_cons (C8.pe_c dip hr (by decide) rfl (pa_cons (pv 0) (pa_cons pe_int pa_nil))) (pa_cons (C8.pe_c dip hr (by decide) rfl (pa_cons (pv 0) (pa_cons pe_int pa_nil))) pa_nil)))) (C8.pe_c dip hr (by decide) rfl (pa_cons (pv 0) (pa_cons pe_int pa_nil))) (fun _ _ => rfl)))))
      (pss_cons (by exact (ps_set (i := 3) nd rfl (Or.inl rfl) (C8.pe_c ry hr (by decide) rfl (pa_cons (pv 1) (pa_cons (pv 2) pa_nil)))))
      (pss_cons (by exact (ps_set (i := 4) nd rfl (Or.inl rfl) (pe_ix ix_list (pe_lc (own := [("letter", 5)]) (g := (gName 5)) rfl nd (pi_str pe_str) (blkOk_by (N := nBg) (sc := defScope s_law_begun) (by decide +kernel)) (fun _ _ _ _ _ => (pg_name (i := 5) nd rfl (Or.inl rfl))) (fun _ _ _ _ _ => pts_one (pt_cmpR op_notIn_str (pv 5) (pv 1) rfl)) (fun _ _ _ _ _ => (pv 5))) (C8.pe_c dip hr (by decide) rfl (pa_cons (pv 0) (pa_cons pe_int pa_nil))) (fun _ _ => rfl))))
      (pss_one (by exact (ps_ret (pe_tupS (pa_cons (pe_callTy call_tupS (by rfl) mt (by decide +kernel) (pa_cons (pv 2) pa_nil)) (pa_cons (pe_callTy call_tupS (by rfl) mt (by decide +kernel) (pa_cons (pe_callB cr_sortSA (by rfl) ms (by decide +kernel) (pa_cons (pe_op op_catS (pv 3) (pe_slice sl_list (pe_lstS (pa_cons (pv 4) (pa_cons (pe_op op_add_str (pv 4) (pe_item_str (pv 1) pe_int (fun _ _ => rfl))) pa_nil))) po_none (po_some (C8.pe_c dip hr (by decide) rfl (pa_cons (pv 0) (pa_cons pe_int pa_nil)))))) pa_nil)) pa_nil)) pa_nil))))))))), ?_⟩
    obtain ⟨az, l1, _⟩ := isLoop_len hl
    have big : (100 : Int) ≤ 10 ^ 40 := by decide
    obtain ⟨B40, hB⟩ : ∃ B : Int, B = 10 ^ 40 := ⟨_, rfl⟩
    rw [← hB] at big
    have put : ∀ {H' : Hp} {c : Addr} {o : HO} {m : Int}, Urn H' a m → a ≠ c → Urn (upd H' c o) a m := fun h ne => by
      obtain ⟨u0, u1, u2, e, r⟩ := h
      exact ⟨u0, u1, u2, (upd_ne ne).trans e, r⟩
    refine ⟨_, rfl, SX.S l, rfl, fun D nD => ?_⟩
    have naD : a ≠ D := hu.ne nD
    have cs : (SX.S l).cps.size = l.length := by show l.toArray.size = _; rw [List.size_toArray]
    refine lc_it walk_str (fun i H3 => ∃ ms : List Nat, ms.length = i ∧ (∀ x ∈ ms, x ≤ 24) ∧ H3 D = some (.lst (ms.map vN)) ∧ Urn H3 a (n + 3 * (i : Int)) ∧ SameBut a H H3) ⟨[], rfl, fun x hx => (by cases hx), upd_same, by simpa using put hu naD, Same.but (same_new nD)⟩ (fun _ _ _ _ => True.intro) ?_ ?_
    · rintro i x H3 H4 hi ⟨ms, hms, m24, e3, u3, sb3⟩ ⟨rfl, c, hc, rfl⟩
      rw [cs] at hi
      refine ⟨rfl, _, rfl, a, 3, _, rfl, u3, by omega, by decide, by rw [← hB]; omega, fun v1 G1 v10 v11 w1 sb1 => ?_⟩
      refine ⟨_, rfl, a, 25, _, rfl, w1, by omega, by decide, by rw [← hB]; omega, fun v2 G2 v20 v21 w2 sb2 => ⟨by show 3 ≤ sizeLine; decide, fun L G3 nL sL eL => ?_⟩⟩
      have naL : a ≠ L := w2.ne nL
      refine ⟨_, rfl, a, 3, _, rfl, w2.same sL, by omega, by decide, by rw [← hB]; omega, fun v3 G4 v30 v31 w4 sb4 => ?_⟩
      obtain ⟨m, hm, hat⟩ : ∃ m : Nat, m ≤ 24 ∧ atI [V.int 0, V.int v1, V.int v2] v3 = some (vN m) := by
        obtain ⟨k1, rfl⟩ := Int.eq_ofNat_of_zero_le v10
        obtain ⟨k2, rfl⟩ := Int.eq_ofNat_of_zero_le v20
        have c3 : v3 = 0 ∨ v3 = 1 ∨ v3 = 2 := by omega
        rcases c3 with rfl | rfl | rfl
        · exact ⟨0, by omega, rfl⟩
        · exact ⟨k1, by omega, rfl⟩
        · exact ⟨k2, by omega, rfl⟩
      have sbb : SameBut a _ G4 := sb1.trans (sb2.trans ((Same.but sL).trans sb4))
      have e4 := sbb D _ naD.symm e3
      refine ⟨L, _, v3, _, rfl, rfl, SqL.of (sb4 L _ naL.symm eL), hat, _, e4, by rw [List.length_map, hms]; exact Nat.lt_of_lt_of_le (show i < 13 by omega) (by decide), ms ++ [m], by rw [List.length_append, hms]; rfl, fun x hx => ?_, by rw [upd_same, List.map_append]; rfl, ?_, ?_⟩
      · rcases List.mem_append.mp hx with h | h
        · exact m24 x h
        · rw [List.mem_singleton.mp h]; exact hm
      · refine put (w4.le ?_) naD
        push_cast
        omega
      · intro b o nb e
        rw [upd_ne (ne_of_none e nD)]
        exact (sb3.trans sbb) b o nb e
    · rintro H3 ⟨ms, hms, m24, e3, u3, sb3⟩
      rw [cs] at hms u3
      have mle : ∀ x ∈ ms, x ≤ 100 := fun x hx => Nat.le_trans (m24 x hx) (by decide)
      refine ⟨_, rfl, _, rfl, l, D, ms, rfl, by omega, l12, e3, by omega, mle, fun R H4 nR s4 e4 => ?_⟩
      have naR : a ≠ R := u3.ne nR
      -- strange
      refine ⟨SX.S alB, by rw [alB_S], fun D2 nD2 => ?_⟩
      have naD2 : a ≠ D2 := (u3.same s4).ne nD2
      have al : (SX.S alB).cps.size = alB.length := by show alB.toArray.size = _; rw [List.size_toArray]
      refine lc_it walk_str (fun i H5 => Same H4 H5 ∧ H5 D2 = some (.lst (((alB.take i).filter fun c => decide (c ∉ l)).map chN))) ⟨same_new nD2, upd_same⟩ (fun _ _ _ _ => True.intro) ?_ ?_
      · rintro i x H5 H6 hi ⟨s5, e5⟩ ⟨rfl, c, hc, rfl⟩
        have hc' : alB[i]? = some c := str_at hc
        have tk : alB.take (i + 1) = alB.take i ++ [c] := by rw [List.take_add_one, hc']; rfl
        refine ⟨rfl, _, rfl, _, rfl, SX.S [c], _, rfl, rfl, _, rfl, ?_⟩
        have ein : (!(!(Builtin.Str.occurrences (SX.S l) (SX.S [c]) 0 (SX.S l).length 1).isEmpty)) = decide (c ∉ l) := by
          rw [SX.in_one]
          by_cases z : c ∈ l
          · rw [decide_eq_true z, decide_eq_false (fun k => k z)]; rfl
          · rw [decide_eq_false z, decide_eq_true z]; rfl
        show (if (!(!(Builtin.Str.occurrences (SX.S l) (SX.S [c]) 0 (SX.S l).length 1).isEmpty)) = true then _ else _)
        rw [ein, tk, List.filter_append]
        by_cases z : c ∉ l
        · rw [decide_eq_true z]
          refine iteT ⟨_, rfl, _, e5, ?_, same_push s5 nD2, ?_⟩
          · rw [List.length_map]
            have y : ((alB.take i).filter fun c => decide (c ∉ l)).length ≤ 26 := by
              refine Nat.le_trans (List.length_filter_le _ _) ?_
              rw [List.length_take]
              exact Nat.le_trans (Nat.min_le_right _ _) (by decide +kernel)
            exact Nat.lt_of_le_of_lt y (by decide)
          · rw [upd_same, List.map_append, List.filter_cons_of_pos (by exact decide_eq_true z)]
            rfl
        · rw [decide_eq_false z]
          refine iteF ⟨s5, ?_⟩
          rw [List.filter_cons_of_neg (by exact fun k => z (of_decide_eq_true k))]
          simpa using e5
      · rintro H5 ⟨s5, e5⟩
        rw [al, List.take_length] at e5
        have e5' : H5 D2 = some (.lst ((offL l).map chN)) := e5
        have u5 := (u3.same s4).same s5
        refine ⟨_, rfl, a, 14, _, rfl, u5, by omega, by decide, by rw [← hB]; omega, fun v H6 v0 v1 u6 sb6 => ?_⟩
        have z14 := off_len l12
        have hv : v.toNat < (offL l).length := by omega
        obtain ⟨c, hc⟩ : ∃ c, (offL l)[v.toNat]? = some c := ⟨_, List.getElem?_eq_getElem hv⟩
        have hcm := List.mem_filter.mp (List.mem_of_getElem? hc)
        have nc : c ∉ l := of_decide_eq_true hcm.2
        have ac := alB_az c hcm.1
        obtain ⟨k, rfl⟩ := Int.eq_ofNat_of_zero_le v0
        rw [Int.toNat_natCast] at hc
        refine ⟨D2, _, (k : Int), chN c, rfl, rfl, SqL.of (sb6 D2 _ naD2.symm e5'), atI_nat (by rw [List.getElem?_map, hc]; rfl), ?_⟩
        have sb06 : SameBut a H H6 := sb3.trans ((Same.but (s4.trans s5)).trans sb6)
        have eD6 : H6 D = _ := sb6 D _ naD.symm (s5 _ _ (s4 _ _ e3))
        have eR6 : H6 R = _ := sb6 R _ naR.symm (s5 _ _ e4)
        obtain ⟨x0, hx0⟩ : ∃ x0, l[0]? = some x0 := ⟨_, List.getElem?_eq_getElem l1⟩
        have hxs : (SX.S l).cps[(0 : Int).toNat]? = some x0 := by
          show (l.toArray)[0]? = some x0
          rw [List.getElem?_toArray]
          exact hx0
        have szc : (SX.S [c]).length + (⟨#[x0]⟩ : Str).length ≤ sizeLine := by show 1 + 1 ≤ sizeLine; decide
        refine ⟨_, rfl, D, _, rfl, .inl ⟨eD6, fun tl H7 nT s7 e7 => ?_⟩⟩
        refine ⟨_, rfl, _, rfl, _, rfl, _, rfl, _, 0, x0, rfl, rfl, by decide, by decide, by rw [SX.S_len]; exact_mod_cast l1, hxs, SX.S [c], _, rfl, rfl, szc, by show 2 ≤ sizeLine; decide, fun L2 H8 n8 s8 e8 => ?_⟩
        have u8 := (u6.same s7).same s8
        have naL2 : a ≠ L2 := (u6.same s7).ne n8
        refine ⟨_, rfl, a, 3, _, rfl, u8, by omega, by decide, by rw [← hB]; omega, fun v2 H9 v20 v21 u9 sb9 => ?_⟩
        obtain ⟨k2, rfl⟩ := Int.eq_ofNat_of_zero_le v20
        have e9 := sb9 L2 _ naL2.symm e8
        have eR9 := sb9 R _ naR.symm (s8 _ _ (s7 _ _ eR6))
        have eT9 := sb9 tl _ (fun z => by rw [z] at nT; obtain ⟨_, _, _, y, _⟩ := u6; rw [y] at nT; cases nT) (s8 _ _ e7)
        refine ⟨_, rfl, L2, _, rfl, SqL.of e9, fun p1 n1 => ?_⟩
        have nap : a ≠ p1 := u9.ne n1
        have ecut : cutV [V.str (SX.S [c]), V.str (SX.S [c] ++ ⟨#[x0]⟩)] Option.none (some ((k2 : Nat) : Int)) = ((([[c], [c, x0]] : List (List Nat)).take k2).map fun w => V.str (SX.S w)) := by
          rw [cut_to (by show k2 ≤ 2; omega), List.map_take]
          rfl
        have eq1 : (raysTo l ms ms.length).map (fun w => V.str (SX.S w)) ++ cutV [V.str (SX.S [c]), V.str (SX.S [c] ++ ⟨#[x0]⟩)] Option.none (some ((k2 : Nat) : Int)) = ((fstW l ms c x0 k2).map SX.S).map V.str := by
          rw [ecut, hms, ← List.map_append, List.map_map]
          rfl
        have flen : (fstW l ms c x0 k2).length ≤ 290 := fst_len m24 l12
        refine ⟨R, p1, _, _, rfl, rfl, (upd_ne (ne_of_none eR9 n1)).trans eR9, upd_same, ?_, fun p2 H10 n10 s10 e10 => ?_⟩
        · rw [← List.length_append]
          refine Nat.le_trans (Nat.le_of_eq (congrArg List.length eq1)) ?_
          rw [List.length_map, List.length_map]
          exact Nat.le_trans flen (by decide)
        refine ⟨p2, (fstW l ms c x0 k2).map SX.S, rfl, SqL.of (e10.trans (congrArg (fun z => some (HO.lst z)) eq1)), by rw [List.length_map]; omega, fun ys p3 hperm hsort n3 => ?_⟩
        obtain ⟨us, rfl, hus⟩ : ∃ us : List (List Nat), ys = us.map SX.S ∧ us.Perm (fstW l ms c x0 k2) := by
          refine ⟨ys.map fun y => y.cps.toList, ?_, ?_⟩
          · rw [List.map_map]
            exact (List.map_id' ys).symm.trans (List.map_congr_left fun y _ => (SX.S_tl y).symm)
          · have z := hperm.map fun y : Str => y.cps.toList
            rw [List.map_map] at z
            refine z.trans ?_
            rw [show ((fun y : Str => y.cps.toList) ∘ SX.S) = id from rfl, List.map_id]
        refine ⟨p3, _, rfl, .inl ⟨upd_same, fun tw H12 n12 s12 e12 => ⟨by show 2 ≤ sizeLine; decide, fun r H13 n13 s13 e13 => ?_⟩⟩⟩
        have sE : Same H9 H13 := (same_new n1).trans (s10.trans ((same_new n3).trans (s12.trans s13)))
        have x0l : x0 ∈ l := List.mem_of_getElem? hx0
        have fw := fst_word (k := k2) az l1 m24 hms ac x0l
        refine q r tl tw ms us H13 e13 (sE _ _ eT9) (s13 _ _ (by rw [e12, tx_str])) hms m24 (isKnown_of hus hsort (fst_nodup ndl nc) (fun x hx => (fw x hx).1) fst_clos) (by rw [hus.length_eq]; omega) (fun x hx => (fw x (hus.mem_iff.mp hx)).2) (fst_lns ndl hms nc hus) ((u9.same sE).le ?_) ?_
        · omega
        · exact sb06.trans ((Same.but (s7.trans s8)).trans (sb9.trans (Same.but sE)))
end
end Lk
end
section
set_option maxRecDepth 100000
set_option maxHeartbeats 2000000
/-! Alike through and through: data that are equal. -/
namespace Lk
open PySem PySem.Spec PyProof.Rows L2
def isSc : PyData → Bool
  | .none => true
  | .bool _ => true
  | .int _ => true
  | .str _ => true
  | _ => false
inductive Up (Pd : PyData → Prop) : PyData → Prop
  | sc (d : PyData) (h : isSc d = true) : Up Pd d
  | lst (ds : List PyData) (h : ∀ x ∈ ds, Pd x) (l : ds.length ≤ 100000) : Up Pd (.list ds)
  | tup (ds : List PyData) (h : ∀ x ∈ ds, Pd x) (l : ds.length ≤ 100000) : Up Pd (.tuple ds)
def Okd : Nat → PyData → Prop
  | 0 => fun _ => False
  | n + 1 => Up (Okd n)
def spSameP (Pd : PyData → Prop) : Sp := fun vs H Q _ => ∃ v u d, vs = [v, u] ∧ Th H v d ∧ Th H u d ∧ Pd d ∧ ∀ H', Same H H' → Q (.bl true) H'
theorem ix_eithK {X : Cx} {K : PySem.W.Frag} (h : X.K = K) : IxR X (fun x y H Q => rIxT K x y H Q ∨ rIxL K x y H Q) := by
  intro value slice pins s σ H x y v u Q I rx ry q e
  rcases q with q | q
  · exact ix_tupK h value slice pins s σ H x y v u Q I rx ry q e
  · exact ix_listK h value slice pins s σ H x y v u Q I rx ry q e
theorem kit_any {K : PySem.W.Frag} (d : PyData) : PySem.W.kitAny K (.type (tyN d)) [.type "list", .type "tuple"] = some (isL d || isT d) := by
  unfold PySem.W.kitAny
  rw [kit_list]
  cases isL d
  · unfold PySem.W.kitAny
    rw [kit_tuple]
    cases isT d <;> rfl
  · rfl
theorem ThAll.at {H : Hp} : ∀ {vs : List V} {ds : List PyData}, ThAll H vs ds → ∀ {i : Nat}, i < ds.length → ∃ v d, vs[i]? = some v ∧ ds[i]? = some d ∧ Th H v d
  | _, _, .nil, i, h => absurd h (Nat.not_lt_zero i)
  | _, _, .cons h m, 0, _ => ⟨_, _, rfl, rfl, h⟩
  | _, _, .cons h m, i + 1, hi => m.at (Nat.lt_of_succ_lt_succ hi)
end Lk
end
section
set_option maxRecDepth 100000
set_option maxHeartbeats 4000000
namespace Lk
open PySem PySem.Spec PyProof.Rows L2
abbrev nSa : List Str := ["found", "due", "k"]
section
variable {P : Program} {w : World} {K : PySem.W.Frag} {mg : Str → Option Value} {base : Heap}
theorem sc_same : FnScope nSa ["found", "due"] (defScope s_law_same) := ⟨rfl, rfl, rfl, by decide +kernel, rfl, by decide +kernel, by decide +kernel⟩
theorem ok_same0 {f : Addr} {fd : FuncData} (F : Fun K "_law_same" "_law_same" s_law_same f fd) : FnOk P w K mg base CX0 1 f fd ["found", "due"] (spSameP (Okd 0)) := by
  refine F.ok sc_same (fun vs H Q E h => ?_) (fun cdv A outer s H vs Q E hr h => ?_)
  · obtain ⟨v, u, d, rfl, _⟩ := h
    rfl
  · obtain ⟨v, u, d, rfl, _, _, h, _⟩ := h
    exact h.elim
theorem ok_same {f : Addr} {fd : FuncData} {n : Nat} (F : Fun K "_law_same" "_law_same" s_law_same f fd) (sa : C8.Cal P w K mg base (n + 1) "_law_same" (spSameP (Okd n)) []) (mi : mg "isinstance" = none) (mls : mg "list" = none) (mt : mg "tuple" = none) (mb : mg "bool" = none) (ml : mg "len" = none) (mr : mg "range" = none) (ma : mg "all" = none) : FnOk P w K mg base CX0 (n + 2) f fd ["found", "due"] (spSameP (Okd (n + 1))) := by
  refine F.ok sc_same (fun vs H Q E h => ?_) (fun cdv A outer s H vs Q E hr h => ?_)
  · obtain ⟨v, u, d, rfl, _⟩ := h
    rfl
  · obtain ⟨v, u, d, rfl, hv, hu, hd, q⟩ := h
    have nd := sc_same.nd
    refine ⟨_, (pss_cons (by exact (ps_if (pt_val (pe_callB call_isiT (by rfl) mi (by decide +kernel) (pa_cons (pv 1) (pa_cons (pe_tupS (pa_cons (pe_bltn (v := .ty "list") (by rfl) mls (by decide +kernel) rfl) (pa_cons (pe_bltn (v := .ty "tuple") (by rfl) mt (by decide +kernel) rfl) pa_nil))) pa_nil)))) (pss_cons (by exact (ps_if (PW.pt (pw_or (pt_cmpR op_ne (pe_callB call_isi (by rfl) mi (by decide +kernel) (pa_cons (pv 0) (pa_cons (pe_bltn (v := .ty "list") (by rfl) mls (by decide +kernel) rfl) pa_nil))) (pe_callB call_isi (by rfl) mi (by decide +kernel) (pa_cons (pv 1) (pa_cons (pe_bltn (v := .ty "list") (by rfl) mls (by decide +kernel) rfl) pa_nil))) (nomark _)) (pw_or1 (pt_cmpR op_ne (pe_callB call_isi (by rfl) mi (by decide +kernel) (pa_cons (pv 0) (pa_cons (pe_bltn (v := .ty "tuple") (by rfl) mt (by decide +kernel) rfl) pa_nil))) (pe_callB call_isi (by rfl) mi (by decide +kernel) (pa_cons (pv 1) (pa_cons (pe_bltn (v := .ty "tuple") (by rfl) mt (by decide +kernel) rfl) pa_nil))) (nomark _))))) (pss_one (by exact (ps_ret pe_bl))) pss_nil))
      (pss_one (by exact (ps_ret (pe_and (pe_cmpR op_eq (pe_callB call_len_seq (by rfl) ml PySem.boot_len (pa_cons (pv 0) pa_nil)) (pe_callB call_len_seq (by rfl) ml PySem.boot_len (pa_cons (pv 1) pa_nil)) (nomark _)) (pe_one (pe_callB (cr_all rfl) (by rfl) ma (by decide +kernel) (pa_cons (pe_lc (own := [("k", 2)]) (g := (gName 2)) (tt := tYes) rfl nd (pi_range1 (by rfl) mr (pa_cons (pe_callB call_len_seq (by rfl) ml PySem.boot_len (pa_cons (pv 1) pa_nil)) pa_nil)) (blkOk_by (N := nSa) (sc := defScope s_law_same) (by decide +kernel)) (fun _ _ _ _ _ => (pg_name (i := 2) nd rfl (Or.inl rfl))) (fun _ _ _ _ _ => pts_nil) (fun _ _ _ _ _ => (C8.pe_c sa hr (Nat.le_refl _) rfl (pa_cons (pe_ix (ix_eithK (K := K) rfl) (pv 0) (pv 2) (fun _ _ => rfl)) (pa_cons (pe_ix (ix_eithK (K := K) rfl) (pv 1) (pv 2) (fun _ _ => rfl)) pa_nil))))) pa_nil)))))))) pss_nil))
      (pss_one (by exact (ps_ret (pe_and (pe_cmpR op_eq (pe_callB call_isi (by rfl) mi (by decide +kernel) (pa_cons (pv 0) (pa_cons (pe_bltn (v := .ty "bool") (by rfl) mb (by decide +kernel) rfl) pa_nil))) (pe_callB call_isi (by rfl) mi (by decide +kernel) (pa_cons (pv 1) (pa_cons (pe_bltn (v := .ty "bool") (by rfl) mb (by decide +kernel) rfl) pa_nil))) (nomark _)) (pe_one (pe_cmpR op_eq (pv 0) (pv 1) (nomark _)))))))), ?_⟩
    refine ⟨_, rfl, (by show 2 ≤ sizeLine; decide), fun T H1 nT s1 e1 => ?_⟩
    refine ⟨u, T, _, _, _, isL d || isT d, rfl, e1, .cons (.ty _) (.cons (.ty _) .nil), (hu.same s1).ty, kit_any d, _, rfl, ?_⟩
    have hv1 := hv.same s1
    have hu1 := hu.same s1
    cases hd with
    | sc _ h =>
      have hvu : v = u := by cases hv <;> cases hu <;> first | rfl | cases h
      subst hvu
      have hs : scal v v = true := by cases hv <;> first | rfl | cases h
      have e : (isL d || isT d) = false := by cases d <;> first | rfl | cases h
      dsimp only
      rw [e]
      refine iteF ?_
      refine ⟨_, rfl, v, .ty "bool", _, _, isB d, rfl, .ty _, hv1.ty, kit_bool d, _, rfl, v, .ty "bool", _, _, isB d, rfl, .ty _, hv1.ty, kit_bool d, rfl, _, rfl, ?_⟩
      rw [decide_eq_true rfl]
      refine iteT ⟨_, rfl, _, rfl, hs, ?_⟩
      rw [decide_eq_true rfl]
      exact q H1 s1
    | lst ds h l =>
      cases hv1 with
      | lst ea ma =>
      cases hu1 with
      | lst eb mb =>
      rename_i a xs b ys
      have hvL := (Th.lst ea ma).ty (K := K)
      have huL := (Th.lst eb mb).ty (K := K)
      refine iteT ?_
      refine ⟨_, rfl, .ref a, .ty "list", _, _, true, rfl, .ty _, hvL, kit_list _, _, rfl, .ref b, .ty "list", _, _, true, rfl, .ty _, huL, kit_list _, rfl, _, rfl, ?_⟩
      rw [decide_eq_true rfl]
      refine iteF ⟨_, rfl, .ref a, .ty "tuple", _, _, false, rfl, .ty _, hvL, kit_tuple _, _, rfl, .ref b, .ty "tuple", _, _, false, rfl, .ty _, huL, kit_tuple _, rfl, _, rfl, ?_⟩
      dsimp only
      rw [decide_eq_true rfl]
      refine iteF ?_
      have lx := ma.length
      have ly := mb.length
      refine ⟨_, rfl, a, xs, rfl, .inl (SqL.of ea), _, rfl, b, ys, rfl, .inl (SqL.of eb), rfl, _, rfl, ?_⟩
      rw [decide_eq_true (congrArg (fun z : Nat => V.int (z : Int)) (lx.trans ly.symm))]
      refine iteT ⟨_, rfl, b, ys, rfl, .inl (SqL.of eb), ((ys.length : Nat) : Int), rfl, by omega, by omega, fun D nD => ?_⟩
      rw [Int.toNat_natCast]
      refine lc_range (lo := 0) (n := ys.length) (fun i H3 => Same H1 H3 ∧ H3 D = some (.lst ((List.replicate i true).map V.bl))) ⟨same_new nD, upd_same⟩ ?_ ?_
      · rintro i H3 hi ⟨s3, e3⟩
        obtain ⟨x, dx, hx, hdx, tx⟩ := ma.at (i := i) (by omega)
        obtain ⟨y, dy, hy, hdy, ty⟩ := mb.at (i := i) (by omega)
        rw [hdx] at hdy
        cases hdy
        refine ⟨rfl, _, rfl, _, rfl, .inr ⟨a, xs, _, x, rfl, rfl, SqL.of (s3 _ _ ea), by rw [Int.zero_add]; exact atI_nat hx, _, rfl, _, rfl, .inr ⟨b, ys, _, y, rfl, rfl, SqL.of (s3 _ _ eb), by rw [Int.zero_add]; exact atI_nat hy, x, y, dx, rfl, tx.same s3, ty.same s3, h dx (List.mem_of_getElem? hdx), fun H4 s4 => ?_⟩⟩⟩
        have big : (100000 : Nat) < sizeLine := by decide
        refine ⟨_, s4 _ _ e3, by rw [List.length_map, List.length_replicate]; omega, same_push (s3.trans s4) nD, ?_⟩
        rw [upd_same, List.replicate_succ', List.map_append]
        rfl
      · rintro H3 ⟨s3, e3⟩
        refine ⟨D, List.replicate ys.length true, rfl, SqL.of e3, ?_⟩
        rw [show (List.replicate ys.length true).all id = true by simp]
        exact q H3 (s1.trans s3)
    | tup ds h l =>
      cases hv1 with
      | tup ea ma =>
      cases hu1 with
      | tup eb mb =>
      rename_i a xs b ys
      have hvL := (Th.tup ea ma).ty (K := K)
      have huL := (Th.tup eb mb).ty (K := K)
      refine iteT ?_
      refine ⟨_, rfl, .ref a, .ty "list", _, _, false, rfl, .ty _, hvL, kit_list _, _, rfl, .ref b, .ty "list", _, _, false, rfl, .ty _, huL, kit_list _, rfl, _, rfl, ?_⟩
      rw [decide_eq_true rfl]
      refine iteF ⟨_, rfl, .ref a, .ty "tuple", _, _, true, rfl, .ty _, hvL, kit_tuple _, _, rfl, .ref b, .ty "tuple", _, _, true, rfl, .ty _, huL, kit_tuple _, rfl, _, rfl, ?_⟩
      dsimp only
      rw [decide_eq_true rfl]
      refine iteF ?_
      have lx := ma.length
      have ly := mb.length
      refine ⟨_, rfl, a, xs, rfl, .inr (SqT.of ea), _, rfl, b, ys, rfl, .inr (SqT.of eb), rfl, _, rfl, ?_⟩
      rw [decide_eq_true (congrArg (fun z : Nat => V.int (z : Int)) (lx.trans ly.symm))]
      refine iteT ⟨_, rfl, b, ys, rfl, .inr (SqT.of eb), ((ys.length : Nat) : Int), rfl, by omega, by omega, fun D nD => ?_⟩
      rw [Int.toNat_natCast]
      refine lc_range (lo := 0) (n := ys.length) (fun i H3 => Same H1 H3 ∧ H3 D = some (.lst ((List.replicate i true).map V.bl))) ⟨same_new nD, upd_same⟩ ?_ ?_
      · rintro i H3 hi ⟨s3, e3⟩
        obtain ⟨x, dx, hx, hdx, tx⟩ := ma.at (i := i) (by omega)
        obtain ⟨y, dy, hy, hdy, ty⟩ := mb.at (i := i) (by omega)
        rw [hdx] at hdy
        cases hdy
        refine ⟨rfl, _, rfl, _, rfl, .inl ⟨a, xs, _, x, rfl, rfl, SqT.of (s3 _ _ ea), by rw [Int.zero_add]; exact atI_nat hx, _, rfl, _, rfl, .inl ⟨b, ys, _, y, rfl, rfl, SqT.of (s3 _ _ eb), by rw [Int.zero_add]; exact atI_nat hy, x, y, dx, rfl, tx.same s3, ty.same s3, h dx (List.mem_of_getElem? hdx), fun H4 s4 => ?_⟩⟩⟩
        have big : (100000 : Nat) < sizeLine := by decide
        refine ⟨_, s4 _ _ e3, by rw [List.length_map, List.length_replicate]; omega, same_push (s3.trans s4) nD, ?_⟩
        rw [upd_same, List.replicate_succ', List.map_append]
        rfl
      · rintro H3 ⟨s3, e3⟩
        refine ⟨D, List.replicate ys.length true, rfl, SqL.of e3, ?_⟩
        rw [show (List.replicate ys.length true).all id = true by simp]
        exact q H3 (s1.trans s3)
end
end Lk
end
section
set_option maxRecDepth 100000
set_option maxHeartbeats 2000000
/-! A def of the law's own, called in the suite on the error. -/
namespace Lk
open PySem PySem.Spec PyProof.Rows L2 L2H HotX
/-- x tells of an error of the class q.1 what told q.2 says -/
structure CalE (P : Program) (w : World) (K : PySem.W.Frag) (mg : Str → Option Value) (base : Heap) (k : Nat) (x y : Str) (told : Str → VK → Hp → Prop) (ws : List (Addr × Str)) : Prop where
  ex : ∃ (f : Addr) (fd : FuncData), (∀ q ∈ ws, FnE P w K mg base k f fd y q.1 (told q.2)) ∧ mg x = some (.ref f) ∧ PySem.W.keepIn K (.ref f) = true ∧ Binds K fd [y] []
section
variable {X : Cx} {k j i : Nat} {x y n : Str} {told : Str → VK → Hp → Prop} {ws : List (Addr × Str)} {p q pos : Pos} {a : Addr} {oe : Obj} {cls : Value} {d : Option Addr}
theorem pe_cE (c : CalE X.prog X.w X.K X.mg X.base k x y told ws) (hr : RoomH j X.A) (hk : k ≤ j) (hz : L2N.Zn cls d oe) (hf : ∃ vs, oe.data = .fields vs) (hh : X.A.handled = some (.ref a)) (hp : (a, oe) ∈ X.pn) (hg : Gl X x)
    (hN : X.N[i]? = some n) (hv : Vis X.env.scope n) (hdb : (x == ("__debug__" : Str)) = false := by decide) (hd2 : (n == ("__debug__" : Str)) = false := by decide) (hcd : (n == ("__classdict__" : Str)) = false := by decide)
    (he : starEach [Expr.Name n q] X.env = (false, eval (.Name n q) X.env) :: starEach [] X.env := by rfl) (hpl : (backTo pos (starEach [] X.env)).any (·.1) = false := by rfl) :
    PE X (.Call (.Name x p) [.Name n q] [] pos) (fun σ H Q => ∃ D nm, cls = .ref D ∧ d = none ∧ (D, nm) ∈ ws ∧ σ[i]? = some (some (.ref a)) ∧ told nm Q H) := by
  obtain ⟨f, fd, F, hm, hkp, hb⟩ := c.ex
  refine ⟨fun pins s σ H Q I ⟨D, nm, e1, e2, hmem, hs, ht⟩ => ?_⟩
  subst e1 e2
  obtain ⟨vs, ev⟩ := hf
  have hot : Hot1 X.A (a, oe) := ⟨hh, vs, ev, hz.2.2 vs ev⟩
  exact (pe_callE (F (D, nm) hmem) (hr.mono hk) hot hp hz.zc hg hm hkp hb hN hv hdb hd2 hcd he hpl).run pins s σ H Q I ⟨hs, ht⟩
end
/-- == and != of lists within a comprehension -/
theorem op_neDK {X : Cx} {K : PySem.W.Frag} (h : X.K = K) (hu : X.A.units + 64 < cLine) : OpR X (compareOp .NotEq) (rNeD K) := by
  subst h
  exact op_neD hu
theorem op_eqDK {X : Cx} {K : PySem.W.Frag} (h : X.K = K) (hu : X.A.units + 64 < cLine) : OpR X (compareOp .Eq) (rEqD K) := by
  subst h
  exact op_eqD hu
/-- nothing is let through -/
theorem takes_no {X : Cx} : L2N.Takes X fun _ _ _ _ => False := fun _ _ ⟨_, _, _, _, _, _, _, _, _, _, _, _, _, _, _, _, w⟩ => w.elim
end Lk
end
section
set_option maxRecDepth 100000
set_option maxHeartbeats 2000000
/-! Lists of one word: those of a list that are told otherwise; == of lists of such. -/
namespace Lk
open PySem PySem.Spec PyProof.Rows L2
/-- a list of the one word -/
def toldW (nm : Str) (Q : VK) (H : Hp) : Prop := ∀ p H', Same H H' → H' p = some (.lst [.str nm]) → Q (.ref p) H'
theorem shaped_w {w : Str} (hs : PyData.strOk w = true) : SeqAt.shaped (.list [.str w]) = true := by
  unfold SeqAt.shaped
  simp [PyData.canLay0, PyData.canLayAll0, PyData.depth, PyData.depthAll, hs]
theorem eqv_w (w : Str) : PyData.eqv (.list [.str w]) (.list [.str w]) = true := by simp [PyData.eqv, PyData.eqvAll]
theorem dp_w {K : PySem.W.Frag} {H : Hp} {p : Addr} {w : Str} (e : H p = some (.lst [.str w])) : Dp K H (.ref p) (.list [.str w]) := .lst (SqL.of e) (.cons (.str _) .nil)
/-- call != [w] -/
theorem ne_w {K : PySem.W.Frag} {σ : L2.St} {H : Hp} {w : Str} {call : TE} {Q : Bool → Hp → Prop} (hs : PyData.strOk w = true) (h : ∀ Q1, toldW w Q1 H → call σ H Q1) (q : ∀ H1, Same H H1 → Q false H1) :
    tTest (tOp (rNeD K) call (tLstS (tCons (tC (.str w)) tNil))) σ H Q := by
  refine h _ fun p H1 s1 e1 => ⟨(by show 1 ≤ sizeLine; decide), fun p2 H2 n2 s2 e2 => ⟨_, _, dp_w (s2 _ _ e1), dp_w e2, shaped_w hs, shaped_w hs, _, rfl, ?_⟩⟩
  rw [eqv_w]
  exact q H2 (Same.trans s1 s2)
/-- [x for x in l if call != [w]] != [] -/
theorem sift_none {K K1 : PySem.W.Frag} {σ : L2.St} {H : Hp} {Q : Bool → Hp → Prop} {S : Addr} {ws : List V} {i j : Nat} {call : TE} {w : Str} (e : σ[j]? = some (some (.ref S))) (eS : H S = some (.lst ws)) (hw : ∀ x, wipe ((wipe σ [i]).set i (some x)) [i] = wipe σ [i])
    (hs : PyData.strOk w = true) (h : ∀ (k : Nat) (x : V) (H1 : Hp) (Q1 : VK), ws[k]? = some x → Same H H1 → toldW w Q1 H1 → call ((wipe σ [i]).set i (some x)) H1 Q1) (q : ∀ H1, Same H H1 → Q false H1) :
    tTest (tOp (rNeD K1) (tLc (iList K1 (tVar j)) (gName i) (tTest (tOp (rNeD K) call (tLstS (tCons (tC (.str w)) tNil)))) (tVar i) [i]) (tLstS tNil)) σ H Q := by
  have ml0 : SeqAt.shaped (.list []) = true := shaped_ints []
  refine ⟨_, e, S, rfl, ⟨_, SqL.of eS⟩, fun D nD => ?_⟩
  refine lc_it (walk_list (xs := ws)) (fun i H' => Same H H' ∧ H' D = some (.lst [])) ⟨same_new nD, upd_same⟩ (fun _ _ _ r => SqL.of (r.1 _ _ eS)) ?_ ?_
  · rintro k x R1 R2 hk ⟨r1, r2⟩ ⟨rfl, hx⟩
    refine ⟨hw x, ne_w hs (fun Q1 t => h k x R2 Q1 hx r1 t) fun H1 s1 => ?_⟩
    exact ⟨Same.trans r1 s1, s1 _ _ r2⟩
  · rintro R1 ⟨r1, r2⟩
    refine ⟨(by show 0 ≤ sizeLine; exact Nat.zero_le _), fun Z R2 nZ rz eZ => ⟨.list [], .list [], .lst (SqL.of (rz _ _ r2)) .nil, .lst (SqL.of eZ) .nil, ml0, ml0, _, rfl, ?_⟩⟩
    rw [show (!PyData.eqv (.list []) (.list [])) = false from by simp [PyData.eqv, PyData.eqvAll]]
    exact q R2 (Same.trans r1 rz)
theorem dps_w {K : PySem.W.Frag} {H : Hp} {w : Str} : ∀ {rs : List Addr}, (∀ r ∈ rs, H r = some (.lst [.str w])) → DpAll K H (rs.map V.ref) (List.replicate rs.length (.list [.str w]))
  | [], _ => .nil
  | r :: rs, h => .cons (dp_w (h r List.mem_cons_self)) (dps_w fun x hx => h x (List.mem_cons_of_mem _ hx))
theorem eqv_self_w (w : Str) (n : Nat) : PyData.eqv (.list (List.replicate n (.list [.str w]))) (.list (List.replicate n (.list [.str w]))) = true := by
  simp only [PyData.eqv]
  induction n with
  | zero => simp [PyData.eqvAll]
  | succ n ih =>
    rw [List.replicate_succ]
    simp only [PyData.eqvAll, ih, Bool.and_true]
    exact eqv_w w
theorem lays_w {w : Str} (hs : PyData.strOk w = true) (n : Nat) : PyData.canLayAll0 (List.replicate n (.list [.str w])) = true ∧ PyData.depthAll (List.replicate n (.list [.str w])) ≤ 1 := by
  induction n with
  | zero => simp [PyData.canLayAll0, PyData.depthAll]
  | succ n ih =>
    rw [List.replicate_succ]
    simp [PyData.canLayAll0, PyData.depthAll, PyData.canLay0, PyData.depth, ih.1, ih.2, hs]
theorem shaped_wl {w : Str} (hs : PyData.strOk w = true) (n : Nat) : SeqAt.shaped (.list (List.replicate n (.list [.str w]))) = true := by
  have z := lays_w hs n
  unfold SeqAt.shaped
  rw [Bool.and_eq_true]
  refine ⟨by simp only [PyData.canLay0, z.1], decide_eq_true ?_⟩
  simp only [PyData.depth]
  have := z.2
  omega
/-- what the repr of a list of long lists asks -/
def GoodX (d : PyData) : Prop := d.showable = true ∧ d.depth ≤ 9 ∧ wt d ≤ 210000
theorem Good.x {d : PyData} (h : Good d) : GoodX d := ⟨h.1, by have := h.2.1; omega, by have := h.2.2; omega⟩
theorem goodX_list {ds : List PyData} (h : ∀ d ∈ ds, Good d) (l : ds.length ≤ 100) : GoodX (.list ds) := by
  have z := wts_le (B := 2000) (ds := ds) fun d hd => (h d hd).2.2
  have z2 : ds.length * 2002 ≤ 100 * 2002 := Nat.mul_le_mul_right _ l
  refine ⟨?_, ?_, ?_⟩
  · simp only [PyData.showable]
    exact showAll_of fun d hd => (h d hd).1
  · have z := depAll_le (B := 8) fun d hd => (h d hd).2.1
    simp only [PyData.depth]
    omega
  · show 2 + wts ds ≤ 210000
    omega
theorem rep_lists {K : PySem.W.Frag} {H : Hp} {Q : VK} {p : Addr} {xs : List V} {ds : List PyData} (e : H p = some (.lst xs)) (m : ThAll H xs ds) (g : ∀ d ∈ ds, GoodX d) (l : ds.length ≤ 10) (q : Q (.str (PyData.list ds).shown) H) : rRep K [.ref p] H Q := by
  refine ⟨.ref p, .list ds, rfl, Th.dq _ (.lst e m), (fun kvs z => nomatch z), ?_, ?_, ?_, q⟩
  · simp only [PyData.showable]
    exact showAll_of fun d hd => (g d hd).1
  · have z := depAll_le (B := 9) fun d hd => (g d hd).2.1
    simp only [PyData.depth]
    omega
  · have a := shown_wt (.list ds)
    have z := wts_le (B := 210000) (ds := ds) fun d hd => (g d hd).2.2
    have z2 : ds.length * 210002 ≤ 10 * 210002 := Nat.mul_le_mul_right _ l
    have c : wt (.list ds) = 2 + wts ds := rfl
    rw [sizeLine_eq]
    omega
end Lk
end
section
set_option maxRecDepth 100000
set_option maxHeartbeats 2000000
/-! All classes of errors, seen from one. -/
namespace Lk
open PySem PySem.Spec PyProof.Rows L2
def ernL : List Str := ["NoKnown", "NoText", "NoPairs", "NoLoop", "NoCoder", "NoCount", "NotRound", "NoTree", "NoSign", "NotLike", "NoPlace", "NoCounts", "NoWord", "Nothing", "NoLog", "NoRow"]
/-- all classes of errors, seen from the one at CL, whose name is nm -/
structure Errs16 (K : PySem.W.Frag) (mg : Str → Option Value) (CL : Addr) (nm : Str) : Prop where
  C : ExcC K CL
  ve : mg "ValueError" = none
  yes : PySem.W.kitOne K (.ref CL) (.type "ValueError") = some true
  iso : mg "isinstance" = none
  e : ∀ x ∈ ernL, IsB K mg CL x (decide (x = nm))
end Lk
end
section
set_option maxRecDepth 100000
set_option maxHeartbeats 2000000
/-! A list is walked while an error is handled. -/
namespace HotX
open PySem PySem.Spec PyProof.Rows
section
variable {prog : Program} {w : World} {A : Around} {E : Value → Shared → Prop} {s : Shared}
theorem pyNext_list_end_hot {it l x1 : Addr} {i : Nat} {items : Array Value} {Q : Option Value → Shared → Prop} (hot : HotAt A x1 s.heap)
    (hit : s.heap.IsListIter it l i) (hl : s.heap.IsList l items) (hx : items[i]? = none)
    (hQ : ∀ h', (∀ b o, b ≠ it → s.heap.get? b = some o → h'.get? b = some o) → Q none { s with heap := h' }) : wpAny (model prog w) A (pyNext (.ref it)) Q E s := by
  obtain ⟨o, ho, hc, hd⟩ := id hit
  obtain ⟨ol, hol, _, nl, hdl⟩ := hl
  obtain ⟨hh, o1, vs1, h1, d1, c1⟩ := hot
  have nx : x1 ≠ it := by
    intro e
    rw [e, ho] at h1
    cases h1
    rw [hd] at d1
    cases d1
    cases c1
  unfold pyNext
  refine wpAny_bind (wpAny_attempt (wpAny_callSpecial?_slot (name := Str.ofString "__next__") hit.typeIs slot_listiter_next
    (wpAny_call_entry slot_listiter_next hit.typeIs entry_listiter_next ?_ (args_listiter_next _))))
  show wpAny _ _ (field (.ref it) 0 >>= _) _ _ s
  refine wpAny_bind (wpAny_field ho hd (x := .ref l) rfl ?_)
  show wpAny _ _ (if (Value.ref l == Value.none) = true then _ else _) _ _ s
  rw [if_neg (show ¬ ((Value.ref l == Value.none) = true) from Bool.false_ne_true)]
  show wpAny _ _ (field (.ref it) 1 >>= _) _ _ s
  refine wpAny_bind (wpAny_field ho hd (x := .int i 0) rfl ?_)
  show wpAny _ _ (seqItems? (.ref l) >>= _) _ _ s
  refine wpAny_bind (wpAny_seqItems hol hdl ?_)
  simp only [Int.toNat_natCast, hx]
  refine wpAny_bind (wpAny_rule (wpAny_bind (wpAny_setField ho hd (by simp) ?_)))
  show wpAny _ _ (newExc (.type "StopIteration") [] >>= _) _ _ _
  refine wpAny_bind ?_
  simp only [newExc, newTuple]
  refine wpAny_bind (wpAny_newObj_type ?_ (by size_fits))
  refine wpAny_bind (m := firstArgMember _ _) (wpAny_of_eq (a := Value.none) (by first | rfl | (simp only [firstArgMember]; rfl)) ?_)
  refine wpAny_newObj_type ?_ (by size_fits)
  refine raiseNew_hot ⟨hh, o1, vs1, Heap.get?_push_of_some _ (Heap.get?_push_of_some _ ((Heap.get?_update_other _ _ nx.symm).trans h1)), d1, c1⟩ (Nat.ne_of_lt (Heap.lt_size (Heap.get?_push_of_some _ ((Heap.get?_update_other _ _ nx.symm).trans h1)))) (Heap.get?_push_size _ rfl) rfl (by first | (simp; done) | (simp; omega) | (simp only [Array.size_append]; simp; omega)) ?_
  refine wpAny_bind (wpAny_isInstance (T := "StopIteration") (b := true) ⟨_, Heap.get?_update_self _ (Heap.get?_push_size _ rfl) rfl, rfl⟩ isSubtype_stop ?_)
  refine wpAny_pure (hQ _ fun b u nb e => ?_)
  rw [Heap.get?_update_other _ _ (Nat.ne_of_gt (Heap.lt_size (Heap.get?_push_of_some _ ((Heap.get?_update_other _ _ (Ne.symm nb)).trans e))))]
  exact Heap.get?_push_of_some _ (Heap.get?_push_of_some _ ((Heap.get?_update_other _ _ (Ne.symm nb)).trans e))
end
end HotX
namespace Lk
open PySem PySem.Spec PyProof.Rows L2 L2H HotX
theorem turn_listH {P : Program} {w : World} {K : PySem.W.Frag} {tg : Expr} (a it : Addr) : TurnH P w K tg (Itl K a) [it] it (fun i h => h.IsListIter it a i) where
  mem := by simp
  obj := fun i h st b hb => by
    have e : b = it := by simpa using hb
    subst e
    obtain ⟨o, e, c, d⟩ := st
    exact ⟨o, e, fun v z => by rw [d] at z; cases z⟩
  keep := fun i h h' st k => st.at fun o e => k it (by simp) o e
  item := by
    intro X hP hw hK hc i pins s σ H E I hf st hg
    subst hP hw hK
    obtain ⟨xs, x, hq, hx⟩ := hg
    obtain ⟨its, rv, p, hz⟩ := I.list hq
    obtain ⟨u, hu, ru⟩ := rv.get hx
    obtain ⟨f0, f1, f2, f3, f4, f5⟩ := hf it (by simp)
    refine wpAny_pyNext_list_item st p.isList (x := u) (by simpa using hu) fun h' st' sb => ?_
    have I1 : Inv X pins σ H { s with heap := h' } := I.turned (t' := s.toks) (fun b o hb e => (sb.2 b hb).trans e) f0 f1 f3 f4 f5
    obtain ⟨o, e, c, d⟩ := id st'
    exact ⟨u, rfl, go_of (s := { s with heap := h' }) e c d (by decide) ⟨x, H, I1, ru, ⟨rfl, fun ys hy => by rw [I.list_inj hy hq]; exact hx⟩, st', fun b hb => (hf b hb).1⟩⟩
  done := by
    intro X hP hw hK hc i pins s σ H E I hf st hg
    subst hP hw hK
    obtain ⟨xs, hq, hx⟩ := hg
    obtain ⟨its, rv, p, hz⟩ := I.list hq
    obtain ⟨f0, f1, f2, f3, f4, f5⟩ := hf it (by simp)
    obtain ⟨x1, hot⟩ := hc.at I
    have hl := rv.length
    exact pyNext_list_end_hot hot st p.isList (by simp; omega) fun h' eb => ⟨rfl, I.turned (t' := s.toks) (fun b o hb e => eb b o hb e) f0 f1 f3 f4 f5⟩
  self := fun _ _ _ _ _ st h => wpAny_pyIter_listiter st h
theorem pi_listH {X : Cx} {tg l : Expr} {tl : TE} (hl : PE X l tl) : PIH X tg l (iList X.K tl) := by
  refine ⟨fun pins s σ H R I h => ?_⟩
  refine thn (hl.run pins s σ H _ I h) fun v s1 ⟨x, H1, I1, r1, q1⟩ => ?_
  obtain ⟨a, e, ⟨xs, hq⟩, q⟩ := q1
  subst e
  cases r1
  obtain ⟨its, rv, p, hz⟩ := I1.list hq
  refine wpAny_pyIter_list p.isList ?_
  refine ⟨s1.heap.objs.size, [s1.heap.objs.size], _, _, H1, rfl, I1.kept (t' := s1.toks) fun b o e => Heap.get?_push_of_some _ e, turn_listH a _, ⟨_, Heap.get?_push_size _ rfl, rfl, rfl⟩, fun b hb => ?_, q⟩
  have e : b = s1.heap.objs.size := by simpa using hb
  subst e
  exact I1.fpOk (Nat.le_refl _) (I1.hok.fresh (Nat.le_refl _))
end Lk
end
section
set_option maxRecDepth 100000
set_option maxHeartbeats 2000000
/-! A tuple is unpacked while an error is handled; a comprehension over a list of tuples there. -/
namespace HotX
open PySem PySem.Spec PyProof.Rows
section
variable {prog : Program} {w : World} {A : Around} {E : Value → Shared → Prop} {s : Shared}
theorem next_tuple_end_hot {it t x1 : Addr} {i : Nat} {items : Array Value} {Q : Option Value → Shared → Prop} (hot : HotAt A x1 s.heap)
    (hit : IsTupIter s.heap it t i) (hl : IsTup s.heap t items) (hx : items[i]? = none)
    (hQ : ∀ h', (∀ b o, b ≠ it → s.heap.get? b = some o → h'.get? b = some o) → Q none { s with heap := h' }) : wpAny (model prog w) A (pyNext (.ref it)) Q E s := by
  obtain ⟨o, ho, hc, hd⟩ := id hit
  obtain ⟨ol, hol, _, nl, hdl⟩ := hl
  obtain ⟨hh, o1, vs1, h1, d1, c1⟩ := hot
  have nx : x1 ≠ it := by
    intro e
    rw [e, ho] at h1
    cases h1
    rw [hd] at d1
    cases d1
    cases c1
  unfold pyNext
  refine wpAny_bind (wpAny_attempt (wpAny_callSpecial?_slot (name := Str.ofString "__next__") hit.typeIs slot_tupleiter_next
    (wpAny_call_entry slot_tupleiter_next hit.typeIs entry_tupleiter_next ?_ (args_tupleiter_next _))))
  show wpAny _ _ (field (.ref it) 0 >>= _) _ _ s
  refine wpAny_bind (wpAny_field ho hd (x := .ref t) rfl ?_)
  show wpAny _ _ (if (Value.ref t == Value.none) = true then _ else _) _ _ s
  rw [if_neg (show ¬ ((Value.ref t == Value.none) = true) from Bool.false_ne_true)]
  show wpAny _ _ (field (.ref it) 1 >>= _) _ _ s
  refine wpAny_bind (wpAny_field ho hd (x := .int i 0) rfl ?_)
  show wpAny _ _ (seqItems? (.ref t) >>= _) _ _ s
  refine wpAny_bind (wpAny_seqItems hol hdl ?_)
  simp only [Int.toNat_natCast, hx]
  refine wpAny_bind (wpAny_rule (wpAny_bind (wpAny_setField ho hd (by simp) ?_)))
  show wpAny _ _ (newExc (.type "StopIteration") [] >>= _) _ _ _
  refine wpAny_bind ?_
  simp only [newExc, newTuple]
  refine wpAny_bind (wpAny_newObj_type ?_ (by size_fits))
  refine wpAny_bind (m := firstArgMember _ _) (wpAny_of_eq (a := Value.none) (by first | rfl | (simp only [firstArgMember]; rfl)) ?_)
  refine wpAny_newObj_type ?_ (by size_fits)
  refine raiseNew_hot ⟨hh, o1, vs1, Heap.get?_push_of_some _ (Heap.get?_push_of_some _ ((Heap.get?_update_other _ _ nx.symm).trans h1)), d1, c1⟩ (Nat.ne_of_lt (Heap.lt_size (Heap.get?_push_of_some _ ((Heap.get?_update_other _ _ nx.symm).trans h1)))) (Heap.get?_push_size _ rfl) rfl (by first | (simp; done) | (simp; omega) | (simp only [Array.size_append]; simp; omega)) ?_
  refine wpAny_bind (wpAny_isInstance (T := "StopIteration") (b := true) ⟨_, Heap.get?_update_self _ (Heap.get?_push_size _ rfl) rfl, rfl⟩ isSubtype_stop ?_)
  refine wpAny_pure (hQ _ fun b u nb e => ?_)
  rw [Heap.get?_update_other _ _ (Nat.ne_of_gt (Heap.lt_size (Heap.get?_push_of_some _ ((Heap.get?_update_other _ _ (Ne.symm nb)).trans e))))]
  exact Heap.get?_push_of_some _ (Heap.get?_push_of_some _ ((Heap.get?_update_other _ _ (Ne.symm nb)).trans e))
theorem unpackItems_tuple_hot {t x1 : Addr} {items : Array Value} {Q : List Value → Shared → Prop} (hot : HotAt A x1 s.heap) (ht : IsTup s.heap t items)
    (hQ : ∀ h', Heap.ExtBut s.heap.objs.size s.heap h' → Q items.toList { s with heap := h' }) : wpAny (model prog w) A (unpackItems (.ref t) items.size none) Q E s := by
  have hlt : t ≠ s.heap.objs.size := by obtain ⟨o, ho, _⟩ := ht; exact Nat.ne_of_lt (Heap.lt_size ho)
  obtain ⟨hh, o1, vs1, h1, d1, c1⟩ := hot
  have hxl : x1 ≠ s.heap.objs.size := Nat.ne_of_lt (Heap.lt_size h1)
  unfold unpackItems
  refine wpAny_bind ?_
  unfold notIterableAtAll
  refine wpAny_bind (wpAny_specialOf ht.typeIs slot_tuple_iter.lookup ?_)
  refine wpAny_pure ?_
  simp only [Bool.false_eq_true, if_false]
  refine wpAny_bind (wpAny_holding (iter_tuple ht ?_))
  refine wpAny_bind (wpAny_holding (draw_tuple hlt items.size 0 _ _ ⟨_, Heap.get?_push_size _ rfl, rfl, rfl⟩ (ht.push _) (by omega) fun h₁ hit₁ hs₁ => ?_))
  have hall : List.take items.size (List.drop 0 items.toList) = items.toList := by
    rw [List.drop_zero]; exact List.take_of_length_le (by simp)
  rw [hall]
  rw [if_neg (by simp)]
  have ht₁ : IsTup h₁ t items := (ht.push _).extBut hs₁.extBut hlt
  refine wpAny_bind (wpAny_holding (next_tuple_end_hot (x1 := x1) ⟨hh, o1, vs1, hs₁.extBut x1 o1 hxl (Heap.get?_push_of_some _ h1), d1, c1⟩ hit₁ ht₁ (by simp) fun h₂ he₂ => ?_))
  simp only [Option.isSome_none, Bool.false_eq_true, if_false]
  refine wpAny_pure (hQ h₂ fun b o hb e => he₂ b o hb (hs₁.extBut b o hb (Heap.get?_push_of_some _ e)))
theorem assign_tuple_hot {env : Env} {elts : List Expr} {k} {pos : Pos} {t x1 : Addr} {items : Array Value} {Q : Unit → Shared → Prop} (hot : HotAt A x1 s.heap) (ht : IsTup s.heap t items)
    (hn : (assignEach elts env).length = items.size) (hstar : (assignEach elts env).findIdx? (·.1) = none)
    (h : ∀ h', Heap.ExtBut s.heap.objs.size s.heap h' → wpAny (model prog w) A (assignInOrder ((assignEach elts env).map (·.2)) items.toList) Q E { s with heap := h' }) :
    wpAny (model prog w) A (assign (.Tuple elts k pos) env (.ref t)) Q E s := by
  rw [assign_Tuple]
  refine wpAny_bind (wpAny_standAt ?_)
  unfold unpack
  rw [hn, hstar]
  exact wpAny_bind (wpAny_holding (unpackItems_tuple_hot hot ht h))
end
end HotX
namespace Lk
open PySem PySem.Spec PyProof.Rows L2 L2H HotX
section
variable {X : Cx} {pos : Pos}
theorem pg_tupH {es : List Expr} {k : Nat} {t : TGs} {n : Nat} {p : Addr × Obj} (hot : Hot1 X.A p) (hp : p ∈ X.pn) (h : PGs X es t)
    (hn : (assignEach es X.env).length = n := by rfl) (hst : (assignEach es X.env).findIdx? (·.1) = none := by rfl) : PG X (.Tuple es k pos) (gTup X.K n t) := by
  refine ⟨fun pins s σ H v u Q I r hw => ?_⟩
  obtain ⟨a, xs, e1, hq, hl, hw⟩ := hw
  subst e1
  cases r
  obtain ⟨its, rv, ht, hz⟩ := I.tuple hq
  obtain ⟨x1, hh⟩ := HotC.at ⟨p, hot, hp⟩ I
  refine assign_tuple_hot hh ht (by simp [hn, ← hl, rv.length]) hst fun h' hx => ?_
  have I1 : Inv X pins σ H { s with heap := h' } := I.kept (t' := s.toks) fun b o e => hx b o (Nat.ne_of_lt (Heap.lt_size e)) e
  exact h.run pins _ σ H xs _ Q I1 (by simpa using rv) hw
theorem lc_coreHP {pins : List (Addr × Obj)} {s : Shared} {σ : L2.St} {H : Hp} {Q : VK} {use : Option (Value → Sem Unit)} {Qf : Value → Shared → Prop} {pos2 : Pos} {elt tg iter : Expr} {ifs : List Expr} {scope : Scope} {own : List (Str × Nat)} {pos : Pos} {wi : TI} {g : TG} {tt : TT} {te : TE} {p : Addr × Obj} (hot : Hot1 X.A p) (hp : p ∈ X.pn) (nd : X.N.Nodup) (src : PIH X tg iter wi) (blk : BlkOk X.N X.env.scope scope own)
    (pg : ∀ (s : Shared) (H : Hp) (C : Addr) (cl : List (Str × Addr)) (fp : List Addr), PG (blkP X s H scope (compEnvC scope cl C X.env) fp p) tg g)
    (pt : ∀ (s : Shared) (H : Hp) (C : Addr) (cl : List (Str × Addr)) (fp : List Addr), PTs (X.blk s H scope (compEnvC scope cl C X.env) fp) ifs tt)
    (pe : ∀ (s : Shared) (H : Hp) (C : Addr) (cl : List (Str × Addr)) (fp : List Addr), PE (X.blk s H scope (compEnvC scope cl C X.env) fp) elt te) (plain : ∀ x, foldedSetIterable iter X.env x = pure x) (I : Inv X pins σ H s)
    (wish : tLc wi g tt te (own.map (·.2)) σ H Q)
    (hRR : ∀ D C s' m H', Inv X pins σ H' s' → Q (.ref D) H' → s'.heap.Ns C m → FpOk X pins H' C → compPost (model X.prog X.w) X.A X.xe use Qf (.ref D) C (.ok .next) s') :
    wpAny (model X.prog X.w) X.A (comprehension (.ListComp elt [⟨tg, iter, ifs, 0⟩] scope pos) scope X.env pos2 (newList []) false (eval iter X.env) use) Qf X.xe s := by
  have seen : ∀ y ∈ scope.names, y.2 = .free → ∃ c, X.env.cells.lookup y.1 = some c := fun y hy e => (blk.free y hy e).elim (fun z => I.ok.has _ (.inl z)) fun z => I.ok.has _ (.inr z)
  refine wpAny_comprehension_free (use := use) rfl plain (closure_ok seen) blk.kind (fun y hy e => by rw [blk.uniq y hy, e]) (thn (src.run pins s σ H _ I wish) fun v1 s1 z1 => thn z1 fun v2 s2 z2 => ?_)
  obtain ⟨it, fp, tn, J, H2, rfl, I2, T, at0, off, more⟩ := z2
  refine wpAny_newObj_type (newEnv_comp ?_) (by show 0 ≤ sizeLine; decide)
  obtain ⟨D, eD⟩ : ∃ D, s2.heap.objs.size = D := ⟨_, rfl⟩
  have freshD : H2 D = none := I2.hok.fresh (Nat.le_of_eq eD)
  obtain ⟨W, ⟨m0, w0⟩, turn⟩ := more D freshD
  obtain ⟨s3, e3⟩ : ∃ s3 : Shared, ({ s2 with heap := s2.heap.push { cls := .type "list", data := .seq ([] : List Value).toArray } } : Shared) = s3 := ⟨_, rfl⟩
  have h3 : s3.heap = s2.heap.push { cls := .type "list", data := .seq ([] : List Value).toArray } := by rw [← e3]
  have up3 : ∀ b o, s2.heap.get? b = some o → s3.heap.get? b = some o := fun b o e => by rw [h3]; exact Heap.get?_push_of_some _ e
  have I3 : Inv X pins σ (upd H2 D (.lst [])) s3 := by
    have z := I2.laid (a := D) (o := .lst []) (h' := s3.heap) (t' := s2.toks) up3 (Nat.le_of_eq eD) ⟨Nat.zero_le _, [], 0, .nil, by rw [h3, ← eD]; exact Heap.get?_push_size _ rfl⟩
    rw [← e3] at z ⊢
    exact z
  have small : ∀ b ∈ fp, b < s2.heap.objs.size := fun b hb => by
    obtain ⟨o, e, _⟩ := T.obj _ _ at0 b hb
    exact Heap.lt_size e
  have off3 : ∀ b ∈ fp, FpOk X pins (upd H2 D (.lst [])) b ∧ b < s3.heap.objs.size := fun b hb => by
    have lt := small b hb
    refine ⟨⟨?_, (off b hb).2⟩, ?_⟩
    · rw [upd_ne (by rw [← eD]; exact Nat.ne_of_lt lt)]
      exact (off b hb).1
    · rw [h3, Heap.size_push]
      exact Nat.lt_succ_of_lt lt
  have I4 := block_start I3 blk nd off3
  have g4 := pg s3 (upd H2 D (.lst [])) s3.heap.objs.size (cellsFrom (s3.heap.objs.size + 1) scope.names (cloFrom X.env.cells scope.names [])) fp
  have t4 := pt s3 (upd H2 D (.lst [])) s3.heap.objs.size (cellsFrom (s3.heap.objs.size + 1) scope.names (cloFrom X.env.cells scope.names [])) fp
  have e4 := pe s3 (upd H2 D (.lst [])) s3.heap.objs.size (cellsFrom (s3.heap.objs.size + 1) scope.names (cloFrom X.env.cells scope.names [])) fp
  rw [e3]
  show codeAny _ _ (.compStart (.ListComp elt [⟨tg, iter, ifs, 0⟩] scope pos) 0 (.ref it) (.ref s2.heap.objs.size) (compEnvC scope (cellsFrom (s3.heap.objs.size + 1) scope.names (cloFrom X.env.cells scope.names [])) s3.heap.objs.size X.env)) (compPost (model X.prog X.w) X.A X.xe use Qf (.ref s2.heap.objs.size) s3.heap.objs.size) { s3 with heap := pushCells (s3.heap.push { cls := .type "dict", data := .dict #[] }) scope.names }
  rw [eD]
  have noW : ∀ b ∈ fp, (upd H2 D (.lst [])) b = none := fun b hb => (off3 b hb).1.1
  have pinB : PinB X (upd H2 D (.lst [])) s3.heap fp (compEnvC scope (cellsFrom (s3.heap.objs.size + 1) scope.names (cloFrom X.env.cells scope.names [])) s3.heap.objs.size X.env) p := by
    have q := I3.pin p (List.mem_append_left _ hp)
    exact ⟨q.1, q.2.1, fun hm => (List.mem_cons.mp (I3.stkSub p.1 hm)).elim q.2.2.1 q.2.2.2.1, fun hm => (off3 p.1 hm).1.2.2.2.2.2 p (List.mem_append_left _ hp) rfl, Nat.ne_of_lt (Heap.lt_size q.1), q.2.2.2.2⟩
  obtain ⟨ce, ece⟩ : ∃ ce, compEnvC scope (cellsFrom (s3.heap.objs.size + 1) scope.names (cloFrom X.env.cells scope.names [])) s3.heap.objs.size X.env = ce := ⟨_, rfl⟩
  have cL : ce.locals = s3.heap.objs.size := by rw [← ece]; rfl
  rw [ece] at I4 g4 t4 e4 pinB ⊢
  generalize upd H2 D (.lst []) = HA at I3 I4 g4 t4 e4 w0 noW off3 pinB
  obtain ⟨s4, e5⟩ : ∃ s4 : Shared, ({ s3 with heap := pushCells (s3.heap.push { cls := .type "dict", data := .dict #[] }) scope.names } : Shared) = s4 := ⟨_, rfl⟩
  rw [e5] at I4 ⊢
  have at4 : tn 0 s4.heap := T.keep _ _ _ at0 fun b _ o e => by rw [← e5]; exact pushCells_keeps _ _ _ _ (Heap.get?_push_of_some _ (up3 b o e))
  have hotB : ∀ {s' : Shared} {H' : Hp} {ps : List (Addr × Obj)} {τ : L2.St}, Inv (blkP X s3 HA scope ce fp p) ps τ H' s' → HotC (blkP X s3 HA scope ce fp p) := fun _ => ⟨p, hot, List.mem_singleton.mpr rfl⟩
  have offB : ∀ {τ : L2.St} {H' : Hp} {s' : Shared}, Inv (blkP X s3 HA scope ce fp p) [] τ H' s' → (∀ b ∈ fp, H' b = none) → ∀ b ∈ fp, FpOk (blkP X s3 HA scope ce fp p) [] H' b := fun {τ H' s'} J' hn b hb =>
    ⟨hn b hb, (J'.ok.exf b hb).1, J'.ok.exfs b hb, .inl hb, fun x c e => (J'.ok.exf b hb).2 x c e, fun q hq z => pinB.nfp (by
      have hq2 : q ∈ [p] := by simpa using hq
      rw [List.mem_singleton.mp hq2] at z
      rw [z]
      exact hb)⟩
  have loop : codeAny (model X.prog X.w) X.A (.compLoop (.ListComp elt [⟨tg, iter, ifs, 0⟩] scope pos) 0 (.ref it) (.ref D) ce) (compPost (model X.prog X.w) X.A X.xe use Qf (.ref D) s3.heap.objs.size) s4 := by
    refine compLoop_any (fun n s' => ∃ i H', Inv (X.blk s3 HA scope ce fp) [] (wipe σ (own.map (·.2))) H' s' ∧ tn i s'.heap ∧ (∀ b ∈ fp, H' b = none) ∧ W i n H') ?_ m0 ⟨0, HA, I4, at4, noW, w0⟩
    rintro n s5 ⟨i, H5, I5, at5, no5, w5⟩
    have I5p := to_pin pinB I5
    rcases turn i n H5 w5 with ⟨stop, done⟩ | ⟨go, Nx, fall, step⟩
    · refine thnF (T.done (blkP X s3 HA scope ce fp p) rfl rfl rfl (hotB I5p) i [] s5 _ H5 (fun _ _ => False) I5p (offB I5p no5) at5 stop) fun r s6 ⟨hr, I6p⟩ => ?_
      subst hr
      have I6 := from_pin I6p
      have I7 : Inv X pins σ H5 s6 := I3.call' (ch := fp) I6.os I6.base I6.hok I6.bare fun b hb => by
        have q := (off3 b hb).1
        exact ⟨q.2.2.2.1, q.2.1, q.2.2.2.2.1, q.2.2.2.2.2⟩
      have nC : H5 s3.heap.objs.size = none := by
        have z : H5 ce.locals = none := I6.free
        rw [← cL]
        exact z
      obtain ⟨m, hn, _⟩ := I6.loc
      have hn2 : s6.heap.Ns s3.heap.objs.size m := by
        have z : s6.heap.Ns ce.locals m := hn
        rw [← cL]
        exact z
      exact hRR D s3.heap.objs.size s6 m H5 I7 done hn2 (I3.fpOk (Nat.le_refl _) nC)
    · refine thnF (T.item (blkP X s3 HA scope ce fp p) rfl rfl rfl (hotB I5p) i [] s5 _ H5 (fun _ _ => False) I5p (offB I5p no5) at5 go) fun r s6 ⟨u, hr, z6⟩ => ?_
      subst hr
      refine thnF z6 fun _ s7 ⟨x, H7, I7p, r7, y7, at7, no7⟩ => ?_
      have I7 := from_pin I7p
      have offA : ∀ b ∈ fp, FpOk (X.blk s3 HA scope ce fp) [] H7 b := fun b hb => ⟨no7 b hb, (I7.ok.exf b hb).1, I7.ok.exfs b hb, .inl hb, fun x c e => (I7.ok.exf b hb).2 x c e, fun q hq => absurd (show q ∈ ([] : List (Addr × Obj)) ++ [] from hq) (by simp)⟩
      have I7q := I7.pinned offA (T.obj _ _ at7)
      refine thnF (g4.run _ s7 _ H7 x u _ (to_pin pinB I7q) r7 (step x H7 y7)) fun _ s8 ⟨τ, H8, I8p, same8, q8⟩ => ?_
      have I8 := from_pin I8p
      refine thnF (t4.run _ s8 τ H8 _ I8 q8) fun yes s9 ⟨H9, I9, q9⟩ => ?_
      have next : ∀ {s' : Shared} {H' : Hp}, Inv (X.blk s3 HA scope ce fp) ([] ++ pinsAt fp s7.heap) τ H' s' → Nx H' → ∃ m, m < n ∧ ∃ i H', Inv (X.blk s3 HA scope ce fp) [] (wipe σ (own.map (·.2))) H' s' ∧ tn i s'.heap ∧ (∀ b ∈ fp, H' b = none) ∧ W i m H' := fun {s' H'} J' nx => by
        obtain ⟨m2, lt, w2⟩ := fall H' nx
        have keep7 : ∀ b ∈ fp, ∀ o, s7.heap.get? b = some o → s'.heap.get? b = some o ∧ H' b = none := fun b hb o e => by
          have z := J'.pin (b, o) (List.mem_append_right _ (List.mem_append_right _ (mem_pinsAt hb e)))
          exact ⟨z.1, z.2.1⟩
        refine ⟨m2, lt, i + 1, H', (J'.unpinned (pins := [])).weak (by rw [← same8, wipe_length]) (fun j v e => ?_), T.keep _ _ _ at7 fun b hb o e => (keep7 b hb o e).1, fun b hb => ?_, w2⟩
        · rw [← same8] at e
          exact (wipe_some e).1
        · obtain ⟨o, e, _⟩ := T.obj _ _ at7 b hb
          exact (keep7 b hb o e).2
      cases yes with
      | false => exact next I9 q9
      | true => exact thnF (e4.run _ s9 τ H9 _ I9 q9) fun z s10 ⟨yv, H10, I10, r10, acc, a1, a2, nx⟩ => app_ok (X := X.blk s3 HA scope ce fp) I10 a1 a2 r10 fun s11 I11 => next I11 nx
  exact codeAny_compStart_list loop (T.self X.A 0 _ _ _ at4 loop)
theorem pe_lcHP {elt tg iter : Expr} {ifs : List Expr} {scope : Scope} {own : List (Str × Nat)} {pos : Pos} {wi : TI} {g : TG} {tt : TT} {te : TE} {p : Addr × Obj} (hot : Hot1 X.A p) (hp : p ∈ X.pn) (nd : X.N.Nodup) (src : PIH X tg iter wi) (blk : BlkOk X.N X.env.scope scope own)
    (pg : ∀ (s : Shared) (H : Hp) (C : Addr) (cl : List (Str × Addr)) (fp : List Addr), PG (blkP X s H scope (compEnvC scope cl C X.env) fp p) tg g)
    (pt : ∀ (s : Shared) (H : Hp) (C : Addr) (cl : List (Str × Addr)) (fp : List Addr), PTs (X.blk s H scope (compEnvC scope cl C X.env) fp) ifs tt)
    (pe : ∀ (s : Shared) (H : Hp) (C : Addr) (cl : List (Str × Addr)) (fp : List Addr), PE (X.blk s H scope (compEnvC scope cl C X.env) fp) elt te) (plain : ∀ x, foldedSetIterable iter X.env x = pure x := by intro _; rfl) :
    PE X (.ListComp elt [⟨tg, iter, ifs, 0⟩] scope pos) (tLc wi g tt te (own.map (·.2))) := by
  refine ⟨fun pins s σ H Q I wish => ?_⟩
  rw [eval_ListComp]
  refine lc_coreHP hot hp nd src blk pg pt pe plain I wish fun D C s' m H' I' q hn f => ⟨m, hn, fun h'' sb => ?_⟩
  obtain ⟨f0, f1, f2, f3, f4, f5⟩ := f
  exact ⟨.ref D, H', I'.turned (t' := s'.toks) (fun b o hb e => (sb.2 b hb).trans e) f0 f1 f3 f4 f5, rfl, q⟩
/-- name = [..] on one line, the name a local -/
theorem ps_setLcHP {i : Nat} {y : Str} {py spos : Pos} {elt tg iter : Expr} {ifs : List Expr} {scope : Scope} {own : List (Str × Nat)} {pos : Pos} {wi : TI} {g : TG} {tt : TT} {te : TE} {p : Addr × Obj} (hot : Hot1 X.A p) (hp : p ∈ X.pn) (nd : X.N.Nodup) (hy : X.N[i]? = some y) (hyl : X.env.scope.names.lookup y = some .local)
    (hsw : swapsWith (.ListComp elt [⟨tg, iter, ifs, 0⟩] scope pos) (some (.Name y py)) spos.line X.env = pure true) (src : PIH X tg iter wi) (blk : BlkOk X.N X.env.scope scope own)
    (pg : ∀ (s : Shared) (H : Hp) (C : Addr) (cl : List (Str × Addr)) (fp : List Addr), PG (blkP X s H scope (compEnvC scope cl C X.env) fp p) tg g)
    (pt : ∀ (s : Shared) (H : Hp) (C : Addr) (cl : List (Str × Addr)) (fp : List Addr), PTs (X.blk s H scope (compEnvC scope cl C X.env) fp) ifs tt)
    (pe : ∀ (s : Shared) (H : Hp) (C : Addr) (cl : List (Str × Addr)) (fp : List Addr), PE (X.blk s H scope (compEnvC scope cl C X.env) fp) elt te) (plain : ∀ x, foldedSetIterable iter X.env x = pure x := by intro _; rfl) :
    PS X (.Assign [.Name y py] (.ListComp elt [⟨tg, iter, ifs, 0⟩] scope pos) spos) (tAsg (tLc wi g tt te (own.map (·.2))) (gName i)) := by
  refine ⟨fun pins s σ H D I h => ?_⟩
  rw [exec_Assign_Name_used _ _ _ _ hsw]
  refine wpAny_bind (wpAny_standAt (wpAny_bind ?_))
  show wpAny _ X.A (do let _ ← comprehension (.ListComp elt [⟨tg, iter, ifs, 0⟩] scope pos) scope X.env (firstIterPos [⟨tg, iter, ifs, 0⟩] pos) (newList []) false (eval iter X.env) (some (assign (.Name y py) X.env))) _ _ s
  have h : tLc wi g tt te (own.map (·.2)) σ H (fun x H1 => gName i x σ H1 D.nx) := h
  refine wpAny_bind (thn (lc_coreHP (Qf := fun _ s' => SP X pins D .next s') hot hp nd src blk pg pt pe plain I h fun L C s' m H' I' q hn f => ?_) fun _ s' hq => wpAny_pure (wpAny_pure hq))
  show wpAny _ _ (assign (.Name y py) X.env (.ref L)) _ _ _
  refine wpAny_assign_Name (store_ok2 (v := V.ref L) I' nd hy (.inl hyl) rfl (fun s2 I2 ⟨a, sb, ha⟩ => ?_) (.inr hyl))
  obtain ⟨f0, f1, f2, f3, f4, f5⟩ := f
  have haC : C ≠ a := by
    rcases ha with z | z
    · rw [z]; exact f1
    · exact fun e => f4 y a z e.symm
  refine ⟨m, hn.sameBut sb haC, fun h3 sb3 => ?_⟩
  exact ⟨_, H', I2.turned (t' := s2.toks) (fun b o hb e => (sb3.2 b hb).trans e) f0 f1 f3 f4 f5, q⟩
end
end Lk
end
section
set_option maxRecDepth 100000
set_option maxHeartbeats 4000000
/-! The law's _law_kind: what kind of error is handled, in a word. -/
namespace Lk
open PySem PySem.Spec PyProof.Rows L2 L2H HotX
theorem pe_isY {X : Cx} {x y : Str} {b : Bool} {D : Addr} {pe : Addr × Obj} {p p1 p2 pos : Pos} (hp : pe ∈ X.pn) (hz : Zc (.ref D) none pe.2) (hf : ∃ vs, pe.2.data = .fields vs) (C : ExcC X.K D) (B : IsB X.K X.mg D x b) (mi : X.mg "isinstance" = none) (hi : Gl X "isinstance") (hg : Gl X x)
    (hN : X.N[0]? = some y) (hv : Vis X.env.scope y) (hd : (x == ("__debug__" : Str)) = false := by decide) (hd1 : (y == ("__debug__" : Str)) = false := by decide) (hc1 : (y == ("__classdict__" : Str)) = false := by decide)
    (hs1 : starEach [Expr.Name y p1, Expr.Name x p2] X.env = (false, eval (.Name y p1) X.env) :: starEach [Expr.Name x p2] X.env := by rfl) (hs2 : starEach [Expr.Name x p2] X.env = (false, eval (.Name x p2) X.env) :: starEach [] X.env := by rfl) :
    PE X (.Call (.Name "isinstance" p) [.Name y p1, .Name x p2] [] pos) (fun σ H Q => σ[0]? = some (some (.ref pe.1)) ∧ Q (.bl b) H) := by
  obtain ⟨c, g, k⟩ := B
  have h : PE X (.Call (.Name "isinstance" p) [.Name y p1, .Name x p2] [] pos) _ := pe_callB (call_isP hp) hi mi (by decide +kernel) (pa_cons (pv 0 hN hv (hd := hd1) (hcd := hc1)) (pa_cons (pe_glob (v := .ref c) hg g rfl hd) pa_nil))
  exact ⟨fun pins s σ H Q I q => h.run pins s σ H Q I ⟨.ref pe.1, q.1, D, .ref c, _, b, rfl, C, hz, hf, .own c, k, q.2⟩⟩
def kws : List Str := ["known", "text", "pairs", "loop", "coder", "count", "round", "tree", "sign", "like", "place", "counts", "word", "nothing", "log", "row"]
def kindW (nm : Str) : Str := match (ernL.zip kws).lookup nm with
  | some x => x
  | none => "odd"
/-- .. that word is told -/
def toldK (nm : Str) (Q : VK) (H : Hp) : Prop := ∀ H', Same H H' → Q (.str (kindW nm)) H'
def kbit (nm : Str) (j : Nat) : Bool := match ernL[j]? with
  | some x => decide (x = nm)
  | none => false
def kwd (j : Nat) : Str := kws[j]?.getD "odd"
def kds (nm : Str) : List PyData := [.tuple [.str "known", .bool (decide (("NoKnown" : Str) = nm))], .tuple [.str "text", .bool (decide (("NoText" : Str) = nm))], .tuple [.str "pairs", .bool (decide (("NoPairs" : Str) = nm))], .tuple [.str "loop", .bool (decide (("NoLoop" : Str) = nm))], .tuple [.str "coder", .bool (decide (("NoCoder" : Str) = nm))], .tuple [.str "count", .bool (decide (("NoCount" : Str) = nm))], .tuple [.str "round", .bool (decide (("NotRound" : Str) = nm))], .tuple [.str "tree", .bool (decide (("NoTree" : Str) = nm))], .tuple [.str "sign", .bool (decide (("NoSign" : Str) = nm))], .tuple [.str "like", .bool (decide (("NotLike" : Str) = nm))], .tuple [.str "place", .bool (decide (("NoPlace" : Str) = nm))], .tuple [.str "counts", .bool (decide (("NoCounts" : Str) = nm))], .tuple [.str "word", .bool (decide (("NoWord" : Str) = nm))], .tuple [.str "nothing", .bool (decide (("Nothing" : Str) = nm))], .tuple [.str "log", .bool (decide (("NoLog" : Str) = nm))], .tuple [.str "row", .bool (decide (("NoRow" : Str) = nm))]]
def kgot (nm : Str) (i : Nat) : List V := ((List.range i).filter (kbit nm)).map fun j => V.str (kwd j)
theorem kgot_all {nm : Str} (h : nm ∈ ernL) : kgot nm 16 = [.str (kindW nm)] := by
  have z : ∀ x ∈ ernL, kgot x 16 = [.str (kindW x)] := by decide +kernel
  exact z nm h
theorem kgot_no {nm : Str} {j : Nat} (h : kbit nm j = false) : kgot nm (j + 1) = kgot nm j := by
  unfold kgot
  rw [List.range_succ, List.filter_append, List.filter_cons, h]
  simp
theorem kgot_yes {nm : Str} {j : Nat} (h : kbit nm j = true) : kgot nm (j + 1) = kgot nm j ++ [V.str (kwd j)] := by
  unfold kgot
  rw [List.range_succ, List.filter_append, List.filter_cons, h]
  simp
theorem kgot_len {nm : Str} {j : Nat} : (kgot nm j).length ≤ j := by
  unfold kgot
  rw [List.length_map]
  exact Nat.le_trans (List.length_filter_le _ _) (by rw [List.length_range]; exact Nat.le_refl _)
theorem kds_at {nm : Str} : ∀ {j : Nat}, j < 16 → (kds nm)[j]? = some (.tuple [.str (kwd j), .bool (kbit nm j)])
  | 0, _ => rfl
  | 1, _ => rfl
  | 2, _ => rfl
  | 3, _ => rfl
  | 4, _ => rfl
  | 5, _ => rfl
  | 6, _ => rfl
  | 7, _ => rfl
  | 8, _ => rfl
  | 9, _ => rfl
  | 10, _ => rfl
  | 11, _ => rfl
  | 12, _ => rfl
  | 13, _ => rfl
  | 14, _ => rfl
  | 15, _ => rfl
  | n + 16, h => absurd h (by omega)
theorem ktwo {H : Hp} {a b : Addr} {w v : Str} {p q : Bool} (e1 : H a = some (.tup [.str w, .bl p])) (e2 : H b = some (.tup [.str v, .bl q])) : ThAll H [.ref a, .ref b] [.tuple [.str w, .bool p], .tuple [.str v, .bool q]] :=
  .cons (.tup e1 (.cons (.str _) (.cons (.bl _) .nil))) (.cons (.tup e2 (.cons (.str _) (.cons (.bl _) .nil))) .nil)
theorem kstep {H H2 : Hp} {A1 A2 : Addr} {u v : List V} (a1 : H A1 = none) (a2 : upd H A1 (.tup u) A2 = none) (s2 : Same (upd (upd H A1 (.tup u)) A2 (.tup v)) H2) : Same H H2 ∧ H2 A1 = some (.tup u) ∧ H2 A2 = some (.tup v) :=
  ⟨Same.trans (same_new a1) (Same.trans (same_new a2) s2), s2 _ _ (same_new a2 _ _ upd_same), s2 _ _ upd_same⟩
theorem kpair {H : Hp} {v : V} {w : Str} {b : Bool} (h : Th H v (.tuple [.str w, .bool b])) : ∃ a, v = .ref a ∧ H a = some (.tup [.str w, .bl b]) := by
  cases h with
  | tup e m =>
    cases m with
    | cons h1 m1 =>
      cases h1
      cases m1 with
      | cons h2 m2 =>
        cases h2
        cases m2
        exact ⟨_, rfl, e⟩
section
variable {P : Program} {w : World} {K : PySem.W.Frag} {mg : Str → Option Value} {base : Heap}
abbrev nKd : List Str := ["caught", "some", "found", "word", "so"]
theorem sc_kindE : FnScope nKd ["caught"] (defScope s_law_kind) := ⟨rfl, rfl, rfl, by decide +kernel, rfl, by decide +kernel, by decide +kernel⟩
theorem ok_kindE {f D : Addr} {fd : FuncData} {nm : Str} (F : Fun K "_law_kind" "_law_kind" s_law_kind f fd) (hnm : nm ∈ ernL) (T : Errs16 K mg D nm) (ml : mg "len" = none) : FnE P w K mg base 1 f fd "caught" D (toldK nm) := by
  refine fnE_of F sc_kindE (fun cdv A outer s H Q p hot hz hr q => ?_)
  have nd := sc_kindE.nd
  have hp : p ∈ (cxH C8.CX0 P w K mg base nKd "_law_kind" (defScope s_law_kind) f cdv A outer s H C8.E0 p).pn := List.mem_singleton.mpr rfl
  have hf : ∃ vs, p.2.data = .fields vs := by
    obtain ⟨_, vs, e, _⟩ := hot
    exact ⟨vs, e⟩
  have hotX : Hot1 (cxH C8.CX0 P w K mg base nKd "_law_kind" (defScope s_law_kind) f cdv A outer s H C8.E0 p).A p := hot
  refine ⟨_, (pss_cons (by exact (ps_set (i := 1) nd rfl (Or.inl rfl) (pe_lstS (pa_cons (pe_tupS (pa_cons pe_str (pa_cons (pe_isY hp hz hf T.C (T.e "NoKnown" (by decide)) T.iso rfl rfl rfl (.inl rfl)) pa_nil))) (pa_cons (pe_tupS (pa_cons pe_str (pa_cons (pe_isY hp hz hf T.C (T.e "NoText" (by decide)) T.iso rfl rfl rfl (.inl rfl)) pa_nil))) pa_nil)))))
      (pss_cons (by exact (ps_set (i := 1) nd rfl (Or.inl rfl) (pe_op op_catS (pv 1) (pe_lstS (pa_cons (pe_tupS (pa_cons pe_str (pa_cons (pe_isY hp hz hf T.C (T.e "NoPairs" (by decide)) T.iso rfl rfl rfl (.inl rfl)) pa_nil))) (pa_cons (pe_tupS (pa_cons pe_str (pa_cons (pe_isY hp hz hf T.C (T.e "NoLoop" (by decide)) T.iso rfl rfl rfl (.inl rfl)) pa_nil))) pa_nil))))))
      (pss_cons (by exact (ps_set (i := 1) nd rfl (Or.inl rfl) (pe_op op_catS (pv 1) (pe_lstS (pa_cons (pe_tupS (pa_cons pe_str (pa_cons (pe_isY hp hz hf T.C (T.e "NoCoder" (by decide)) T.iso rfl rfl rfl (.inl rfl)) pa_nil))) (pa_cons (pe_tupS (pa_cons pe_str (pa_cons (pe_isY hp hz hf T.C (T.e "NoCount" (by decide)) T.iso rfl rfl rfl (.inl rfl)) pa_nil))) pa_nil))))))
      (pss_cons (by exact (ps_set (i := 1) nd rfl (Or.inl rfl) (pe_op op_catS (pv 1) (pe_lstS (pa_cons (pe_tupS (pa_cons pe_str (pa_cons (pe_isY hp hz hf T.C (T.e "NotRound" (by decide)) T.iso rfl rfl rfl (.inl rfl)) pa_nil))) (pa_cons (pe_tupS (pa_cons pe_str (pa_cons (pe_isY hp hz hf T.C (T.e "NoTree" (by decide)) T.iso rfl rfl rfl (.inl rfl)) pa_nil))) pa_nil))))))
      (pss_cons (by exact (ps_set (i := 1) nd rfl (Or.inl rfl) (pe_op op_catS (pv 1) (pe_lstS (pa_cons (pe_tupS (pa_cons pe_str (pa_cons (pe_isY hp hz hf T.C (T.e "NoSign" (by decide)) T.iso rfl rfl rfl (.inl rfl)) pa_nil))) (pa_cons (pe_tupS (pa_cons pe_str (pa_cons (pe_isY hp hz hf T.C (T.e "NotLike" (by decide)) T.iso rfl rfl rfl (.inl rfl)) pa_nil))) pa_nil))))))
      (pss_cons (by exact (ps_set (i := 1) nd rfl (Or.inl rfl) (pe_op op_catS (pv 1) (pe_lstS (pa_cons (pe_tupS (pa_cons pe_str (pa_cons (pe_isY hp hz hf T.C (T.e "NoPlace" (by decide)) T.iso rfl rfl rfl (.inl rfl)) pa_nil))) (pa_cons (pe_tupS (pa_cons pe_str (pa_cons (pe_isY hp hz hf T.C (T.e "NoCounts" (by decide)) T.iso rfl rfl rfl (.inl rfl)) pa_nil))) pa_nil))))))
      (pss_cons (by exact (ps_set (i := 1) nd rfl (Or.inl rfl) (pe_op op_catS (pv 1) (pe_lstS (pa_cons (pe_tupS (pa_cons pe_str (pa_cons (pe_isY hp hz hf T.C (T.e "NoWord" (by decide)) T.iso rfl rfl rfl (.inl rfl)) pa_nil))) (pa_cons (pe_tupS (pa_cons pe_str (pa_cons (pe_isY hp hz hf T.C (T.e "Nothing" (by decide)) T.iso rfl rfl rfl (.inl rfl)) pa_nil))) pa_nil))))))
      (pss_cons (by exact (ps_set (i := 1) nd rfl (Or.inl rfl) (pe_op op_catS (pv 1) (pe_lstS (pa_cons (pe_tupS (pa_cons pe_str (pa_cons (pe_isY hp hz hf T.C (T.e "NoLog" (by decide)) T.iso rfl rfl rfl (.inl rfl)) pa_nil))) (pa_cons (pe_tupS (pa_cons pe_str (pa_cons (pe_isY hp hz hf T.C (T.e "NoRow" (by decide)) T.iso rfl rfl rfl (.inl rfl)) pa_nil))) pa_nil))))))
      (pss_cons (by exact (ps_setLcHP (i := 2) (own := [("word", 3), ("so", 4)]) (g := (gTup K 2 (gCons (gName 3) (gCons (gName 4) gNil)))) hotX hp nd rfl rfl (sw_true rfl rfl rfl (by decide +kernel)) (pi_listH (pv 1)) (blkOk_by (N := nKd) (sc := defScope s_law_kind) (by decide +kernel)) (fun _ _ _ _ _ => (pg_tupH (hotX) (List.mem_singleton.mpr rfl) (pgs_cons (pg_name (i := 3) nd rfl (Or.inl rfl)) (pgs_cons (pg_name (i := 4) nd rfl (Or.inl rfl)) pgs_nil)))) (fun _ _ _ _ _ => pts_one (pt_val (pv 4))) (fun _ _ _ _ _ => (pv 3))))
      (pss_one (by exact (ps_ret (pe_ifExp (PW.pt (pw_and (pt_cmpR op_eq (pe_callB call_len_seq (by rfl) ml PySem.boot_len (pa_cons (pv 2) pa_nil)) pe_int (nomark _)) (pw_and1 (pt_val (pe_callB (call_isP hp) (by rfl) T.iso (by decide +kernel) (pa_cons (pv 0) (pa_cons (pe_bltn (v := .ty "ValueError") (by rfl) T.ve (by decide +kernel) rfl) pa_nil))))))) (pe_ix ix_list (pv 2) pe_int (fun _ _ => rfl)) pe_str))))))))))))), ?_⟩
  have l2 : 2 ≤ sizeLine := by decide
  refine ⟨rfl, l2, fun A1 J1 a1 p1 q1 => ⟨rfl, l2, fun B1 J2 b1 u1 v1 => ⟨l2, fun S1 H1 n1 s1 e1 => ?_⟩⟩⟩
  have z1 : Same H H1 := Same.trans p1 (Same.trans u1 s1)
  have T1 := ktwo (s1 _ _ (u1 _ _ q1)) (s1 _ _ v1)
  refine ⟨_, rfl, rfl, l2, fun A2 J2 a2 p2 q2 => ⟨rfl, l2, fun B2 G2 b2 u2 v2 => ⟨l2, fun L2 F2 m2 r2 f2 => ?_⟩⟩⟩
  have y2 := Same.trans p2 (Same.trans u2 r2)
  refine ⟨S1, L2, _, _, rfl, rfl, y2 _ _ e1, f2, (by show 2 + 2 ≤ sizeLine; decide), fun S2 H2 n2 s2 e2 => ?_⟩
  have z2 : Same H H2 := Same.trans z1 (Same.trans y2 s2)
  have T2 := ThAll.append (ThAll.same (Same.trans y2 s2) _ T1) (ktwo (s2 _ _ (r2 _ _ (u2 _ _ q2))) (s2 _ _ (r2 _ _ v2)))
  refine ⟨_, rfl, rfl, l2, fun A3 J3 a3 p3 q3 => ⟨rfl, l2, fun B3 G3 b3 u3 v3 => ⟨l2, fun L3 F3 m3 r3 f3 => ?_⟩⟩⟩
  have y3 := Same.trans p3 (Same.trans u3 r3)
  refine ⟨S2, L3, _, _, rfl, rfl, y3 _ _ e2, f3, (by show 4 + 2 ≤ sizeLine; decide), fun S3 H3 n3 s3 e3 => ?_⟩
  have z3 : Same H H3 := Same.trans z2 (Same.trans y3 s3)
  have T3 := ThAll.append (ThAll.same (Same.trans y3 s3) _ T2) (ktwo (s3 _ _ (r3 _ _ (u3 _ _ q3))) (s3 _ _ (r3 _ _ v3)))
  refine ⟨_, rfl, rfl, l2, fun A4 J4 a4 p4 q4 => ⟨rfl, l2, fun B4 G4 b4 u4 v4 => ⟨l2, fun L4 F4 m4 r4 f4 => ?_⟩⟩⟩
  have y4 := Same.trans p4 (Same.trans u4 r4)
  refine ⟨S3, L4, _, _, rfl, rfl, y4 _ _ e3, f4, (by show 6 + 2 ≤ sizeLine; decide), fun S4 H4 n4 s4 e4 => ?_⟩
  have z4 : Same H H4 := Same.trans z3 (Same.trans y4 s4)
  have T4 := ThAll.append (ThAll.same (Same.trans y4 s4) _ T3) (ktwo (s4 _ _ (r4 _ _ (u4 _ _ q4))) (s4 _ _ (r4 _ _ v4)))
  refine ⟨_, rfl, rfl, l2, fun A5 J5 a5 p5 q5 => ⟨rfl, l2, fun B5 G5 b5 u5 v5 => ⟨l2, fun L5 F5 m5 r5 f5 => ?_⟩⟩⟩
  have y5 := Same.trans p5 (Same.trans u5 r5)
  refine ⟨S4, L5, _, _, rfl, rfl, y5 _ _ e4, f5, (by show 8 + 2 ≤ sizeLine; decide), fun S5 H5 n5 s5 e5 => ?_⟩
  have z5 : Same H H5 := Same.trans z4 (Same.trans y5 s5)
  have T5 := ThAll.append (ThAll.same (Same.trans y5 s5) _ T4) (ktwo (s5 _ _ (r5 _ _ (u5 _ _ q5))) (s5 _ _ (r5 _ _ v5)))
  refine ⟨_, rfl, rfl, l2, fun A6 J6 a6 p6 q6 => ⟨rfl, l2, fun B6 G6 b6 u6 v6 => ⟨l2, fun L6 F6 m6 r6 f6 => ?_⟩⟩⟩
  have y6 := Same.trans p6 (Same.trans u6 r6)
  refine ⟨S5, L6, _, _, rfl, rfl, y6 _ _ e5, f6, (by show 10 + 2 ≤ sizeLine; decide), fun S6 H6 n6 s6 e6 => ?_⟩
  have z6 : Same H H6 := Same.trans z5 (Same.trans y6 s6)
  have T6 := ThAll.append (ThAll.same (Same.trans y6 s6) _ T5) (ktwo (s6 _ _ (r6 _ _ (u6 _ _ q6))) (s6 _ _ (r6 _ _ v6)))
  refine ⟨_, rfl, rfl, l2, fun A7 J7 a7 p7 q7 => ⟨rfl, l2, fun B7 G7 b7 u7 v7 => ⟨l2, fun L7 F7 m7 r7 f7 => ?_⟩⟩⟩
  have y7 := Same.trans p7 (Same.trans u7 r7)
  refine ⟨S6, L7, _, _, rfl, rfl, y7 _ _ e6, f7, (by show 12 + 2 ≤ sizeLine; decide), fun S7 H7 n7 s7 e7 => ?_⟩
  have z7 : Same H H7 := Same.trans z6 (Same.trans y7 s7)
  have T7 := ThAll.append (ThAll.same (Same.trans y7 s7) _ T6) (ktwo (s7 _ _ (r7 _ _ (u7 _ _ q7))) (s7 _ _ (r7 _ _ v7)))
  refine ⟨_, rfl, rfl, l2, fun A8 J8 a8 p8 q8 => ⟨rfl, l2, fun B8 G8 b8 u8 v8 => ⟨l2, fun L8 F8 m8 r8 f8 => ?_⟩⟩⟩
  have y8 := Same.trans p8 (Same.trans u8 r8)
  refine ⟨S7, L8, _, _, rfl, rfl, y8 _ _ e7, f8, (by show 14 + 2 ≤ sizeLine; decide), fun S8 H8 n8 s8 e8 => ?_⟩
  have z8 : Same H H8 := Same.trans z7 (Same.trans y8 s8)
  have T8 := ThAll.append (ThAll.same (Same.trans y8 s8) _ T7) (ktwo (s8 _ _ (r8 _ _ (u8 _ _ q8))) (s8 _ _ (r8 _ _ v8)))
  refine ⟨_, rfl, S8, rfl, ⟨_, SqL.of e8⟩, fun RR nR => ?_⟩
  refine lc_it walk_list (fun i H' => Same H8 H' ∧ H' RR = some (.lst (kgot nm i))) ⟨same_new nR, upd_same⟩ (fun i H' _ hh => SqL.of (hh.1 _ _ e8)) ?_ ?_
  · rintro j x R1 R2 hj ⟨t1, t2⟩ ⟨rfl, hx⟩
    have hj16 : j < 16 := hj
    obtain ⟨d, hd, hth⟩ := ThAll.get T8 hx
    have hd2 : (kds nm)[j]? = some d := hd
    rw [kds_at hj16] at hd2
    cases hd2
    obtain ⟨a, rfl, ea⟩ := kpair hth
    refine ⟨a, _, rfl, SqT.of (t1 _ _ ea), rfl, _, _, rfl, _, _, rfl, rfl, rfl, _, rfl, kbit nm j, rfl, ?_⟩
    cases eb : kbit nm j with
    | false => exact ⟨t1, by rw [t2, kgot_no eb]⟩
    | true => exact ⟨_, rfl, _, t2, Nat.lt_of_le_of_lt kgot_len (Nat.lt_trans hj16 (by decide)), same_push t1 nR, by rw [upd_same, kgot_yes eb]⟩
  · rintro R1 ⟨t1, t2⟩
    have t3 : R1 RR = some (.lst [.str (kindW nm)]) := t2.trans (congrArg (fun l => some (HO.lst l)) (kgot_all hnm))
    refine ⟨_, rfl, RR, _, rfl, .inl (SqL.of t3), rfl, _, rfl, ?_⟩
    refine ⟨_, rfl, D, .ty "ValueError", _, _, rfl, T.C, hz, hf, .ty _, T.yes, _, rfl, ?_⟩
    refine ⟨_, rfl, RR, _, 0, V.str (kindW nm), rfl, rfl, SqL.of t3, rfl, ?_⟩
    exact q _ (Same.trans z8 t1)
end
end Lk
end
section
set_option maxRecDepth 100000
set_option maxHeartbeats 2000000
/-! loop.index(letter), where it stands there. -/
namespace Lk
open PySem PySem.Spec PyProof.Rows L2 PySem.Builtin PySem.Builtin.Str
theorem occ_all (s sub : Str) (hi limit : Nat) : ∀ (l : List Nat) (st : Array Nat × Nat), (∀ i ∈ st.fst.toList, i + sub.length ≤ hi ∧ subAt s sub i = true) →
    ∀ i ∈ (forIn l st (StrLaws.occBody s sub hi limit)).run.fst.toList, i + sub.length ≤ hi ∧ subAt s sub i = true
  | [], st, h => h
  | a :: l, st, h => by
    rw [List.forIn_cons]
    unfold StrLaws.occBody
    split
    · rename_i hc
      refine occ_all s sub hi limit l _ fun i hm => ?_
      rw [Array.toList_push] at hm
      rcases List.mem_append.mp hm with z | z
      · exact h i z
      · rw [List.mem_singleton.mp z]
        exact ⟨hc.1.2, hc.2⟩
    · exact occ_all s sub hi limit l _ h
theorem index_one {l : List Nat} {c k : Nat} (nd : l.Nodup) (hk : l[k]? = some c) : Txt.index0 (SX.S l) (SX.S [c]) = some k := by
  unfold Txt.index0
  have ne : (!(occurrences (SX.S l) (SX.S [c]) 0 (SX.S l).length 1).isEmpty) = true := by
    rw [SX.in_one]
    exact decide_eq_true (List.mem_of_getElem? hk)
  cases e : occurrences (SX.S l) (SX.S [c]) 0 (SX.S l).length 1 with
  | nil => rw [e] at ne; cases ne
  | cons i r =>
    have hm : i ∈ occurrences (SX.S l) (SX.S [c]) 0 (SX.S l).length 1 := by rw [e]; exact List.mem_cons_self
    rw [StrLaws.occ_eq] at hm
    have z := occ_all (SX.S l) (SX.S [c]) (SX.S l).length 1 _ (#[], 0) (fun i hi => by simp at hi) i hm
    have y : (SX.S l).cps.toList[i]? = some c := (StrLaws.subAt_one (SX.S l) c i).mp z
    have y2 : l[i]? = some c := y
    obtain ⟨h1, e1⟩ := List.getElem?_eq_some_iff.mp y2
    obtain ⟨h2, e2⟩ := List.getElem?_eq_some_iff.mp hk
    have ik : i = k := (List.getElem_inj nd).mp (e1.trans e2.symm)
    rw [ik]
    rfl
theorem mt_idx {X : Cx} : MtR X "str.index" (fun x xs H Q => ∃ (a b : Str) (k : Nat), x = .str a ∧ xs = [.str b] ∧ Txt.index0 a b = some k ∧ Q (.int (k : Nat)) H) := by
  intro pins s σ H x xs v us Q I rx rs h
  obtain ⟨a, b, k, rfl, rfl, hk, w⟩ := h
  obtain ⟨t, rfl⟩ := rx
  cases rs with
  | cons r1 rs =>
    cases rs
    obtain ⟨u, rfl⟩ := r1
    cases q : Builtin.Str.occurrences a b 0 a.length 1 with
    | nil =>
      unfold Txt.index0 at hk
      rw [q] at hk
      cases hk
    | cons i rest =>
      unfold Txt.index0 at hk
      rw [q] at hk
      cases hk
      exact PySem.SC.index q ⟨.int _, H, I.tok _, ⟨_, rfl⟩, w⟩
end Lk
end
section
set_option maxRecDepth 100000
set_option maxHeartbeats 4000000
/-! Where a thing stands in the loop, as the law looks. -/
namespace Lk
open PySem PySem.Spec PyProof.Rows L2
def plD (l : List Nat) : PyData → Option (Nat × Nat)
  | .str x => (placeOf l x.cps.toList).map fun a => (a, x.length)
  | _ => none
def spLength : Sp := fun vs H Q _ => ∃ (l : List Nat) (v : V) (d : PyData), vs = [.str (SX.S l), v] ∧ isLoop l = true ∧ l.Nodup ∧ Th H v d ∧ (∀ x, d = .str x → x.length ≤ 50000) ∧
  (plD l d = none → ∀ H', Same H H' → Q .non H') ∧ ∀ a n, plD l d = some (a, n) → ∀ q H', H q = none → Same H H' → H' q = some (.tup [.int (a : Int), .int (n : Int)]) → Q (.ref q) H'
theorem place_at {l w : List Nat} {k : Nat} (nd : l.Nodup) (hk : k < l.length) (h : w.head? = l[k]?) : placeOf l w = if run l k w.length = w then some k else none := by
  have no : ∀ j, j ≠ k → j < l.length → standsAt l w j = false := fun j hj hl => by
    unfold standsAt
    rw [h, decide_eq_false (fun z => hj ?_)]
    · rfl
    · rw [List.getElem?_eq_getElem hk, List.getElem?_eq_getElem hl] at z
      exact ((List.getElem_inj nd).mp (Option.some.inj z)).symm
  by_cases c : run l k w.length = w
  · rw [if_pos c]
    exact place_some hk (by unfold standsAt; rw [decide_eq_true h, decide_eq_true c]; rfl) fun j hj => no j (by omega) (by omega)
  · rw [if_neg c]
    refine place_none fun j hj => ?_
    by_cases e : j = k
    · rw [e]
      unfold standsAt
      rw [decide_eq_false c, Bool.and_false]
    · exact no j e hj
theorem place_off {l w : List Nat} (h : ∀ c, w.head? = some c → c ∉ l) : placeOf l w = none := by
  refine place_none fun j hj => ?_
  unfold standsAt
  rw [decide_eq_false (fun z => ?_)]
  · rfl
  · rw [List.getElem?_eq_getElem hj] at z
    exact h _ z (List.getElem_mem hj)
abbrev nLg : List Str := ["loop", "thing", "spot"]
section
variable {P : Program} {w : World} {K : PySem.W.Frag} {mg : Str → Option Value} {base : Heap}
theorem sc_length : FnScope nLg ["loop", "thing"] (defScope s_law_length) := ⟨rfl, rfl, rfl, by decide +kernel, rfl, by decide +kernel, by decide +kernel⟩
theorem ok_length {f : Addr} {fd : FuncData} (F : Fun K "_law_length" "_law_length" s_law_length f fd) (lt : C8.Cal P w K mg base 1 "_law_letters" spLetL []) (mi : mg "isinstance" = none) (ms : mg "str" = none) (ml : mg "len" = none) : FnOk P w K mg base CX0 2 f fd ["loop", "thing"] spLength := by
  refine F.ok sc_length (fun vs H Q E h => ?_) (fun cdv A outer s H vs Q E hr h => ?_)
  · obtain ⟨l, v, d, rfl, _⟩ := h
    rfl
  · obtain ⟨l, v, d, rfl, hl, ndl, hv, short, q0, q1⟩ := h
    have nd := sc_length.nd
    refine ⟨_, (pss_cons (by exact (ps_if (PW.pt (pw_or (pt_not (pt_val (pe_callB call_isi (by rfl) mi (by decide +kernel) (pa_cons (pv 1) (pa_cons (pe_bltn (v := .ty "str") (by rfl) ms (by decide +kernel) rfl) pa_nil))))) (pw_or (pt_cmpR op_eq (pv 1) pe_str (nomark _)) (pw_or1 (pt_cmpR op_notIn_str (pe_item_str (pv 1) pe_int (fun _ _ => rfl)) (pv 0) rfl))))) (pss_one (by exact (ps_ret pe_non))) pss_nil))
      (pss_cons (by exact (ps_set (i := 2) nd rfl (Or.inl rfl) (pe_bm PySem.F.plainAttrs_str PySem.F.slot_str_index PySem.F.type_str_index mt_idx (pv 0) (pa_cons (pe_item_str (pv 1) pe_int (fun _ _ => rfl)) pa_nil))))
      (pss_one (by exact (ps_ret (pe_ifExp (pt_cmpR op_eq (C8.pe_c lt hr (by decide) rfl (pa_cons (pv 0) (pa_cons (pv 2) (pa_cons (pe_callB call_len_str (by rfl) ml PySem.boot_len (pa_cons (pv 1) pa_nil)) pa_nil)))) (pv 1) (nomark _)) (pe_tupS (pa_cons (pv 2) (pa_cons (pe_callB call_len_str (by rfl) ml PySem.boot_len (pa_cons (pv 1) pa_nil)) pa_nil))) pe_non)))))), ?_⟩
    have ek : ∀ {d : PyData} {b : Bool}, (match d with | .str _ => true | _ => false) = b → PySem.W.kitOne K (.type (tyN d)) (.type "str") = some b := fun {d b} e => by
      rw [← e]
      exact kit_ty (by cases d <;> (simp only [tyN]; decide +kernel))
    obtain ⟨az, l1, l12⟩ := isLoop_len hl
    refine ⟨_, rfl, v, .ty "str", _, _, _, rfl, .ty _, hv.ty, ek rfl, _, rfl, ?_⟩
    cases hv with
    | str x =>
      refine iteF ?_
      have xl := short x rfl
      obtain ⟨wd, ew⟩ : ∃ wd : List Nat, wd = x.cps.toList := ⟨_, rfl⟩
      have ex : x = SX.S wd := by rw [ew]
      subst ex
      rw [SX.S_len] at xl
      have pe : plD l (.str (SX.S wd)) = (placeOf l wd).map fun a => (a, wd.length) := by
        show (placeOf l wd).map (fun a => (a, (SX.S wd).length)) = _
        rw [SX.S_len]
      rw [pe] at q0 q1
      refine ⟨_, rfl, rfl, _, rfl, ?_⟩
      have e0 : Str.ofString "" = SX.S [] := by decide +kernel
      cases wd with
      | nil =>
        dsimp only
        rw [decide_eq_true (by rw [e0])]
        exact iteT (iteT (q0 (by rw [place_off (fun c hc => by cases hc)]; rfl) _ (Same.refl _)))
      | cons c wd =>
        dsimp only
        rw [decide_eq_false (by rw [e0]; exact fun z => by have y := SX.S_inj (V.str.inj z); cases y)]
        have c0 : (SX.S (c :: wd)).cps[(0 : Int).toNat]? = some c := by
          show ((c :: wd).toArray)[0]? = some c
          rw [List.getElem?_toArray]
          rfl
        refine iteF ⟨_, rfl, _, 0, c, rfl, rfl, by decide, by decide, by rw [SX.S_len, List.length_cons]; omega, c0, _, rfl, SX.S [c], _, rfl, rfl, ?_⟩
        have ein : (!(!(Builtin.Str.occurrences (SX.S l) (SX.S [c]) 0 (SX.S l).length 1).isEmpty)) = decide (c ∉ l) := by
          rw [SX.in_one]
          by_cases z : c ∈ l
          · rw [decide_eq_true z, decide_eq_false (fun k => k z)]; rfl
          · rw [decide_eq_false z, decide_eq_true z]; rfl
        refine ⟨_, rfl, ?_⟩
        show (if (!(!(Builtin.Str.occurrences (SX.S l) (SX.S [c]) 0 (SX.S l).length 1).isEmpty)) = true then _ else _)
        rw [ein]
        by_cases hc : c ∈ l
        · rw [decide_eq_false (fun z => z hc)]
          obtain ⟨k, hk⟩ := List.mem_iff_getElem?.mp hc
          have kl : k < l.length := (List.getElem?_eq_some_iff.mp hk).1
          have pa := place_at (w := c :: wd) ndl kl (by rw [hk]; rfl)
          have sz : (SX.S (c :: wd)).length ≤ sizeLine := by rw [SX.S_len]; exact Nat.le_trans xl (by decide)
          refine iteF ⟨_, rfl, rfl, _, rfl, _, 0, c, rfl, rfl, by decide, by decide, by rw [SX.S_len, List.length_cons]; omega, c0, _, SX.S [c], k, rfl, rfl, index_one ndl hk, ?_⟩
          refine ⟨_, rfl, _, rfl, _, rfl, SX.S (c :: wd), rfl, sz, l, k, (c :: wd).length, by rw [SX.S_len]; rfl, l1, l12, xl, fun H1 s1 => ?_⟩
          refine ⟨_, rfl, rfl, _, rfl, ?_⟩
          by_cases e : run l k (c :: wd).length = c :: wd
          · rw [if_pos e] at pa
            rw [e, decide_eq_true rfl]
            refine iteT ⟨_, rfl, _, rfl, SX.S (c :: wd), rfl, sz, (by show 2 ≤ sizeLine; decide), fun t H2 nt s2 et => ?_⟩
            rw [SX.S_len] at et
            exact q1 k _ (by rw [pa]; rfl) t H2 (none_of s1 nt) (s1.trans s2) et
          · rw [if_neg e] at pa
            rw [decide_eq_false (fun z => e (SX.S_inj (V.str.inj z)))]
            exact iteF (q0 (by rw [pa]; rfl) _ s1)
        · rw [decide_eq_true hc]
          exact iteT (q0 (by rw [place_off (fun d hd => by cases hd; exact hc)]; rfl) _ (Same.refl _))
    | _ => exact iteT (q0 rfl _ (Same.refl _))
end
end Lk
end
section
set_option maxRecDepth 100000
set_option maxHeartbeats 4000000
/-! Whether teach lets a thing in. -/
namespace Lk
open PySem PySem.Spec PyProof.Rows L2 L2H HotX
def spTaught (C : Addr) : Sp := fun vs H Q _ => ∃ (p D A : Addr) (x : Ln) (v : V) (b : Bool), vs = [.ref p, v] ∧ LnAt C H p D A x ∧ 0 < x.loop.length ∧ x.loop.length ≤ 12 ∧ x.now.2.length = x.loop.length ∧ WordV H v b ∧ (∀ w, v = .str (SX.S w) → w.length ≤ 50000) ∧ x.rows.length ≤ 100000 ∧
  (b = false → ∀ H', Same H H' → Q (.str "word") H') ∧ (b = true → ∀ w, v = .str (SX.S w) → isWord w = true → (x.next w = none → ∀ H', Same H H' → Q (.str "word") H') ∧ ∀ a, x.next w = some a → ∀ H', LnAt C H' p D A (x.teach w a) → Rest p D A H H' → Q (.str "let") H')
section
variable {P : Program} {w : World} {K : PySem.W.Frag} {mg : Str → Option Value} {base : Heap}
abbrev nTt : List Str := ["learner", "thing", "e"]
theorem sc_taught : FnScope nTt ["learner", "thing"] (defScope s_law_taught) := ⟨rfl, rfl, rfl, by decide +kernel, rfl, by decide +kernel, by decide +kernel⟩
theorem kindW_word : kindW "NoWord" = "word" := by decide +kernel
theorem ok_taught {f C CE LE : Addr} {fd : FuncData} (F : Fun K "_law_taught" "_law_taught" s_law_taught f fd) (te_ : MetN P w K mg base 5 C "teach" (spTeachN C CE)) (ck : CalE P w K mg base 1 "_law_kind" "caught" toldK [(CE, "NoWord")])
    (gE : mg "LearnError" = some (.ref LE)) (te : PySem.W.exmOne K (.ref CE) (.ref LE) = some true) : FnOk P w K mg base CX0 6 f fd ["learner", "thing"] (spTaught C) := by
  refine F.ok sc_taught (fun vs H Q E h => ?_) (fun cdv A outer s H vs Q E hr h => ?_)
  · obtain ⟨p, D, A, x, v, b, rfl, _⟩ := h
    rfl
  · obtain ⟨p, D, A', x, v, b, rfl, L, l0, l12, hlen, hw, w5, few, qn, q⟩ := h
    obtain ⟨⟨dx, cv, hp, _⟩, _, _, _⟩ := id L
    have nd := sc_taught.nd
    refine ⟨_, pss_cons (by exact (L2N.ps_try_as (i := 2) (ts := fun a cls d => tRet (fun σ H Q => ∃ D nm, cls = .ref D ∧ d = none ∧ (D, nm) ∈ [(CE, ("NoWord" : Str))] ∧ σ[2]? = some (some (.ref a)) ∧ toldK nm Q H)) rfl rfl nd rfl rfl ⟨rfl, by decide, Or.inl gE⟩ takes_no
        (fun W pn xe tk _ => (by exact (pss_one (by exact (ps_expr (pe_mN (pv 0) te_ tk hr (by decide) (pa_cons (pv 1) pa_nil)))))))
        (fun a oe cls d pn hz hf => by exact (pss_one (ps_ret (pe_cE ck (show RoomH 5 _ from ⟨hr.dp, hr.un⟩) (by decide) hz hf rfl List.mem_cons_self rfl rfl (.inl rfl))))))) (pss_one (by exact (ps_ret pe_str))), ?_⟩
    have noT : ∀ {v' : V} {n' : Nat} {D' A' : Addr}, List.lookup ("teach" : Str) (flds x.loop v' n' D' A') = none := fl_no (by simp; decide +kernel) (by simp; decide +kernel) (by simp; decide +kernel) (by simp; decide +kernel) (by simp; decide +kernel)
    refine ⟨_, rfl, p, dx, _, rfl, hp, noT, _, rfl, p, D, A', x, v, b, rfl, L, l0, l12, hlen, hw, w5, few, fun z H1 s1 => ⟨true, te, fun _ a na => ⟨CE, "NoWord", rfl, rfl, List.mem_cons_self, rfl, fun H2 s2 => ?_⟩, fun z => nomatch z⟩, fun z w' ew isw => ⟨fun nx H1 s1 => ⟨true, te, fun _ a na => ⟨CE, "NoWord", rfl, rfl, List.mem_cons_self, rfl, fun H2 s2 => ?_⟩, fun z => nomatch z⟩, fun a nx H1 L1 r1 => ?_⟩⟩
    · rw [kindW_word]
      exact qn z H2 (Same.trans s1 s2)
    · rw [kindW_word]
      exact (q z w' ew isw).1 nx H2 (Same.trans s1 s2)
    · exact (q z w' ew isw).2 a nx H1 L1 r1
end
end Lk
end
section
set_option maxRecDepth 100000
set_option maxHeartbeats 1000000
/-! What is new since a heap. -/
namespace Lk
open PySem PySem.Spec PyProof.Rows L2
def fr (H0 H : Hp) : Hp := fun b => match H0 b with
  | none => H b
  | some _ => none
theorem fr_of {H0 H : Hp} {b : Addr} (h : H0 b = none) : fr H0 H b = H b := by
  unfold fr
  rw [h]
theorem fr_up {H0 H H2 : Hp} (h : ∀ b o, H0 b = none → H b = some o → H2 b = some o) : Same (fr H0 H) (fr H0 H2) := fun b o e => by
  unfold fr at e ⊢
  cases c : H0 b with
  | none =>
    rw [c] at e
    exact h b o c e
  | some z =>
    rw [c] at e
    cases e
theorem fr_in {H0 H : Hp} : Same (fr H0 H) H := fun b o e => by
  unfold fr at e
  cases c : H0 b with
  | none =>
    rw [c] at e
    exact e
  | some z =>
    rw [c] at e
    cases e
/-- a thing that is new, or no object at all -/
def TV (H0 H : Hp) (u : V) : Prop := ∃ d, Th (fr H0 H) u d ∧ ∀ x, d = .str x → x.length ≤ 40000
theorem TV.up {H0 H H2 : Hp} {u : V} (h : TV H0 H u) (k : ∀ b o, H0 b = none → H b = some o → H2 b = some o) : TV H0 H2 u := by
  obtain ⟨d, t, l⟩ := h
  exact ⟨d, Th.same (fr_up k) d t, l⟩
theorem TV.same {H0 H H2 : Hp} {u : V} (h : TV H0 H u) (s : Same H H2) : TV H0 H2 u := h.up fun b o _ e => s b o e
theorem tv_str {H0 H : Hp} {x : Str} (h : x.length ≤ 40000) : TV H0 H (.str x) := ⟨_, .str x, fun y e => by cases e; exact h⟩
theorem tv_of {H0 H : Hp} {u : V} {d : PyData} (t : Th (fr H0 H) u d) (no : ∀ x, d ≠ .str x) : TV H0 H u := ⟨d, t, fun x e => absurd e (no x)⟩
end Lk
end
section
set_option maxRecDepth 100000
set_option maxHeartbeats 2000000
/-! s[::-1] of a text. -/
namespace Lk
open PySem PySem.Spec PyProof.Rows L2
def tRevX (te : TE) : TE := fun σ H Q => te σ H fun x H1 => ∃ l, x = .str (SX.S l) ∧ l.length ≤ 100000 ∧ Q (.str (SX.S l.reverse)) H1
theorem rev_get (l : List Nat) : ((List.range l.length).map fun k => l.toArray.getD (l.length - 1 - k) 0) = l.reverse := by
  refine List.ext_getElem (by rw [List.length_map, List.length_range, List.length_reverse]) fun i h1 h2 => ?_
  rw [List.getElem_map, List.getElem_range, List.getElem_reverse]
  rw [List.length_map, List.length_range] at h1
  simp [Array.getD, show l.length - 1 - i < l.length by omega]
theorem pe_revX {X : Cx} {e : Expr} {te : TE} {k : Nat} {p1 p2 p3 pos : Pos} (he : PE X e te) : PE X (.Subscript e (.Slice none none (some (.UnaryOp .USub (.Constant (.int 1) k p1) p2)) p3) pos) (tRevX te) := by
  refine ⟨fun pins s σ H Q I h => ?_⟩
  refine Subscript_ (thn (he.run pins s σ H _ I h) fun v s1 ⟨x, H1, I1, r1, q1⟩ => ?_)
  obtain ⟨l, ex, hl, q⟩ := q1
  subst ex
  obtain ⟨t, rfl⟩ := r1
  have hst : PO X (some (.UnaryOp .USub (.Constant (.int 1) k p1) p2)) (tPart (tUn (rU fun i => .int (-i)) (tC (.int 1)))) := po_some (pe_un un_neg pe_int)
  refine wpAny_Slice (thn (po_none.run pins s1 σ H1 (fun o H2 => o = none ∧ H2 = H1) I1 ⟨rfl, rfl⟩) fun vl s2 ⟨lo, H2, I2, pl, el, e2⟩ => ?_)
  subst el e2
  refine thn (po_none.run pins s2 σ H2 (fun o H3 => o = none ∧ H3 = H2) I2 ⟨rfl, rfl⟩) fun vu s3 ⟨u, H3, I3, pu, eu, e3⟩ => ?_
  subst eu e3
  refine thn (hst.run pins s3 σ H3 (fun o H4 => o = some (-1) ∧ H4 = H3) I3 ⟨1, rfl, -1, rfl, rfl, rfl⟩) fun vs s4 ⟨o, H4, I4, ps, eo, e4⟩ => ?_
  subst eo e4
  have I5 : Inv X pins σ H4 { s4 with heap := s4.heap.push { cls := .type "slice", data := .fields #[vl, vu, vs] } } := I4.kept (t' := s4.toks) fun b ob q => Heap.get?_push_of_some _ q
  obtain ⟨a1, e1, m1⟩ := IsPart.raw pl
  obtain ⟨a2, e2, m2⟩ := IsPart.raw pu
  obtain ⟨a3, e3, m3⟩ := IsPart.raw ps
  show wpAny (model X.prog X.w) X.A (subscriptTail e (.Slice none none (some (.UnaryOp .USub (.Constant (.int 1) k p1) p2)) p3) (.str (SX.S l) t) (.ref s4.heap.objs.size)) (EP X pins σ Q) X.xe { s4 with heap := s4.heap.push { cls := .type "slice", data := .fields #[vl, vu, vs] } }
  refine tail_any (ops := [.ref s4.heap.objs.size, .str (SX.S l) t]) (typeIs_str _ _ _) F.slot_str_getitem.lookup ?_ (by with_unfolding_all rfl)
  obtain ⟨ak, at3, ea⟩ : ∃ ak at3, a3 = some (ak, at3) := by
    cases a3 with
    | none => cases m3
    | some z => exact ⟨z.1, z.2, rfl⟩
  subst ea
  have ek : ak = -1 := by
    have z : some ak = some (-1 : Int) := m3
    exact Option.some.inj z
  subst ek
  have n1 : a1 = none := by cases a1 with
    | none => rfl
    | some z => cases m1
  have n2 : a2 = none := by cases a2 with
    | none => rfl
    | some z => cases m2
  subst n1 n2 e1 e2 e3
  refine wpAny_getItem_str_slice (l := none) (u := none) (st := some (-1, at3)) ⟨_, Heap.get?_push_size _ rfl, rfl, rfl⟩ rfl ?_
  have er := step_rev_list (SX.S l) at3
  rw [SX.S_len] at er
  have er2 : (Txt.sliceBy (SX.S l) none none (-1, at3)).cps.toList = l.reverse := by
    rw [er, ← rev_get l]
  have es : Txt.sliceBy (SX.S l) none none (-1, at3) = SX.S l.reverse := by
    exact TL.ext_tl er2
  have hlen : (Txt.sliceBy (SX.S l) none none (-1, at3)).length ≤ sizeLine := by
    rw [es, SX.S_len, List.length_reverse]
    exact Nat.le_trans hl (by decide)
  rw [← es] at q
  unfold Txt.sliceBy at q hlen
  unfold sliceMade
  have c : ((((some ((-1 : Int), at3)).map (·.1)).getD 1 == 1 && (slicePicked (SX.S l) none none (some (-1, at3))).length == (SX.S l).length) = true) = False := by
    have z : (((some ((-1 : Int), at3)).map (·.1)).getD 1 == 1) = false := rfl
    rw [z]
    simp
  rw [if_neg (by rw [c]; exact fun z => z)] at q hlen ⊢
  exact ⟨hlen, .str _, H4, I5.tok _, ⟨_, rfl⟩, q⟩
end Lk
end
section
set_option maxRecDepth 100000
set_option maxHeartbeats 4000000
/-! Words and other things, drawn. -/
namespace Lk
open PySem PySem.Spec PyProof.Rows L2
def spThingsT : Sp := fun vs H Q _ => ∃ (a tl tw : Addr) (n : Int) (l : List Nat) (ls : List Nat) (ws : List (List Nat)), vs = [.ref a, .str (SX.S l), .ref tl, .ref tw] ∧ Urn H a n ∧ n ≤ 80000 ∧ isLoop l = true ∧ H tl = some (.tup (ls.map vN)) ∧ ls.length = l.length ∧ (∀ x ∈ ls, x ≤ 3000) ∧
  H tw = some (.tup (tx ws)) ∧ ws.length ≤ 300 ∧ (∀ x ∈ ws, x.length ≤ 1000) ∧
  ∀ R us H', H R = none → H' R = some (.lst us) → us.length ≤ 400 → (∀ u ∈ us, TV H H' u) → Urn H' a (n + 500) → SameBut a H H' → Q (.ref R) H'
abbrev nTh : List Str := ["pail", "loop", "lengths", "known", "spot", "some", "word", "at", "letter", "more", "turn"]
section
variable {P : Program} {w : World} {K : PySem.W.Frag} {mg : Str → Option Value} {base : Heap}
theorem sc_things : FnScope nTh ["pail", "loop", "lengths", "known"] (defScope s_law_things) := ⟨rfl, rfl, rfl, by decide +kernel, rfl, by decide +kernel, by decide +kernel⟩
theorem ok_things {f : Addr} {fd : FuncData} (F : Fun K "_law_things" "_law_things" s_law_things f fd) (dip : C8.Cal P w K mg base 1 "_law_dip" spPull []) (lt : C8.Cal P w K mg base 1 "_law_letters" spLetL []) (ml : mg "len" = none) (mx : mg "max" = none) (mr : mg "range" = none) (mls : mg "list" = none) : FnOk P w K mg base CX0 2 f fd ["pail", "loop", "lengths", "known"] spThingsT := by
  refine F.ok sc_things (fun vs H Q E h => ?_) (fun cdv A outer s H vs Q E hr h => ?_)
  · obtain ⟨a, tl, tw, n, l, ls, ws, rfl, _⟩ := h
    rfl
  · obtain ⟨a, tl, tw, n, l, ls, ws, rfl, hu, n8, hl, htl, hls, h1000, htw, few, short, q⟩ := h
    have nd := sc_things.nd
    refine ⟨_, (pss_cons (by exact (ps_set (i := 4) nd rfl (Or.inr rfl) (C8.pe_c dip hr (by decide) rfl (pa_cons (pv 0) (pa_cons (pe_callB call_len_str (by rfl) ml PySem.boot_len (pa_cons (pv 1) pa_nil)) pa_nil)))))
      (pss_cons (by exact (ps_set (i := 5) nd rfl (Or.inr rfl) (pe_lc (own := [("more", 9)]) (g := (gName 9)) (tt := tYes) rfl nd (pi_tup (pe_tupS (pa_cons (pe_un un_neg pe_int) (pa_cons pe_int (pa_cons pe_int (pa_cons pe_int pa_nil)))))) (blkOk_by (N := nTh) (sc := defScope s_law_things) (by decide +kernel)) (fun _ _ _ _ _ => (pg_name (i := 9) nd rfl (Or.inl rfl))) (fun _ _ _ _ _ => pts_nil) (fun _ _ _ _ _ => (C8.pe_c lt hr (by decide) rfl (pa_cons (pv 1) (pa_cons (pv 4) (pa_cons (pe_callB (call_max2 rfl) (by rfl) mx (by decide +kernel) (pa_cons pe_int (pa_cons (pe_op op_add (pe_ix (ix_tupK (K := K) rfl) (pv 2) (pv 4) (fun _ _ => rfl)) (pv 9)) pa_nil))) pa_nil))))))))
      (pss_cons (by exact (ps_set (i := 6) nd rfl (Or.inl rfl) (C8.pe_c lt hr (by decide) rfl (pa_cons (pv 1) (pa_cons (pv 4) (pa_cons (pe_op op_add (pe_ix ix_tup (pv 2) (pv 4) (fun _ _ => rfl)) pe_int) pa_nil))))))
      (pss_cons (by exact (ps_set (i := 7) nd rfl (Or.inl rfl) (C8.pe_c dip hr (by decide) rfl (pa_cons (pv 0) (pa_cons (pe_callB call_len_str (by rfl) ml PySem.boot_len (pa_cons (pv 6) pa_nil)) pa_nil)))))
      (pss_cons (by exact (ps_set (i := 8) nd rfl (Or.inl rfl) (pe_item_str pe_str (C8.pe_c dip hr (by decide) rfl (pa_cons (pv 0) (pa_cons pe_int pa_nil))) (fun _ _ => rfl))))
      (pss_cons (by exact (ps_set (i := 5) nd rfl (Or.inr rfl) (pe_op op_catS (pv 5) (pe_lstS (pa_cons (pe_op op_add_str (pe_op op_add_str (pe_slice C8.sl_txt (pv 6) po_none (po_some (pv 7))) (pv 8)) (pe_slice C8.sl_txt (pv 6) (po_some (pe_op op_add (pv 7) pe_int)) po_none)) (pa_cons (pe_op op_add_str (pe_slice C8.sl_txt (pv 6) po_none (po_some (pv 7))) (pe_slice C8.sl_txt (pv 6) (po_some (pe_op op_add (pv 7) pe_int)) po_none)) (pa_cons (pe_revX (pv 6)) (pa_cons (pe_upper (pv 6)) (pa_cons (pe_op op_add_str (pv 6) pe_str) pa_nil)))))))))
      (pss_cons (by exact (ps_set (i := 5) nd rfl (Or.inr rfl) (pe_op op_catS (pe_op op_catS (pv 5) (pe_lstS (pa_cons pe_non (pa_cons pe_bl (pa_cons pe_int (pa_cons pe_int (pa_cons (pe_lstS pa_nil) (pa_cons (pe_tupS pa_nil) (pa_cons pe_dnewK (pa_cons (pe_lstS (pa_cons (pv 6) pa_nil)) (pa_cons (pe_tupS (pa_cons (pv 6) pa_nil)) (pa_cons pe_str (pa_cons pe_str (pa_cons pe_str (pa_cons pe_str pa_nil))))))))))))))) (pe_callTy call_lisS (by rfl) mls (by decide +kernel) (pa_cons (pe_slice sl_cutT (pv 3) (po_some (pe_un un_neg pe_int)) po_none) pa_nil)))))
      (pss_one (by exact (ps_ret (pe_lc (own := [("turn", 10)]) (g := (gName 10)) (tt := tYes) rfl nd (pi_range1 (by rfl) mr (pa_cons (pe_callB call_len_seq (by rfl) ml PySem.boot_len (pa_cons (pv 5) pa_nil)) pa_nil)) (blkOk_by (N := nTh) (sc := defScope s_law_things) (by decide +kernel)) (fun _ _ _ _ _ => (pg_name (i := 10) nd rfl (Or.inl rfl))) (fun _ _ _ _ _ => pts_nil) (fun _ _ _ _ _ => (pe_bmK (K := K) rfl PySem.F.plainAttrs_list PySem.F.slot_list_pop PySem.F.type_list_pop mt_popAt (pv 5) (pa_cons (C8.pe_c dip hr (by decide) rfl (pa_cons (pv 0) (pa_cons (pe_callB (call_lenK (K := K) rfl) (by rfl) ml PySem.boot_len (pa_cons (pv 5) pa_nil)) pa_nil))) pa_nil)))))))))))))), ?_⟩
    obtain ⟨az, l1, l12⟩ := isLoop_len hl
    obtain ⟨B40, hB⟩ : ∃ B : Int, B = 10 ^ 40 := ⟨_, rfl⟩
    have bign : (5000 : Int) ≤ B40 := by rw [hB]; decide
    have szl : (SX.S l).length ≤ sizeLine := small12 l12
    refine ⟨_, rfl, _, rfl, SX.S l, rfl, szl, a, _, _, rfl, hu, by omega, by rw [SX.S_len]; omega, by rw [SX.S_len]; omega, fun v H1 v0 vlt u1 sb1 => ?_⟩
    rw [SX.S_len] at vlt
    obtain ⟨sp, rfl⟩ := Int.eq_ofNat_of_zero_le v0
    have hsp : sp < ls.length := by omega
    have m1000 : ls.getD sp 0 ≤ 3000 := by rw [getD_eq hsp]; exact h1000 _ (List.getElem_mem _)
    have tne : ∀ {H' : Hp} {t : Addr} {xs : List V} {n : Int}, H' t = some (.tup xs) → Urn H' a n → t ≠ a := fun e u => by
      obtain ⟨_, _, _, ea, _⟩ := u
      exact tup_ne e ea (fun _ z => nomatch z)
    have netl := tne htl hu
    have netw := tne htw hu
    have htl1 : H1 tl = _ := sb1 _ _ netl htl
    have htw1 : H1 tw = _ := sb1 _ _ netw htw
    have txs : ∀ {H' : Hp} {D : Addr} {ts : List (List Nat)}, H' D = some (.lst (ts.map fun x => V.str (SX.S x))) → H' D = some (.lst (ts.map fun x => V.str (SX.S x))) := fun e => e
    refine ⟨_, rfl, (by show 4 ≤ sizeLine; decide), fun t1 H2 nt1 s2 et1 => ⟨t1, rfl, ⟨_, SqT.of et1⟩, fun D nD => ?_⟩⟩
    refine lc_it (walk_tup (xs := [V.int (-1), V.int 0, V.int 1, V.int 2])) (fun i H' => Same H2 H' ∧ ∃ ts : List (List Nat), ts.length = i ∧ (∀ x ∈ ts, x.length ≤ 6000) ∧ H' D = some (.lst (ts.map fun x => V.str (SX.S x)))) ⟨same_new nD, [], rfl, (by intro x hx; cases hx), upd_same⟩ (fun i H' _ z => SqT.of (z.1 _ _ et1)) ?_ ?_
    · rintro i z H3 H4 hi ⟨s3, ts, lts, hts, e3⟩ ⟨rfl, hx⟩
      obtain ⟨m, m0, m1, rfl⟩ : ∃ m : Int, -1 ≤ m ∧ m ≤ 2 ∧ z = .int m := by
        match i, hx with
        | 0, hx => exact ⟨-1, by decide, by decide, (Option.some.inj hx).symm⟩
        | 1, hx => exact ⟨0, by decide, by decide, (Option.some.inj hx).symm⟩
        | 2, hx => exact ⟨1, by decide, by decide, (Option.some.inj hx).symm⟩
        | 3, hx => exact ⟨2, by decide, by decide, (Option.some.inj hx).symm⟩
        | k + 4, hx => cases hx
      obtain ⟨k, hk, k1⟩ : ∃ k : Nat, (if ((ls.getD sp 0 : Nat) : Int) + m > 0 then ((ls.getD sp 0 : Nat) : Int) + m else 0) = (k : Int) ∧ k ≤ 3002 := by
        by_cases c : ((ls.getD sp 0 : Nat) : Int) + m > 0
        · exact ⟨(((ls.getD sp 0 : Nat) : Int) + m).toNat, by rw [if_pos c]; omega, by omega⟩
        · exact ⟨0, by rw [if_neg c]; rfl, by decide⟩
      refine ⟨rfl, _, rfl, _, rfl, _, rfl, _, rfl, tl, _, (sp : Int), _, rfl, rfl, SqT.of (s3 _ _ (s2 _ _ htl1)), atI_nat (nat_at hsp), _, rfl, _, _, rfl, rfl, _, _, rfl, l, sp, k, ?_, l1, l12, by omega, fun H5 s5 => ⟨_, s5 _ _ e3, ?_, same_push (s3.trans s5) nD, ts ++ [run l sp k], by rw [List.length_append, lts]; rfl, fun x hx => ?_, ?_⟩⟩
      · show [V.str (SX.S l), V.int (sp : Int), V.int (if ((ls.getD sp 0 : Nat) : Int) + m > 0 then ((ls.getD sp 0 : Nat) : Int) + m else 0)] = _
        rw [hk]
      · rw [List.length_map, lts]
        exact Nat.lt_of_le_of_lt (show i ≤ 4 by exact Nat.le_of_lt hi) (by decide)
      · rcases List.mem_append.mp hx with z | z
        · exact hts x z
        · rw [List.mem_singleton.mp z, run_len]; omega
      · rw [upd_same, List.map_append]
        rfl
    rintro H3 ⟨s3, ts, lts, hts, e3⟩
    have htl3 := s3 _ _ (s2 _ _ htl1)
    refine ⟨_, rfl, _, rfl, _, rfl, _, rfl, tl, _, (sp : Int), _, rfl, rfl, SqT.of htl3, atI_nat (nat_at hsp), _, _, rfl, rfl, l, sp, ls.getD sp 0 + 1, ?_, l1, l12, by omega, fun H4 s4 => ?_⟩
    · show [V.str (SX.S l), V.int (sp : Int), V.int (((ls.getD sp 0 : Nat) : Int) + 1)] = _
      rw [show ((ls.getD sp 0 : Nat) : Int) + 1 = ((ls.getD sp 0 + 1 : Nat) : Int) by push_cast; rfl]
    obtain ⟨wd, ewd⟩ : ∃ wd, wd = run l sp (ls.getD sp 0 + 1) := ⟨_, rfl⟩
    have wl : wd.length = ls.getD sp 0 + 1 := by rw [ewd, run_len]
    have wlow : ∀ c ∈ wd, c < 128 := fun c hc => by
      have z := az_run az (by omega) sp (ls.getD sp 0 + 1) c (by rw [← ewd]; exact hc)
      omega
    rw [← ewd]
    have szw : (SX.S wd).length ≤ sizeLine := by rw [SX.S_len]; exact Nat.le_trans (show wd.length ≤ 3001 by omega) (by decide)
    have s14 : Same H1 H4 := s2.trans (s3.trans s4)
    have u4 := u1.same s14
    have e4 := s4 _ _ e3
    refine ⟨_, rfl, _, rfl, SX.S wd, rfl, szw, a, _, _, rfl, u4, by omega, by rw [SX.S_len]; omega, by rw [SX.S_len]; omega, fun v5 H5 v50 v51 u5 sb5 => ?_⟩
    rw [SX.S_len] at v51
    obtain ⟨at_, rfl⟩ := Int.eq_ofNat_of_zero_le v50
    rw [alB_S]
    refine ⟨_, rfl, a, 26, _, rfl, u5, by omega, by decide, by decide, fun v6 H6 v60 v61 u6 sb6 => ?_⟩
    obtain ⟨k6, rfl⟩ := Int.eq_ofNat_of_zero_le v60
    have alen : alB.length = 26 := by decide +kernel
    obtain ⟨c, hc⟩ : ∃ c, alB[k6]? = some c := ⟨_, List.getElem?_eq_getElem (by omega)⟩
    refine ⟨_, _, c, rfl, rfl, by omega, by omega, by rw [SX.S_len]; omega, ?_, ?_⟩
    · show (alB.toArray)[k6]? = some c
      rw [List.getElem?_toArray]
      exact hc
    have sb06 : SameBut a H H6 := sb1.trans ((Same.but s14).trans (sb5.trans sb6))
    have nDa : D ≠ a := ((u1.same s2).ne nD).symm
    have e6 : H6 D = _ := sb6 _ _ nDa (sb5 _ _ nDa e4)
    have nDH : H D = none := by
      cases e : H D with
      | none => rfl
      | some o => rw [s2 _ _ (sb1 _ _ nDa e)] at nD; cases nD
    have small : ∀ {x y : List Nat}, x.length ≤ 6000 → y.length ≤ 6000 → (SX.S x).length + (SX.S y).length ≤ sizeLine := fun h1 h2 => by
      rw [SX.S_len, SX.S_len]
      exact Nat.le_trans (show _ ≤ 12000 by omega) (by decide)
    have eb : Str.ofString " " = SX.S [32] := by decide +kernel
    refine ⟨_, rfl, _, rfl, _, rfl, _, rfl, SX.S wd, rfl, szw, ?_⟩
    rw [SX.slice_to (by omega), Int.toNat_natCast]
    refine ⟨_, rfl, SX.S (wd.take at_), SX.S [c], rfl, rfl, small (by rw [List.length_take]; omega) (by show 1 ≤ 6000; decide), ?_⟩
    rw [SX.S_cat]
    refine ⟨_, rfl, _, rfl, _, _, rfl, rfl, _, rfl, SX.S wd, rfl, szw, ?_⟩
    rw [show (at_ : Int) + 1 = ((at_ + 1 : Nat) : Int) from rfl, SX.slice_from (by omega), Int.toNat_natCast]
    refine ⟨SX.S (wd.take at_ ++ [c]), SX.S (wd.drop (at_ + 1)), rfl, rfl, small (by rw [List.length_append, List.length_take]; show _ + 1 ≤ 6000; omega) (by rw [List.length_drop]; omega), ?_⟩
    rw [SX.S_cat]
    refine ⟨_, rfl, _, rfl, _, rfl, SX.S wd, rfl, szw, ?_⟩
    rw [SX.slice_to (by omega), Int.toNat_natCast]
    refine ⟨_, rfl, _, rfl, _, _, rfl, rfl, _, rfl, SX.S wd, rfl, szw, ?_⟩
    rw [show (at_ : Int) + 1 = ((at_ + 1 : Nat) : Int) from rfl, SX.slice_from (by omega), Int.toNat_natCast]
    refine ⟨SX.S (wd.take at_), SX.S (wd.drop (at_ + 1)), rfl, rfl, small (by rw [List.length_take]; omega) (by rw [List.length_drop]; omega), ?_⟩
    rw [SX.S_cat]
    refine ⟨_, rfl, wd, rfl, by omega, _, rfl, ⟨_, rfl⟩, _, rfl, rfl, by rw [SX.S_len]; omega, ?_⟩
    rw [SX.upper_S (List.all_eq_true.mpr fun c hc => decide_eq_true (wlow c hc))]
    refine ⟨_, rfl, SX.S wd, Str.ofString " ", rfl, rfl, by rw [eb]; exact small (by omega) (by show 1 ≤ 6000; decide), ?_⟩
    rw [eb, SX.S_cat]
    refine ⟨(by show 5 ≤ sizeLine; decide), fun L1 H7 nL1 s7 eL1 => ⟨D, L1, _, _, rfl, rfl, s7 _ _ e6, eL1, by rw [List.length_map, lts]; exact Nat.le_trans (show 4 + 5 ≤ 10 by decide) (by decide), fun S1 H8 nS1 s8 eS1 => ?_⟩⟩
    refine ⟨_, rfl, Nat.zero_le _, fun E1 H9 nE1 s9 eE1 => ⟨Nat.zero_le _, fun E2 H10 nE2 s10 eE2 => fun E3 nE3 => ?_⟩⟩
    have s11 := same_new (o := .dK []) nE3
    have eE3 : upd H10 E3 (.dK []) E3 = some (.dK []) := upd_same
    generalize upd H10 E3 (.dK []) = H11 at s11 eE3 ⊢
    refine ⟨_, rfl, (by show 1 ≤ sizeLine; decide), fun E4 H12 nE4 s12 eE4 => ⟨_, rfl, (by show 1 ≤ sizeLine; decide), fun E5 H13 nE5 s13 eE5 => ⟨(by show 13 ≤ sizeLine; decide), fun E6 H14 nE6 s14' eE6 => ?_⟩⟩⟩
    refine ⟨S1, E6, _, _, rfl, rfl, s14' _ _ (s13 _ _ (s12 _ _ (s11 _ _ (s10 _ _ (s9 _ _ eS1))))), eE6, by rw [List.length_append, List.length_map, lts]; exact Nat.le_trans (show 4 + 5 + 13 ≤ 30 by decide) (by decide), fun S2 H15 nS2 s15 eS2 => ?_⟩
    have s615 : Same H6 H15 := s7.trans (s8.trans (s9.trans (s10.trans (s11.trans (s12.trans (s13.trans (s14'.trans s15)))))))
    have htw6 : H6 tw = _ := sb06 _ _ netw htw
    have htw15 := s615 _ _ htw6
    refine ⟨_, rfl, _, rfl, _, rfl, tw, _, rfl, htw15, fun E7 H16 s16 eE7 => ?_⟩
    refine ⟨E7, _, rfl, .inr eE7, fun E8 H17 nE8 s17 eE8 => ?_⟩
    obtain ⟨kn, ekn⟩ : ∃ kn, kn = cutV (tx ws) (some (-2)) Option.none := ⟨_, rfl⟩
    have knl : kn.length ≤ 300 := by
      rw [ekn]
      refine Nat.le_trans (cutV_length _ _ _) ?_
      rw [show (tx ws).length = ws.length from List.length_map _]
      exact few
    have knm : ∀ u ∈ kn, ∃ x ∈ ws, u = V.str (SX.S x) := fun u hm => by
      rw [ekn] at hm
      unfold cutV at hm
      have z := List.mem_of_mem_drop (List.mem_of_mem_take hm)
      obtain ⟨x, hx, e⟩ := List.mem_map.mp z
      exact ⟨x, hx, e.symm⟩
    have eE8' : H17 E8 = some (.lst kn) := by rw [eE8, ekn]
    have s1517 := s16.trans s17
    refine ⟨S2, E8, _, _, rfl, rfl, s1517 _ _ eS2, eE8', by rw [List.length_append, List.length_append, List.length_map, lts]; exact Nat.le_trans (show 4 + 5 + 13 + kn.length ≤ 400 by omega) (by decide), fun S3 H18 nS3 s18 eS3 => ?_⟩
    have s618 : Same H6 H18 := s615.trans (s1517.trans s18)
    have newH : ∀ {b : Addr} {Hx : Hp}, Same H6 Hx → Hx b = none → H b = none := fun {b Hx} s nb => by
      have ne : b ≠ a := fun z => by
        obtain ⟨_, _, _, ea, _⟩ := u6
        rw [z, s _ _ ea] at nb
        cases nb
      cases e : H b with
      | none => rfl
      | some o =>
        rw [s _ _ (sb06 _ _ ne e)] at nb
        cases nb
    have s68 := s7.trans s8
    have hE1 := newH s68 nE1
    have s69 := s68.trans s9
    have hE2 := newH s69 nE2
    have s610 := s69.trans s10
    have hE3 := newH s610 nE3
    have s611 := s610.trans s11
    have hE4 := newH s611 nE4
    have s612 := s611.trans s12
    have hE5 := newH s612 nE5
    have s613 := s612.trans s13
    have s1118 : Same H13 H18 := s14'.trans (s15.trans (s1517.trans s18))
    have hS3 := newH (s615.trans s1517) nS3
    obtain ⟨us0, eus0⟩ : ∃ us0, us0 = ts.map (fun x => V.str (SX.S x)) ++ [V.str (SX.S (wd.take at_ ++ [c] ++ wd.drop (at_ + 1))), V.str (SX.S (wd.take at_ ++ wd.drop (at_ + 1))), V.str (SX.S wd.reverse), V.str (SX.S (wd.map PyProof.Rows.up1)), V.str (SX.S (wd ++ [32]))] ++ [V.non, V.bl true, V.int 0, V.int 7, V.ref E1, V.ref E2, V.ref E3, V.ref E4, V.ref E5, V.str (Str.ofString ""), V.str (SX.S [32]), V.str (Str.ofString "\n"), V.str (Str.ofString "-")] ++ kn := ⟨_, rfl⟩
    have eS3' : H18 S3 = some (.lst us0) := by rw [eS3, eus0]
    have us0l : us0.length ≤ 322 := by
      rw [eus0, List.length_append, List.length_append, List.length_append, List.length_map, lts]
      exact (show 4 + 5 + 13 + kn.length ≤ 322 by omega)
    have u18 := u6.same s618
    have sb18 : SameBut a H H18 := sb06.trans (Same.but s618)
    refine ⟨_, rfl, S3, us0, rfl, .inl (SqL.of eS3'), (us0.length : Int), rfl, by omega, by omega, fun DR nDR => ?_⟩
    rw [Int.toNat_natCast]
    have hDR := newH s618 nDR
    have nS3D : S3 ≠ DR := ne_of_none eS3' nDR
    obtain ⟨_, _, _, ea18, _⟩ := id u18
    have nDRa : DR ≠ a := (ne_of_none ea18 nDR).symm
    have nS3a : S3 ≠ a := ((u6.same (s615.trans s1517)).ne nS3).symm
    obtain ⟨Hm, eHm⟩ : ∃ Hm : Hp, Hm = upd (upd H S3 (.lst [])) DR (.lst []) := ⟨_, rfl⟩
    have hm_no : ∀ {b : Addr}, Hm b = none → H b = none ∧ b ≠ S3 ∧ b ≠ DR := fun {b} e => by
      rw [eHm] at e
      have n1 : b ≠ DR := fun z => by rw [z, upd_same] at e; cases e
      rw [upd_ne n1] at e
      have n2 : b ≠ S3 := fun z => by rw [z, upd_same] at e; cases e
      rw [upd_ne n2] at e
      exact ⟨e, n2, n1⟩
    have hm_yes : ∀ {b : Addr}, H b = none → b ≠ S3 → b ≠ DR → Hm b = none := fun {b} e n1 n2 => by
      rw [eHm, upd_ne n2, upd_ne n1]
      exact e
    have back : ∀ {Hx : Hp} {u : V}, TV Hm Hx u → TV H Hx u := fun {Hx u} ⟨d, t, l⟩ => ⟨d, Th.same (fun b o e => by
      unfold fr at e ⊢
      cases c : Hm b with
      | none =>
        rw [c] at e
        rw [(hm_no c).1]
        exact e
      | some z =>
        rw [c] at e
        cases e) d t, l⟩
    have upa : ∀ {b : Addr} {o : HO} {ob : HO}, H18 b = some o → H b = none → b ≠ S3 → (upd H18 DR ob) b = some o ∧ Hm b = none := fun {b o ob} e hb n1 => by
      have n2 : b ≠ DR := ne_of_none e nDR
      exact ⟨(upd_ne n2).trans e, hm_yes hb n1 n2⟩
    have fe : ∀ {b : Addr} {o : HO}, H18 b = some o → H b = none → b ≠ S3 → fr Hm (upd H18 DR (.lst [])) b = some o := fun e hb n1 => by
      obtain ⟨h1, h2⟩ := upa (ob := .lst []) e hb n1
      rw [fr_of h2]
      exact h1
    have tv0 : ∀ u ∈ us0, TV Hm (upd H18 DR (.lst [])) u := fun u hm => by
      have tx1 : ∀ {x : List Nat}, x.length ≤ 9000 → TV Hm (upd H18 DR (.lst [])) (.str (SX.S x)) := fun h => tv_str (by rw [SX.S_len]; omega)
      rw [eus0] at hm
      rcases List.mem_append.mp hm with hm | hm
      · rcases List.mem_append.mp hm with hm | hm
        · rcases List.mem_append.mp hm with hm | hm
          · obtain ⟨x, hx, rfl⟩ := List.mem_map.mp hm
            exact tx1 (by have := hts x hx; omega)
          · simp only [List.mem_cons, List.not_mem_nil, or_false] at hm
            rcases hm with rfl | rfl | rfl | rfl | rfl
            · exact tx1 (by rw [List.length_append, List.length_append, List.length_take, List.length_drop]; show _ + 1 + _ ≤ 9000; omega)
            · exact tx1 (by rw [List.length_append, List.length_take, List.length_drop]; omega)
            · exact tx1 (by rw [List.length_reverse]; omega)
            · exact tx1 (by rw [List.length_map]; omega)
            · exact tx1 (by rw [List.length_append]; show _ + 1 ≤ 9000; omega)
        · have ne : ∀ {b : Addr} {o : HO}, H18 b = some o → H18 S3 ≠ some o → b ≠ S3 := fun e n z => n (z ▸ e)
          have neS : ∀ {b : Addr} {Hx : Hp} {o : HO}, Hx b = some o → Same Hx H18 → Hx S3 = none → b ≠ S3 := fun e s n => ne_of_none e n
          have g17 : ∀ {b : Addr} {o : HO}, H13 b = some o → b ≠ S3 := fun e => ne_of_none ((s14'.trans (s15.trans s1517)) _ _ e) nS3
          simp only [List.mem_cons, List.not_mem_nil, or_false] at hm
          rcases hm with rfl | rfl | rfl | rfl | rfl | rfl | rfl | rfl | rfl | rfl | rfl | rfl | rfl
          · exact tv_of .non (fun x e => nomatch e)
          · exact tv_of (.bl _) (fun x e => nomatch e)
          · exact tv_of (.int _) (fun x e => nomatch e)
          · exact tv_of (.int _) (fun x e => nomatch e)
          · have e13 := (s10.trans (s11.trans (s12.trans s13))) _ _ eE1
            exact tv_of (.lst (fe (s1118 _ _ e13) hE1 (g17 e13)) .nil) (fun x e => nomatch e)
          · have e13 := (s11.trans (s12.trans s13)) _ _ eE2
            exact tv_of (.tup (fe (s1118 _ _ e13) hE2 (g17 e13)) .nil) (fun x e => nomatch e)
          · have e13 := (s12.trans s13) _ _ eE3
            exact tv_of (.dct (fe (s1118 _ _ e13) hE3 (g17 e13))) (fun x e => nomatch e)
          · have e13 := s13 _ _ eE4
            exact tv_of (.lst (fe (s1118 _ _ e13) hE4 (g17 e13)) (.cons (.str _) .nil)) (fun x e => nomatch e)
          · exact tv_of (.tup (fe (s1118 _ _ eE5) hE5 (g17 eE5)) (.cons (.str _) .nil)) (fun x e => nomatch e)
          · exact tv_str (by decide +kernel)
          · exact tx1 (by decide)
          · exact tv_str (by decide +kernel)
          · exact tv_str (by decide +kernel)
      · obtain ⟨x, hx, rfl⟩ := knm u hm
        exact tx1 (by have := short x hx; omega)
    have bagU : ∀ {H' : Hp} {c : Addr} {o : HO} {m : Int}, Urn H' a m → a ≠ c → Urn (upd H' c o) a m := fun h ne => by
      obtain ⟨u0, u1, u2, e, r⟩ := h
      exact ⟨u0, u1, u2, (upd_ne ne).trans e, r⟩
    refine lc_range (lo := 0) (n := us0.length) (fun i H' => ∃ us rs : List V, us.length + i = us0.length ∧ rs.length = i ∧ H' S3 = some (.lst us) ∧ H' DR = some (.lst rs) ∧ (∀ u ∈ us, TV Hm H' u) ∧ (∀ u ∈ rs, TV Hm H' u) ∧ Urn H' a (n + 10 + (i : Int)) ∧ SameBut a H H') ⟨us0, [], rfl, rfl, (upd_ne nS3D).trans eS3', upd_same, tv0, (by intro u hm; cases hm), (bagU u18 nDRa.symm).le (by omega), (by intro b o nb e; rw [upd_ne (ne_of_none e hDR)]; exact sb18 b o nb e)⟩ ?_ ?_
    · rintro i H19 hi ⟨us, rs, lus, lrs, eU, eR, tU, tR, u19, sb19⟩
      refine ⟨rfl, _, rfl, .inl ⟨rfl, _, SqL.of eU⟩, _, rfl, _, rfl, S3, _, rfl, .inl (SqL.of eU), a, _, _, rfl, u19, by omega, by omega, by omega, fun v H20 v0 v1 u20 sb20 => ?_⟩
      have eU20 := sb20 S3 _ nS3a eU
      have eR20 := sb20 DR _ nDRa eR
      have hv : v.toNat < us.length := by omega
      have hy : us[v.toNat]? = some (us[v.toNat]) := List.getElem?_eq_getElem hv
      have up20 : ∀ {o1 o2 : HO} {u : V}, TV Hm H19 u → TV Hm (upd (upd H20 S3 o1) DR o2) u := fun h => h.up fun b o hb e => by
        obtain ⟨h1, h2, h3⟩ := hm_no hb
        rw [upd_ne h3, upd_ne h2]
        refine sb20 b o (fun z => ?_) e
        obtain ⟨_, _, _, ea, _⟩ := hu
        rw [z, ea] at h1
        cases h1
      refine ⟨S3, us, v, v.toNat, us[v.toNat], rfl, rfl, eU20, by omega, by omega, by exact seq_at v0 v1, hy, rs, by rw [upd_ne nS3D.symm]; exact eR20, ?_, us.eraseIdx v.toNat, rs ++ [us[v.toNat]], ?_, ?_, ?_, upd_same, fun u hm => up20 (tU u (List.mem_of_mem_eraseIdx hm)), fun u hm => ?_, ?_, fun b o nb e => ?_⟩
      · rw [lrs]
        exact Nat.lt_of_le_of_lt (show i ≤ 322 by omega) (by decide)
      · rw [List.length_eraseIdx, if_pos hv]
        omega
      · rw [List.length_append, lrs]; rfl
      · rw [upd_ne nS3D, upd_same]
      · rcases List.mem_append.mp hm with z | z
        · exact up20 (tR u z)
        · rw [List.mem_singleton.mp z]
          exact up20 (tU _ (List.getElem_mem hv))
      · exact (bagU (bagU u20 nS3a.symm) nDRa.symm).le (by push_cast; omega)
      · rw [upd_ne (ne_of_none e hDR), upd_ne (ne_of_none e hS3)]
        exact sb20 b o nb (sb19 b o nb e)
    · rintro H19 ⟨us, rs, lus, lrs, eU, eR, tU, tR, u19, sb19⟩
      exact q DR rs H19 hDR eR (by omega) (fun u hm => back (tR u hm)) (u19.le (by omega)) sb19
end
end Lk
end
section
set_option maxRecDepth 100000
set_option maxHeartbeats 2000000
/-! Coders turned: they go on, come to their rounds, are led to, turned likewise. -/
namespace Lk
open PySem PySem.Spec PyProof.Rows L2
theorem two_mod {p x : Nat} (hx : x < 2 * p) : x % p = if x < p then x else x - p := by
  split
  · rename_i h
    exact Nat.mod_eq_of_lt h
  · rename_i h
    rw [Nat.mod_eq_sub_mod (by omega), Nat.mod_eq_of_lt (by omega)]
theorem turn_iff {p y a b : Nat} (hy : y < p) (ha : a < p) (hb : b < p) : b = (a + y) % p ↔ (b + (p - y)) % p = a := by
  rw [two_mod (x := a + y) (by omega), two_mod (x := b + (p - y)) (by omega)]
  split <;> split <;> omega
theorem back_turn {p y a : Nat} (hy : y < p) (ha : a < p) : ((a + y) % p + (p - y)) % p = a :=
  (turn_iff hy ha (Nat.mod_lt _ (by omega))).mp rfl
theorem trn_len1 {c : Cd} {y : Nat} (hy : y < c.2.length) (h : COk c) : len (trn c y) (trn c y).1 = len c c.1 := by
  have hp : 0 < c.2.length := by omega
  show len (trn c y) ((c.1 + y) % c.2.length) = _
  rw [trn_at hy (Nat.mod_lt _ hp), back_turn hy h]
theorem cd_ext {c d : Cd} (h1 : c.1 = d.1) (hl : c.2.length = d.2.length) (h : ∀ i, i < c.2.length → len c i = len d i) : c = d := by
  refine Prod.ext h1 (List.ext_getElem hl fun i hi hj => ?_)
  have z := h i hi
  unfold len at z
  rw [List.getD_eq_getElem?_getD, List.getD_eq_getElem?_getD, List.getElem?_eq_getElem hi, List.getElem?_eq_getElem hj] at z
  exact z
theorem nx_trn {c : Cd} {y : Nat} (h : COk c) (hy : y < c.2.length) : nx (trn c y) = trn (nx c) y := by
  have hp : 0 < c.2.length := by omega
  have tl := trn_len c y
  have t1 := trn_len1 hy h
  have tok := trn_ok h y
  refine cd_ext ?_ (by rw [nx_len, trn_len, trn_len, nx_len]) fun k hk => ?_
  · show ((trn c y).1 + (len (trn c y) (trn c y).1 + 1)) % (trn c y).2.length = ((nx c).1 + y) % (nx c).2.length
    rw [t1, tl, nx_len]
    show ((c.1 + y) % c.2.length + (len c c.1 + 1)) % c.2.length = ((c.1 + (len c c.1 + 1)) % c.2.length + y) % c.2.length
    rw [Nat.mod_add_mod, Nat.mod_add_mod]
    congr 1
    omega
  · rw [nx_len, tl] at hk
    have hb : (k + (c.2.length - y)) % c.2.length < c.2.length := Nat.mod_lt _ hp
    have r := trn_at (c := nx c) (y := y) (k := k) (by rw [nx_len]; exact hy) (by rw [nx_len]; exact hk)
    rw [nx_len] at r
    rw [r]
    have iff := turn_iff hy h hk
    by_cases e : k = (trn c y).1
    · have e2 : (k + (c.2.length - y)) % c.2.length = c.1 := iff.mp e
      rw [e2, len_nx_same h, e, len_nx_same tok, t1]
    · have e2 : (k + (c.2.length - y)) % c.2.length ≠ c.1 := fun z => e (iff.mpr z)
      rw [len_nx_ne e, len_nx_ne e2, trn_at hy hk]
theorem it_trn {c : Cd} {y : Nat} (h : COk c) (hy : y < c.2.length) : ∀ n, it n (trn c y) = trn (it n c) y
  | 0 => rfl
  | n + 1 => by
    rw [it_succ, it_succ, it_trn h hy n]
    exact nx_trn (it_ok n h) (by rw [it_len]; exact hy)
theorem free_trn1 {c : Cd} {y : Nat} (h : COk c) (hy : y < c.2.length) (f : Free c) : Free (trn c y) := by
  have tl := trn_len c y
  refine free_again (trn_ok h y) ?_
  rw [tl, it_trn h hy, it_round h f]
  refine cd_ext ?_ ?_ fun k hk => ?_
  · show (c.1 + y) % (c.2.map (· + c.2.length)).length = (c.1 + y) % c.2.length
    rw [List.length_map]
  · show (trn (c.1, c.2.map (· + c.2.length)) y).2.length = ((trn c y).2.map (· + c.2.length)).length
    rw [trn_len, List.length_map, List.length_map, tl]
  · rw [trn_len] at hk
    have hk : k < c.2.length := by
      have z : k < (c.2.map (· + c.2.length)).length := hk
      rwa [List.length_map] at z
    have a := trn_at (c := (c.1, c.2.map (· + c.2.length))) (y := y) (k := k) (by show y < (c.2.map _).length; rw [List.length_map]; exact hy) (by show k < (c.2.map _).length; rw [List.length_map]; exact hk)
    rw [a]
    show (c.2.map (· + c.2.length)).getD ((k + ((c.2.map (· + c.2.length)).length - y)) % (c.2.map (· + c.2.length)).length) 0 = ((trn c y).2.map (· + c.2.length)).getD k 0
    rw [List.length_map, getD_map_add _ _ (Nat.mod_lt _ (by omega)), getD_map_add _ _ (by rw [tl]; exact hk)]
    exact congrArg (· + c.2.length) (trn_at hy hk).symm
theorem trn_zero {c : Cd} (h : COk c) : trn c 0 = c := by
  have h : c.1 < c.2.length := h
  refine cd_ext ?_ (trn_len c 0) fun k hk => ?_
  · show (c.1 + 0) % c.2.length = c.1
    rw [Nat.add_zero, Nat.mod_eq_of_lt h]
  · rw [trn_len] at hk
    rw [trn_at (by omega) hk, Nat.sub_zero, Nat.add_mod_right, Nat.mod_eq_of_lt hk]
theorem trn_back {c : Cd} {y : Nat} (h : COk c) (hy : y < c.2.length) (y0 : 0 < y) : trn (trn c y) (c.2.length - y) = c := by
  have h : c.1 < c.2.length := h
  have tl := trn_len c y
  refine cd_ext ?_ (by rw [trn_len, tl]) fun k hk => ?_
  · show ((c.1 + y) % c.2.length + (c.2.length - y)) % (trn c y).2.length = c.1
    rw [tl, back_turn hy h]
  · rw [trn_len, tl] at hk
    have hb : (k + y) % c.2.length < c.2.length := Nat.mod_lt _ (by omega)
    rw [trn_at (by rw [tl]; omega) (by rw [tl]; exact hk), tl, show c.2.length - (c.2.length - y) = y by omega, trn_at hy hb, back_turn hy hk]
theorem free_trn {c : Cd} {y : Nat} (h : COk c) (hy : y < c.2.length) : Free (trn c y) ↔ Free c := by
  refine ⟨fun f => ?_, free_trn1 h hy⟩
  rcases Nat.eq_zero_or_pos y with z | z
  · subst z
    rw [trn_zero h] at f
    exact f
  · have e := trn_back h hy z
    rw [← e]
    exact free_trn1 (trn_ok h y) (by rw [trn_len]; omega) f
theorem ahead_trn {c : Cd} {y n : Nat} (h : COk c) (hy : y < c.2.length) (a : Ahead c n) : Ahead (trn c y) n := by
  have fr : ∀ m, Free (it m (trn c y)) ↔ Free (it m c) := fun m => by
    rw [it_trn h hy]
    exact free_trn (it_ok m h) (by rw [it_len]; exact hy)
  exact ⟨(fr n).mpr a.1, fun m hm f => a.2 m hm ((fr m).mp f)⟩
theorem wd_trn {c : Cd} {y : Nat} (h : COk c) (hy : y < c.2.length) : wd (trn c y) = (((wd c).1 + y) % c.2.length, (wd c).2) := by
  unfold wd
  rw [trn_len1 hy h]
  rfl
/-! ### what leads to it -/
theorem go_trn {c : Cd} {y k : Nat} (hy : y < c.2.length) (hk : k < c.2.length) : len (trn c y) ((k + y) % c.2.length) = len c k ∧ go (trn c y) ((k + y) % c.2.length) = (go c k + y) % c.2.length := by
  have hp : 0 < c.2.length := by omega
  have e : len (trn c y) ((k + y) % c.2.length) = len c k := by rw [trn_at hy (Nat.mod_lt _ hp), back_turn hy hk]
  refine ⟨e, ?_⟩
  unfold go
  rw [e, trn_len, Nat.mod_add_mod, Nat.mod_add_mod]
  congr 1
  omega
theorem turn_inj {p y a b : Nat} (hy : y < p) (ha : a < p) (hb : b < p) (e : (a + y) % p = (b + y) % p) : a = b := by
  rw [← back_turn hy ha, e, back_turn hy hb]
theorem bef_trn {c : Cd} {y k : Nat} (h : COk c) (hy : y < c.2.length) (hk : k < c.2.length) : (k + y) % c.2.length ∈ bef (trn c y) ↔ k ∈ bef c := by
  have hp : 0 < c.2.length := by omega
  obtain ⟨e1, e2⟩ := go_trn hy hk
  rw [bef_mem, bef_mem, trn_len, e1, e2]
  have gl := go_lt h k
  constructor
  · rintro ⟨_, b, d⟩
    exact ⟨hk, turn_inj hy gl h b, d⟩
  · rintro ⟨_, b, d⟩
    exact ⟨Nat.mod_lt _ hp, by rw [b]; rfl, d⟩
theorem prv_trn {c : Cd} {y k : Nat} (h : COk c) (hy : y < c.2.length) (hk : k < c.2.length) : prv (trn c y) ((k + y) % c.2.length) = trn (prv c k) y := by
  have hp : 0 < c.2.length := by omega
  obtain ⟨e1, _⟩ := go_trn hy hk
  have pl : (prv c k).2.length = c.2.length := List.length_set
  have lp : ∀ (d : Cd) (j i : Nat), i < d.2.length → len (prv d j) i = if j = i then len d j - 1 else len d i := fun d j i hi => by
    unfold prv len
    rw [List.getD_eq_getElem?_getD, List.getElem?_set]
    split
    · rename_i e
      subst e
      rw [if_pos hi]
      rfl
    · rw [List.getD_eq_getElem?_getD]
  refine cd_ext ?_ ?_ fun i hi => ?_
  · show (k + y) % c.2.length = ((prv c k).1 + y) % (prv c k).2.length
    rw [pl]
    rfl
  · show ((trn c y).2.set _ _).length = _
    rw [List.length_set, trn_len, trn_len, pl]
  · have hi : i < c.2.length := by
      have z : i < ((trn c y).2.set ((k + y) % c.2.length) (len (trn c y) ((k + y) % c.2.length) - 1)).length := hi
      rw [List.length_set, trn_len] at z
      exact z
    have a := trn_at (c := prv c k) (y := y) (k := i) (by rw [pl]; exact hy) (by rw [pl]; exact hi)
    rw [pl] at a
    rw [a, lp _ _ _ (by rw [trn_len]; exact hi), lp _ _ _ (Nat.mod_lt _ hp), e1]
    have iff := turn_iff hy hk hi
    by_cases e : (k + y) % c.2.length = i
    · rw [if_pos e, if_pos (iff.mp e.symm).symm]
    · rw [if_neg e, if_neg (fun z => e (iff.mpr z.symm).symm), trn_at hy hi]
theorem bef_nodup (c : Cd) : (bef c).Nodup := List.Pairwise.filter _ List.nodup_range
/-- the places that lead there, turned -/
theorem bef_perm {c : Cd} {y : Nat} (h : COk c) (hy : y < c.2.length) : (bef (trn c y)).Perm ((bef c).map fun k => (k + y) % c.2.length) := by
  have hp : 0 < c.2.length := by omega
  have nd2 : ((bef c).map fun k => (k + y) % c.2.length).Nodup := by
    refine List.pairwise_map.mpr (List.Pairwise.imp_of_mem (fun {a b} ha hb ne e => ne ?_) (bef_nodup c))
    exact turn_inj hy (bef_mem.mp ha).1 (bef_mem.mp hb).1 e
  refine (List.perm_ext_iff_of_nodup (bef_nodup _) nd2).mpr fun q => ?_
  constructor
  · intro hq
    have ql : q < c.2.length := by
      have z := (bef_mem.mp hq).1
      rwa [trn_len] at z
    have hb : (q + (c.2.length - y)) % c.2.length < c.2.length := Nat.mod_lt _ hp
    have e : ((q + (c.2.length - y)) % c.2.length + y) % c.2.length = q := ((turn_iff hy hb ql).mpr rfl).symm
    refine List.mem_map.mpr ⟨(q + (c.2.length - y)) % c.2.length, (bef_trn h hy hb).mp (by rw [e]; exact hq), e⟩
  · intro hq
    obtain ⟨k, hk, rfl⟩ := List.mem_map.mp hq
    exact (bef_trn h hy (bef_mem.mp hk).1).mpr hk
/-- the coders that lead there, turned -/
theorem befs_perm {c : Cd} {y : Nat} (h : COk c) (hy : y < c.2.length) : ((bef (trn c y)).map fun k => prv (trn c y) k).Perm ((bef c).map fun k => trn (prv c k) y) := by
  refine ((bef_perm h hy).map _).trans ?_
  rw [List.map_map]
  refine List.Perm.of_eq (List.map_congr_left fun k hk => ?_)
  exact prv_trn h hy (bef_mem.mp hk).1
end Lk
end
section
set_option maxRecDepth 100000
set_option maxHeartbeats 2000000
/-! Texts called otherwise are read alike. -/
namespace Lk
open PySem PySem.Spec PyProof.Rows L2
theorem sub_map (f : Nat → Nat) (t : List Nat) (a e : Nat) : sub (t.map f) a e = (sub t a e).map f := by
  unfold sub
  rw [← List.map_drop, ← List.map_take]
theorem sub_az {t : List Nat} (h : Az t) (a e : Nat) : Az (sub t a e) := fun c hc => h c (List.mem_of_mem_drop (List.mem_of_mem_take hc))
theorem LE.map {f : Nat → Nat} (r : Ren f) {W U : List (List Nat)} {t : List Nat} {a e : Nat} (azw : ∀ x ∈ W, Az x) (azt : Az t) (mm : ∀ x, x ∈ U ↔ ∃ y ∈ W, y.map f = x) (h : LE W t a e) : LE U (t.map f) a e where
  ge := h.ge
  le := by rw [List.length_map]; exact h.le
  all := fun j j1 j2 => by
    rw [sub_map]
    exact (mm _).mpr ⟨_, h.all j j1 j2, rfl⟩
  no := fun he z => by
    rw [List.length_map] at he
    rw [sub_map] at z
    obtain ⟨y, hy, e2⟩ := (mm _).mp z
    rw [r.map (azw y hy) (sub_az azt _ _) e2] at hy
    exact h.no he hy
theorem Reads.map {f : Nat → Nat} (rn : Ren f) {W : List (List Nat)} {t : List Nat} {a r : Nat} {ns : List (List Nat)} (h : Reads W t a ns r) : ∀ {U : List (List Nat)}, (∀ x ∈ W, Az x) → Az t → (∀ x, x ∈ U ↔ ∃ y ∈ W, y.map f = x) → Reads U (t.map f) a (ns.map (List.map f)) r := by
  induction h with
  | done h =>
    intro U azw azt mm
    refine .done ?_
    have z := h.map rn azw azt mm
    rw [List.length_map]
    exact z
  | more h he hr ih =>
    rename_i W t a e r ns
    intro U azw azt mm
    rw [List.map_cons, ← sub_map]
    refine .more (h.map rn azw azt mm) (by rw [List.length_map]; exact he) ?_
    rw [sub_map]
    refine ih (fun x hx => ?_) azt fun x => ?_
    · rcases List.mem_append.mp hx with z | z
      · exact azw x z
      · rw [List.mem_singleton.mp z]
        exact sub_az azt _ _
    · rw [List.mem_append, List.mem_singleton, mm x]
      constructor
      · rintro (⟨y, hy, e⟩ | e)
        · exact ⟨y, List.mem_append_left _ hy, e⟩
        · exact ⟨_, List.mem_append_right _ List.mem_cons_self, e.symm⟩
      · rintro ⟨y, hy, e⟩
        rcases List.mem_append.mp hy with z | z
        · exact .inl ⟨y, z, e⟩
        · rw [List.mem_singleton.mp z] at e
          exact .inr e.symm
/-- from known words and these called otherwise, rising -/
theorem Reads.map0 {f : Nat → Nat} (rn : Ren f) {ws us : List (List Nat)} {t : List Nat} {r : Nat} {ns : List (List Nat)} (hk : isKnown ws = true) (p : us.Perm (ws.map (List.map f))) (azt : Az t) (h : Reads (([] : List Nat) :: ws) t 0 ns r) : Reads (([] : List Nat) :: us) (t.map f) 0 (ns.map (List.map f)) r := by
  refine h.map rn (fun x hx => ?_) azt fun x => ?_
  · rcases List.mem_cons.mp hx with z | z
    · rw [z]
      exact fun c hc => by cases hc
    · exact known_az hk x z
  · rw [List.mem_cons, p.mem_iff, List.mem_map]
    constructor
    · rintro (e | ⟨y, hy, e⟩)
      · exact ⟨[], List.mem_cons_self, e.symm⟩
      · exact ⟨y, List.mem_cons_of_mem _ hy, e⟩
    · rintro ⟨y, hy, e⟩
      rcases List.mem_cons.mp hy with z | z
      · rw [z] at e
        exact .inl e.symm
      · exact .inr ⟨y, z, e⟩
/-- texts from a list of them -/
theorem txts_of {zs : List Str} {ws : List (List Nat)} (h : zs.Perm (ws.map SX.S)) : ∃ us : List (List Nat), zs = us.map SX.S ∧ us.Perm ws := by
  refine ⟨zs.map fun y => y.cps.toList, ?_, ?_⟩
  · rw [List.map_map]
    exact (List.map_id' zs).symm.trans (List.map_congr_left fun y _ => (SX.S_tl y).symm)
  · have z := h.map fun y : Str => y.cps.toList
    rw [List.map_map] at z
    refine z.trans ?_
    rw [show ((fun y : Str => y.cps.toList) ∘ SX.S) = id from rfl, List.map_id]
theorem rising_pair : ∀ (x : Str) (r : List Str), risingS x r = true → (x :: r).Pairwise fun a b => a.cps.toList ≤ b.cps.toList
  | x, [], _ => List.pairwise_singleton _ x
  | x, y :: r, h => by
    have h' : (!ltCps y.cps.toList x.cps.toList && risingS y r) = true := h
    rw [Bool.and_eq_true] at h'
    have ih := rising_pair y r h'.2
    have hp : x.cps.toList ≤ y.cps.toList := by
      have h1 := h'.1
      rw [ltCps_eq, Bool.not_eq_true', decide_eq_false_iff_not] at h1
      exact List.not_lt.mp h1
    refine List.Pairwise.cons (fun z hz => ?_) ih
    rcases List.mem_cons.mp hz with e | e
    · rw [e]; exact hp
    · exact List.le_trans hp ((List.pairwise_cons.mp ih).1 z e)
theorem sorted_pair : ∀ l : List Str, sortedS l = true → l.Pairwise fun a b => a.cps.toList ≤ b.cps.toList
  | [], _ => List.Pairwise.nil
  | x :: r, h => rising_pair x r h
/-- sorted of the same texts is the same -/
theorem sorted_same {a b : List (List Nat)} (p : a.Perm b) (ha : sortedS (a.map SX.S) = true) (hb : sortedS (b.map SX.S) = true) : a = b := by
  have z : a.map SX.S = b.map SX.S := List.Perm.eq_of_pairwise (fun x y _ _ h1 h2 => by
    have e : x.cps.toList = y.cps.toList := List.le_antisymm h1 h2
    rw [← SX.S_tl x, ← SX.S_tl y, e]) (sorted_pair _ ha) (sorted_pair _ hb) (p.map SX.S)
  have y : tx a = tx b := by rw [tx_str, tx_str, z]
  exact tx_inj y
theorem shapedT_sD {ws : List (List Nat)} (h : ∀ l ∈ ws, Az l) : SeqAt.shaped (.tuple (ws.map sD)) = true := by
  unfold SeqAt.shaped
  rw [PyData.canLay0, lay_sD h, PyData.depth, depth_sD]
  rfl
def cutD (ws : List (List Nat)) (x : List Nat) : PyData := .tuple [.list (ws.map sD), .str (SX.S x)]
theorem lay_cut {ws : List (List Nat)} {x : List Nat} (h : ∀ l ∈ ws, Az l) (hx : Az x) : (cutD ws x).canLay0 = true := by
  unfold cutD
  rw [PyData.canLay0, PyData.canLayAll0, PyData.canLayAll0, PyData.canLayAll0, PyData.canLay0, PyData.canLay0, lay_sD h, strOk_az hx]
  rfl
theorem shaped_cut {ws : List (List Nat)} {x : List Nat} (h : ∀ l ∈ ws, Az l) (hx : Az x) : SeqAt.shaped (cutD ws x) = true := by
  unfold SeqAt.shaped
  rw [lay_cut h hx]
  unfold cutD
  rw [PyData.depth, PyData.depthAll, PyData.depthAll, PyData.depthAll, PyData.depth, PyData.depth, depth_sD]
  decide
theorem nodup_ren {f : Nat → Nat} (r : Ren f) {l : List Nat} (az : Az l) (nd : l.Nodup) : (l.map f).Nodup :=
  List.pairwise_map.mpr (List.Pairwise.imp_of_mem (fun {a b} ha hb ne e => ne (r.inj a b (az a ha) (az b hb) e)) nd)
end Lk
end
section
set_option maxRecDepth 100000
set_option maxHeartbeats 2000000
/-! A learner beside the text of its loop. -/
namespace Lk
open PySem PySem.Spec PyProof.Rows L2
theorem len_le1 {c : Cd} (i : Nat) (h : COk c) : len (nx c) i ≤ len c i + 1 := by
  by_cases g : i = c.1
  · rw [g, len_nx_same h]; exact Nat.le_refl _
  · rw [len_nx_ne g]; omega
theorem len_le : ∀ (n : Nat) {c : Cd} (i : Nat), COk c → len (it n c) i ≤ len c i + n
  | 0, _, _, _ => Nat.le_refl _
  | n + 1, c, i, h => by
    have a := len_le1 i h
    have b := len_le n i (nx_ok h)
    show len (it n (nx c)) i ≤ _
    omega
theorem wd_known {c : Cd} (h : COk c) {k m : Nat} (hk : k < m) : (wd (it k c)).2 ≤ len (it m c) (wd (it k c)).1 := by
  have e : it m c = it (m - (k + 1)) (nx (it k c)) := by
    rw [← it_succ, ← it_add]
    congr 1
    omega
  have ok := it_ok k h
  have z := len_mono (m - (k + 1)) (it k c).1 (nx_ok ok)
  rw [e]
  show len (it k c) (it k c).1 + 1 ≤ len _ (it k c).1
  rw [← len_nx_same ok]
  exact z
/-- how many letters so many words have -/
def many (c : Cd) (m : Nat) : Nat := ((wds m c).map (·.2)).sum
theorem many_succ (c : Cd) (m : Nat) : many c (m + 1) = many c m + (wd (it m c)).2 := by
  unfold many wds
  rw [List.range_succ, List.map_append, List.map_append, List.sum_append]
  simp
theorem many_mono (c : Cd) {a b : Nat} (h : a ≤ b) : many c a ≤ many c b := by
  induction h with
  | refl => exact Nat.le_refl _
  | step _ ih => rw [many_succ]; exact Nat.le_trans ih (Nat.le_add_right _ _)
theorem run_cat {b : List Nat} (a n k : Nat) : run b a (n + k) = run b a n ++ run b (a + n) k := by
  unfold run
  rw [List.range_add, List.map_append, List.map_map]
  congr 1
  refine List.map_congr_left fun i _ => ?_
  show lat b (a + (n + i)) = lat b (a + n + i)
  rw [Nat.add_assoc]
/-- the words one behind the other are the loop's text -/
theorem flat_words {l : List Nat} {c : Cd} (hl : c.2.length = l.length) (ok : COk c) : ∀ m, ((wds m c).map (lett l)).flatten = run l c.1 (many c m) ∧ (it m c).1 = (c.1 + many c m) % l.length
  | 0 => ⟨rfl, by
    show c.1 = (c.1 + 0) % l.length
    rw [Nat.add_zero, Nat.mod_eq_of_lt]
    rw [← hl]
    exact ok⟩
  | m + 1 => by
    obtain ⟨h1, h2⟩ := flat_words hl ok m
    have hn : (it (m + 1) c).1 = ((it m c).1 + (wd (it m c)).2) % l.length := by
      rw [it_succ, ← hl, ← it_len m (c := c)]
      rfl
    refine ⟨?_, ?_⟩
    · have e : wds (m + 1) c = wds m c ++ [wd (it m c)] := by unfold wds; rw [List.range_succ, List.map_append]; rfl
      rw [e, List.map_append, List.flatten_append, h1, many_succ, run_cat, List.map_singleton, List.flatten_singleton]
      congr 1
      show run l (it m c).1 _ = _
      rw [h2, run_mod]
    · rw [hn, h2, many_succ, ← Nat.add_assoc, Nat.add_mod, Nat.mod_mod, ← Nat.add_mod]
theorem rotL_permL (l : List Nat) (s : Nat) : (rotL l s).Perm l := by
  unfold rotL
  refine List.perm_append_comm.trans ?_
  rw [List.take_append_drop]
/-- told of the turned loop -/
theorem trn_rot {s : Nat} {ls : List Nat} (hs : s < ls.length) : trn (0, rotL ls s) s = (s, ls) := by
  unfold trn
  refine Prod.ext ?_ ?_
  · show (0 + s) % (rotL ls s).length = s
    rw [rotL_len, Nat.zero_add, Nat.mod_eq_of_lt hs]
  · show (rotL ls s).drop ((rotL ls s).length - s) ++ (rotL ls s).take ((rotL ls s).length - s) = ls
    rw [rotL_len]
    unfold rotL
    have e : (ls.drop s).length = ls.length - s := List.length_drop
    rw [← e, List.drop_left, List.take_left, List.take_append_drop]
theorem wds_turned {l ls : List Nat} {s : Nat} (hs : s < l.length) (hl : ls.length = l.length) (m : Nat) : (wds m (0, rotL ls s)).map (lett (rotL l s)) = (wds m (s, ls)).map (lett l) ∧ many (0, rotL ls s) m = many (s, ls) m := by
  have ok : COk (0, rotL ls s) := by show 0 < (rotL ls s).length; rw [rotL_len]; omega
  have hy : s < (0, rotL ls s).2.length := by show s < (rotL ls s).length; rw [rotL_len]; omega
  have key : ∀ k, wd (it k (s, ls)) = (((wd (it k (0, rotL ls s))).1 + s) % l.length, (wd (it k (0, rotL ls s))).2) := fun k => by
    rw [← trn_rot (by omega : s < ls.length), it_trn ok hy k, wd_trn (it_ok k ok) (by rw [it_len]; exact hy), it_len]
    show (_ % (rotL ls s).length, _) = _
    rw [rotL_len, hl]
  unfold many wds
  rw [List.map_map, List.map_map, List.map_map, List.map_map]
  refine ⟨List.map_congr_left fun k _ => ?_, congrArg List.sum (List.map_congr_left fun k _ => ?_)⟩
  · show run (rotL l s) _ _ = run l (wd (it k (s, ls))).1 (wd (it k (s, ls))).2
    rw [key k, run_rot hs]
    show _ = run l ((_ + s) % l.length) _
    rw [run_mod]
  · show _ = (wd (it k (s, ls))).2
    rw [key k]
    rfl
/-- the loop's text, read from a place on by what is known: the words are the coder's, the rest is known -/
theorem reads_from {l ls : List Nat} {ws : List (List Nat)} {s m r1 r : Nat} {ns : List (List Nat)} (nd : l.Nodup) (hs : s < l.length) (hk : isKnown ws = true) (hls : LNs ws l ls) (h1 : r1 ≤ len (it m (s, ls)) (it m (s, ls)).1)
    (hrd : Reads (([] : List Nat) :: ws) (run l s (many (s, ls) m + r1)) 0 ns r) : ns = (wds m (s, ls)).map (lett l) ∧ r = many (s, ls) m := by
  have e0 : run l s (many (s, ls) m + r1) = run (rotL l s) 0 (many (s, ls) m + r1) := by rw [run_rot hs, Nat.zero_add]
  rw [e0] at hrd
  have pr := plain_read (by rw [rotL_len]; omega) ((rotL_permL l s).symm.nodup nd) hk (lns_rot hs hls) hrd
  have ok : COk (0, rotL ls s) := by show 0 < (rotL ls s).length; rw [rotL_len, hls.1]; omega
  have hl := hls.1
  have wt := fun j => wds_turned hs hl (l := l) j
  have hfl := fun j => flat_words (l := rotL l s) (c := (0, rotL ls s)) (by show (rotL ls s).length = _; rw [rotL_len, rotL_len, hl]) ok j
  have er : r = many (s, ls) ns.length := by
    have z := pr.flat
    rw [pr.words] at z
    rw [z, (hfl _).1, run_len, (wt _).2]
  have h2 := pr.few
  have hw : len (it ns.length (0, rotL ls s)) (it ns.length (0, rotL ls s)).1 + 1 = (wd (it ns.length (s, ls))).2 := by
    have hy : s < (0, rotL ls s).2.length := by show s < (rotL ls s).length; rw [rotL_len]; omega
    rw [← trn_rot (by omega : s < ls.length), it_trn ok hy, wd_trn (it_ok _ ok) (by rw [it_len]; exact hy)]
    rfl
  have h2' : many (s, ls) m + r1 - r ≤ len (it ns.length (0, rotL ls s)) (it ns.length (0, rotL ls s)).1 := h2
  have hle := pr.le
  have ms := many_succ (s, ls)
  have hm : ns.length = m := by
    rcases Nat.lt_trichotomy ns.length m with c | c | c
    · have z := many_mono (s, ls) (show ns.length + 1 ≤ m by omega)
      rw [ms] at z
      omega
    · exact c
    · have z := many_mono (s, ls) (show m + 1 ≤ ns.length by omega)
      rw [ms] at z
      have y : (wd (it m (s, ls))).2 = len (it m (s, ls)) (it m (s, ls)).1 + 1 := rfl
      omega
  rw [hm] at er
  refine ⟨?_, er⟩
  have z := pr.words
  rw [hm, (wt m).1] at z
  exact z
/-- one word more that is due is known -/
theorem taught_known {l ls : List Nat} {ws us : List (List Nat)} {a : Nat} (nd : l.Nodup) (az : Az l) (hk : isKnown ws = true) (hls : LNs ws l ls) (ha : a < l.length) (p : us.Perm (ws ++ [run l a (ls.getD a 0 + 1)])) (hs : sortedS (us.map SX.S) = true) : isKnown us = true ∧ LNs us l (ls.set a (ls.getD a 0 + 1)) := by
  have hl := hls.1
  have b := beg_of hk l
  have st := (lns_step hls b ha).1
  rw [lnx_plain (c := (a, ls)) nd ha hl] at st
  have ki := isKnown_iff.mp hk
  refine ⟨isKnown_of p hs ?_ (fun x hx => ?_) (fun x hx => ?_), lns_perm st fun x => p.mem_iff.symm⟩
  · refine List.nodup_append.mpr ⟨(List.nodup_cons.mp (tx_small hk)).2, by simp, fun x hx y hy e => ?_⟩
    rw [List.mem_singleton] at hy
    exact (hls.2 a ha).no (by rw [← hy, ← e]; exact hx)
  · rcases List.mem_append.mp hx with h | h
    · exact List.all_eq_true.mp ki.1 x h
    · rw [List.mem_singleton.mp h]
      exact isWord_iff.mpr ⟨az_run az (by omega) _ _, by rw [run_len]; omega⟩
  · have up : ∀ y, y ∈ ([] : List Nat) :: ws → y ∈ ([] : List Nat) :: (ws ++ [run l a (ls.getD a 0 + 1)]) := fun y hy => by
      rcases List.mem_cons.mp hy with z | z
      · rw [z]; exact List.mem_cons_self
      · exact List.mem_cons_of_mem _ (List.mem_append_left _ z)
    rcases List.mem_append.mp hx with h | h
    · exact up _ (of_decide_eq_true (List.all_eq_true.mp ki.2.2 _ h))
    · rw [List.mem_singleton.mp h, run_len, run_take (by omega), Nat.add_sub_cancel]
      refine up _ ?_
      cases e : ls.getD a 0 with
      | zero => exact List.mem_cons_self
      | succ j => exact List.mem_cons_of_mem _ ((hls.2 a ha).all (j + 1) (by omega) (by omega))
/-- the row that a word was learnt by -/
theorem row_of {x : Ln} {c0 : Cd} {pre post : List (Deed × Cd × Nat)} (e : x.rows = pre ++ post) (h : ∀ r ∈ post, r.2.1 = it r.2.2 c0) (z : ∃ r ∈ post, r.2.2 = 0) {n : Nat} (hn : 1 ≤ n) : ∃ r, x.row n = some r ∧ r.2.1 = it r.2.2 c0 ∧ r.2.2 < n := by
  unfold Ln.row
  rw [e, List.filter_append]
  obtain ⟨r0, m0, z0⟩ := z
  have ne : (post.filter fun r => decide (r.2.2 < n)) ≠ [] := List.ne_nil_of_mem (List.mem_filter.mpr ⟨m0, decide_eq_true (by omega)⟩)
  refine ⟨(post.filter fun r => decide (r.2.2 < n)).getLast ne, ?_, ?_⟩
  · rw [List.getLast?_append, List.getLast?_eq_some_getLast ne]
    rfl
  · have m := List.mem_filter.mp (List.getLast_mem ne)
    exact ⟨h _ m.1, of_decide_eq_true m.2⟩
end Lk
end
section
set_option maxRecDepth 100000
set_option maxHeartbeats 2000000
/-! Words known at first; learners made; how they outlive what else is done. -/
namespace Lk
open PySem PySem.Spec PyProof.Rows L2
/-- words known at first, and what is known of the loop -/
structure KnB (l : List Nat) (ws : List (List Nat)) (ls : List Nat) : Prop where
  lp : isLoop l = true
  nd : l.Nodup
  kn : isKnown ws = true
  few : ws.length ≤ 1000
  sh : ∀ x ∈ ws, x.length ≤ 1000
  ln : LNs ws l ls
theorem KnB.len {l : List Nat} {ws : List (List Nat)} {ls : List Nat} (k : KnB l ws ls) : ls.length = l.length := k.ln.1
theorem KnB.cd {l : List Nat} {ws : List (List Nat)} {ls : List Nat} (k : KnB l ws ls) {s : Nat} (hs : s < l.length) : CdOk (s, ls) := by
  obtain ⟨_, _, l12⟩ := isLoop_len k.lp
  have z := k.len
  exact ⟨by show s < ls.length; omega, by show ls.length ≤ 12; omega⟩
/-- a new one -/
theorem new_ln {C p dx kp : Addr} {H : Hp} {l : List Nat} {ws : List (List Nat)} {ls : List Nat} {s : Nat} {Q : VK} {E : XK} (k : KnB l ws ls) (hk : H kp = some (.tup (tx ws))) (hs : s < l.length) (np : H p = none) (ndx : H dx = none)
    (q : ∀ D A H1, H D = none → H A = none → LnAt C H1 p D A ⟨l, (s, ls), 0, []⟩ → Same H H1 → Q .non H1) : spInit C [.ref p, .str (SX.S l), .ref kp, .int (s : Int)] (upd (upd H dx (.own p)) p (.ins C dx [])) Q E := by
  have sM : Same H (upd (upd H dx (.own p)) p (.ins C dx [])) := fun b o e => by
    rw [upd_ne (ne_of_none e np), upd_ne (ne_of_none e ndx)]
    exact e
  refine ⟨p, dx, kp, l, ws, ls, s, rfl, upd_same, k.lp, k.nd, sM _ _ hk, k.kn, Nat.le_trans k.few (by decide), fun x hx => Nat.le_trans (k.sh x hx) (by decide), k.ln, hs, fun D A H1 nD nA L1 r1 => ?_⟩
  exact q D A H1 (none_of sM nD) (none_of sM nA) L1 (fun b o e => r1 b o (sM b o e) (ne_of_none e np))
theorem noK {l : List Nat} {v' : V} {n' : Nat} {D' A' : Addr} {m : Str} (h : m = "teach" ∨ m = "learn" ∨ m = "word" ∨ m = "count" ∨ m = "coder" ∨ m = "knows" ∨ m = "log" ∨ m = "back") : List.lookup m (flds l v' n' D' A') = none := by
  rcases h with rfl | rfl | rfl | rfl | rfl | rfl | rfl | rfl <;> exact fl_no (by simp; decide +kernel) (by simp; decide +kernel) (by simp; decide +kernel) (by simp; decide +kernel) (by simp; decide +kernel)
theorem rays_known {l ls : List Nat} {us : List (List Nat)} (hl : isLoop l = true) (nd : l.Nodup) (hls : ls.length = l.length) (h25 : ∀ x ∈ ls, x ≤ 25) (p : us.Perm (raysTo l ls l.length)) (hs : sortedS (us.map SX.S) = true) : KnB l us ls := by
  obtain ⟨az, l1, l12⟩ := isLoop_len hl
  have e0 : fstW l ls 0 0 0 = raysTo l ls l.length := by
    unfold fstW
    rw [List.take_zero, List.append_nil]
  have wd : ∀ w ∈ raysTo l ls l.length, isWord w = true ∧ w.length ≤ 25 := fun w hw => by
    obtain ⟨q, k, hq, hk, rfl⟩ := rays_mem.mp hw
    have z : ls.getD q 0 ≤ 25 := by rw [getD_eq (by omega)]; exact h25 _ (List.getElem_mem _)
    exact ⟨isWord_iff.mpr ⟨az_run az (by omega) _ _, by rw [run_len]; omega⟩, by rw [run_len]; omega⟩
  have n0 : 0 ∉ l := fun z => by have := az 0 z; omega
  refine ⟨hl, nd, ?_, ?_, fun x hx => Nat.le_trans (wd x (p.mem_iff.mp hx)).2 (by decide), ?_⟩
  · exact isKnown_of p hs (rays_nodup nd (Nat.le_refl _)) (fun x hx => (wd x hx).1) (by have z := fst_clos (l := l) (ls := ls) (c := 0) (x := 0) (k := 0); rw [e0] at z; exact z)
  · rw [p.length_eq]
    have z := rays_len (l := l) h25 l.length
    omega
  · exact fst_lns (c := 0) (x := 0) (k := 0) nd hls n0 (by rw [e0]; exact p)
/-- nothing known at first -/
theorem kn_none {l : List Nat} (hl : isLoop l = true) (nd : l.Nodup) : KnB l [] (List.replicate l.length 0) := by
  have z := rays_known (us := []) hl nd (List.length_replicate (n := l.length) (a := 0)) (fun x hx => by rw [List.eq_of_mem_replicate hx]; decide) ?_ (by rfl)
  · exact z
  · have e : raysTo l (List.replicate l.length 0) l.length = [] := by
      refine List.eq_nil_iff_forall_not_mem.mpr fun w hw => ?_
      obtain ⟨q, k, hq, hk, _⟩ := rays_mem.mp hw
      rw [getD_eq (by rw [List.length_replicate]; exact hq), List.getElem_replicate] at hk
      omega
    rw [e]
/-- a learner of which something is told -/
def LnV (C : Addr) (H : Hp) (Pr : Ln → Prop) (u : V) : Prop := ∃ p D A x, u = .ref p ∧ LnAt C H p D A x ∧ Pr x
theorem LnV.same {C : Addr} {H H' : Hp} {Pr : Ln → Prop} {u : V} (h : LnV C H Pr u) (s : Same H H') : LnV C H' Pr u := by
  obtain ⟨p, D, A, x, e, L, z⟩ := h
  exact ⟨p, D, A, x, e, L.same s, z⟩
theorem LnAt.but {C a : Addr} {H H' : Hp} {p D A : Addr} {x : Ln} {n : Int} (L : LnAt C H p D A x) (u : Urn H a n) (s : SameBut a H H') (hn : a ∉ [p, D, A]) : LnAt C H' p D A x := by
  obtain ⟨_, _, _, ea, _⟩ := u
  have tp : Tups H H' := fun t xs e => s _ _ (tup_ne e ea (fun _ z => nomatch z)) e
  obtain ⟨⟨dx, v, h1, h2⟩, ⟨us, h3, h4⟩, ⟨ts, h5, h6⟩, ne⟩ := L
  exact ⟨⟨dx, v, s _ _ (fun z => hn (z ▸ List.mem_cons_self)) h1, tp.cat h2⟩, ⟨us, s _ _ (fun z => hn (z ▸ List.mem_cons_of_mem _ List.mem_cons_self)) h3, h4.mono fun _ _ z => tp.deed z⟩, ⟨ts, s _ _ (fun z => hn (z ▸ List.mem_cons_of_mem _ (List.mem_cons_of_mem _ List.mem_cons_self))) h5, h6.mono fun _ _ z => tp.row z⟩, ne⟩
theorem LnAt.lst {C c : Addr} {H : Hp} {p D A : Addr} {x : Ln} {us : List V} {o : HO} (L : LnAt C H p D A x) (e : H c = some (.lst us)) (hn : c ∉ [p, D, A]) : LnAt C (upd H c o) p D A x := by
  have tp : Tups H (upd H c o) := fun t xs et => (upd_ne (tup_ne et e (fun _ z => nomatch z))).trans et
  simp only [List.mem_cons, List.not_mem_nil, or_false, not_or] at hn
  obtain ⟨n1, n2, n3⟩ := hn
  obtain ⟨⟨dx, v, h1, h2⟩, ⟨us, h3, h4⟩, ⟨ts, h5, h6⟩, ne⟩ := L
  exact ⟨⟨dx, v, (upd_ne (Ne.symm n1)).trans h1, tp.cat h2⟩, ⟨us, (upd_ne (Ne.symm n2)).trans h3, h4.mono fun _ _ z => tp.deed z⟩, ⟨ts, (upd_ne (Ne.symm n3)).trans h5, h6.mono fun _ _ z => tp.row z⟩, ne⟩
theorem LnAt.mv {C : Addr} {H H' : Hp} {p D A p2 D2 A2 : Addr} {x y : Ln} (L : LnAt C H p D A x) (L2 : LnAt C H p2 D2 A2 y) (r : Rest p D A H H') (s : ∀ q ∈ [p2, D2, A2], q ∉ [p, D, A]) : LnAt C H' p2 D2 A2 y := by
  have tp := L.tups r
  obtain ⟨⟨dx, v, h1, h2⟩, ⟨us, h3, h4⟩, ⟨ts, h5, h6⟩, ne⟩ := L2
  have k : ∀ {q : Addr} {o : HO}, H q = some o → q ∉ [p, D, A] → H' q = some o := fun e n => r _ _ e (fun z => n (z ▸ List.mem_cons_self)) (fun z => n (z ▸ List.mem_cons_of_mem _ List.mem_cons_self)) (fun z => n (z ▸ List.mem_cons_of_mem _ (List.mem_cons_of_mem _ List.mem_cons_self)))
  exact ⟨⟨dx, v, k h1 (s _ List.mem_cons_self), tp.cat h2⟩, ⟨us, k h3 (s _ (List.mem_cons_of_mem _ List.mem_cons_self)), h4.mono fun _ _ z => tp.deed z⟩, ⟨ts, k h5 (s _ (List.mem_cons_of_mem _ (List.mem_cons_of_mem _ List.mem_cons_self))), h6.mono fun _ _ z => tp.row z⟩, ne⟩
theorem LnAt.stand {C : Addr} {H : Hp} {p D A : Addr} {x : Ln} (L : LnAt C H p D A x) : ∀ q ∈ [p, D, A], H q ≠ none := by
  obtain ⟨⟨dx, v, h1, _⟩, ⟨us, h3, _⟩, ⟨ts, h5, _⟩, _⟩ := L
  intro q hq
  simp only [List.mem_cons, List.not_mem_nil, or_false] at hq
  rcases hq with rfl | rfl | rfl
  · rw [h1]; exact fun z => nomatch z
  · rw [h3]; exact fun z => nomatch z
  · rw [h5]; exact fun z => nomatch z
end Lk
end
section
set_option maxRecDepth 100000
set_option maxHeartbeats 4000000
/-! A word of a thousand letters and one. -/
namespace Lk
open PySem PySem.Spec PyProof.Rows L2
def spLong : Sp := fun vs H Q _ => ∃ c : Nat, vs = [.str (SX.S [c])] ∧ isLoop [c] = true ∧ ∀ H', Same H H' → Q (.bl true) H'
abbrev nLo : List Str := ["letter", "learner", "many"]
theorem rep_run (c n : Nat) : rep n [c] = run [c] 0 n := by
  have h1 : rep n [c] = List.replicate n c := by
    refine List.eq_replicate_iff.mpr ⟨by rw [rep_len]; exact Nat.mul_one _, fun b hb => ?_⟩
    unfold rep at hb
    obtain ⟨x, hx, hb⟩ := List.mem_flatten.mp hb
    rw [List.eq_of_mem_replicate hx] at hb
    exact List.mem_singleton.mp hb
  have h2 : run [c] 0 n = List.replicate n c := by
    refine List.eq_replicate_iff.mpr ⟨run_len _ _ _, fun b hb => ?_⟩
    obtain ⟨i, hi⟩ := List.mem_iff_getElem?.mp hb
    have il : i < n := by
      have z := (List.getElem?_eq_some_iff.mp hi).1
      rw [run_len] at z
      exact z
    rw [run_at il] at hi
    have z : lat [c] (0 + i) = b := Option.some.inj hi
    rw [← z]
    unfold lat
    rw [show ([c] : List Nat).length = 1 from rfl, Nat.mod_one]
    rfl
  rw [h1, h2]
theorem it_single (k : Nat) : ∀ n, it n (0, [k]) = (0, [k + n])
  | 0 => rfl
  | n + 1 => by
    rw [it_succ, it_single k n]
    show ((0 + (k + n + 1)) % 1, [k + n + 1]) = _
    rw [Nat.mod_one]
    rfl
structure LoC (P : Program) (w : World) (K : PySem.W.Frag) (mg : Str → Option Value) (base : Heap) (C : Addr) : Prop where
  made : Maker P w K mg base 7 "Learner" C (.int 0) (spInit C) "first"
  learn : MetX P w K mg base 6 C "learn" (spLearnL C)
  knows : Met P w K mg base 4 C "knows" (spKnowsL C)
  taught : C8.Cal P w K mg base 6 "_law_taught" (spTaught C) []
  same : C8.Cal P w K mg base 5 "_law_same" (spSameP (Okd 4)) []
section
variable {P : Program} {w : World} {K : PySem.W.Frag} {mg : Str → Option Value} {base : Heap} {C : Addr}
theorem sc_long : FnScope nLo ["letter"] (defScope s_law_long_right) := ⟨rfl, rfl, rfl, by decide +kernel, rfl, by decide +kernel, by decide +kernel⟩
theorem ok_long {f : Addr} {fd : FuncData} (F : Fun K "_law_long_right" "_law_long_right" s_law_long_right f fd) (T : LoC P w K mg base C) : FnOk P w K mg base CX0 9 f fd ["letter"] spLong := by
  refine F.ok sc_long (fun vs H Q E h => ?_) (fun cdv A0 outer s0 H vs Q E hr h => ?_)
  · obtain ⟨c, rfl, _⟩ := h
    rfl
  · obtain ⟨c, rfl, hl, q⟩ := h
    have nd := sc_long.nd
    refine ⟨_, (pss_cons (by exact (ps_set (i := 1) nd rfl (Or.inr rfl) (pe_mk0 T.made hr (by decide) rfl (pa_cons (pv 0) (pa_cons (pe_tupS pa_nil) pa_nil)))))
      (pss_cons (by exact (ps_expr (pe_mX (pv 1) T.learn hr (by decide) (pa_cons pe_int pa_nil))))
      (pss_cons (by exact (ps_if (PW.pt (pw_or (pt_cmpR op_ne (C8.pe_c T.taught hr (by decide) rfl (pa_cons (pv 1) (pa_cons (pe_op op_mulS (pv 0) pe_int) pa_nil))) pe_str (nomark _)) (pw_or1 (pt_cmpR op_ne (C8.pe_c T.taught hr (by decide) rfl (pa_cons (pv 1) (pa_cons (pe_op op_mulS (pv 0) pe_int) pa_nil))) pe_str (nomark _))))) (pss_one (by exact (ps_ret pe_bl))) pss_nil))
      (pss_one (by exact (ps_ret (C8.pe_c T.same hr (by decide) rfl (pa_cons (pe_lc (own := [("many", 2)]) (g := (gName 2)) (tt := tYes) rfl nd (pi_tup (pe_tupS (pa_cons pe_int (pa_cons pe_int (pa_cons pe_int pa_nil))))) (blkOk_by (N := nLo) (sc := defScope s_law_long_right) (by decide +kernel)) (fun _ _ _ _ _ => (pg_name (i := 2) nd rfl (Or.inl rfl))) (fun _ _ _ _ _ => pts_nil) (fun _ _ _ _ _ => (pe_m (pv 1) T.knows hr (by decide) (pa_cons (pe_op op_mulS (pv 0) (pv 2)) pa_nil)))) (pa_cons (pe_lstS (pa_cons pe_bl (pa_cons pe_bl (pa_cons pe_bl pa_nil)))) pa_nil))))))))), ?_⟩
    obtain ⟨az, _, _⟩ := isLoop_len hl
    have ndc : ([c] : List Nat).Nodup := by simp
    have kn := kn_none hl ndc
    refine ⟨_, rfl, Nat.zero_le _, fun K0 H1 nK0 s1 eK0 => ⟨rfl, rfl, fun p dx np ndx nex => new_ln (s := 0) kn eK0 (show 0 < 1 by decide) np ndx fun D A H2 nD nA L2' s2 => ⟨rfl, ?_⟩⟩⟩
    obtain ⟨⟨dx2, v2, hp2, _⟩, _, _, _⟩ := id L2'
    refine ⟨_, rfl, p, dx2, _, rfl, hp2, noK (.inr (.inl rfl)), p, D, A, _, 1000, rfl, L2', kn.cd (s := 0) (show 0 < 1 by decide), by decide, by decide, Nat.zero_le _, fun H3 L3 r3 => ?_⟩
    have e3 : Ln.learn ⟨[c], (0, List.replicate ([c] : List Nat).length 0), 0, []⟩ 1000 = ⟨[c], (0, [1000]), 1000, [(.learn 1000, (0, [0]), 0)]⟩ := by
      show (⟨[c], it 1000 (0, [0]), 0 + 1000, [] ++ [(.learn 1000, (0, [0]), 0)]⟩ : Ln) = _
      rw [it_single]
      rfl
    rw [e3] at L3
    obtain ⟨X1, eX1⟩ : ∃ X1 : Ln, X1 = ⟨[c], (0, [1000]), 1000, [(.learn 1000, (0, [0]), 0)]⟩ := ⟨_, rfl⟩
    rw [← eX1] at L3
    have lp : X1.loop = [c] := by rw [eX1]
    have nw : X1.now = (0, [1000]) := by rw [eX1]
    have rws : X1.rows.length = 1 := by rw [eX1]; rfl
    have az1 : ∀ n, 0 < n → isWord (run [c] 0 n) = true := fun n hn => isWord_iff.mpr ⟨az_run az (show 0 < 1 from Nat.one_pos) _ _, by rw [run_len]; exact hn⟩
    have pl : ∀ n, 0 < n → placeOf [c] (run [c] 0 n) = some 0 := fun n hn => place_run ndc (show 0 < 1 from Nat.one_pos) hn
    have word : ∀ {G : Prop} {n : Nat}, 0 < n → isWord (run [c] 0 n) = false → G := fun hn z => by rw [az1 _ hn] at z; cases z
    refine ⟨_, rfl, _, rfl, [c], 1002, rfl, rfl, by decide, by show 1002 * 1 ≤ 1000000; decide, ?_⟩
    rw [rep_run]
    have nx2 : X1.next (run [c] 0 1002) = none := by
      unfold Ln.next
      rw [lp, nw, pl _ (by decide)]
      show (if (run [c] 0 1002).length = 1000 + 1 then some 0 else none) = none
      rw [run_len]
      rfl
    have nx1 : X1.next (run [c] 0 1001) = some 0 := by
      unfold Ln.next
      rw [lp, nw, pl _ (by decide)]
      show (if (run [c] 0 1001).length = 1000 + 1 then some 0 else none) = some 0
      rw [run_len]
      rfl
    have l0 : 0 < X1.loop.length := by rw [lp]; exact (show 0 < 1 by decide)
    have l12 : X1.loop.length ≤ 12 := by rw [lp]; exact (show 1 ≤ 12 by decide)
    have ln1 : X1.now.2.length = X1.loop.length := by rw [lp, nw]; rfl
    have lenw : ∀ {n : Nat} {w' : List Nat}, n ≤ 1002 → V.str (SX.S (run [c] 0 n)) = V.str (SX.S w') → w'.length ≤ 50000 := fun hn e => by
      rw [← SX.S_inj (V.str.inj e), run_len]
      omega
    refine ⟨p, D, A, X1, _, _, rfl, L3, l0, l12, ln1, WordV.str (run [c] 0 1002) (by rw [run_len]; decide), fun w' e => lenw (by decide) e, by omega, fun z => word (by decide) z, fun _ w' ew isw => ?_⟩
    have ew1 : run [c] 0 1002 = w' := SX.S_inj (V.str.inj ew)
    subst ew1
    refine ⟨fun _ H4 s4 => ?_, fun a nx => by rw [nx2] at nx; cases nx⟩
    refine ⟨rfl, _, rfl, ?_⟩
    show (if (!decide (V.str (Str.ofString "word") = V.str (Str.ofString "word"))) = true then _ else _)
    rw [decide_eq_true rfl]
    refine iteF ⟨_, rfl, _, rfl, [c], 1001, rfl, rfl, by decide, by show 1001 * 1 ≤ 1000000; decide, ?_⟩
    rw [rep_run]
    refine ⟨p, D, A, X1, _, _, rfl, L3.same s4, l0, l12, ln1, WordV.str (run [c] 0 1001) (by rw [run_len]; decide), fun w' e => lenw (by decide) e, by omega, fun z => word (by decide) z, fun _ w' ew isw => ?_⟩
    have ew1 : run [c] 0 1001 = w' := SX.S_inj (V.str.inj ew)
    subst ew1
    refine ⟨fun nx => absurd (nx1.symm.trans nx) (fun z => nomatch z), fun a nx H5 L5 r5 => ?_⟩
    rw [nx1] at nx
    cases nx
    refine ⟨rfl, _, rfl, ?_⟩
    show (if (!decide (V.str (Str.ofString "let") = V.str (Str.ofString "let"))) = true then _ else _)
    rw [decide_eq_true rfl]
    refine iteF ?_
    obtain ⟨X2, eX2⟩ : ∃ X2, X2 = X1.teach (run [c] 0 1001) 0 := ⟨_, rfl⟩
    rw [← eX2] at L5
    have lp2 : X2.loop = [c] := by rw [eX2]; exact lp
    have nw2 : X2.now.2 = [1001] := by
      rw [eX2]
      show X1.now.2.set 0 (X1.now.2.getD 0 0 + 1) = _
      rw [nw]
      rfl
    have l02 : 0 < X2.loop.length := by rw [lp2]; exact (show 0 < 1 from Nat.one_pos)
    have l122 : X2.loop.length ≤ 12 := by rw [lp2]; exact (show 1 ≤ 12 by decide)
    have ln2 : X2.now.2.length = X2.loop.length := by rw [lp2, nw2]; rfl
    have kno : ∀ n, 0 < n → X2.knows (run [c] 0 n) = decide (n ≤ 1001) := fun n hn => by
      unfold Ln.knows
      rw [lp2, nw2, pl n hn]
      show decide ((run [c] 0 n).length ≤ 1001) = _
      rw [run_len]
    have s05 : Same H H5 := fun b o e => by
      have e2 := s2 _ _ (s1 _ _ e)
      have e3 := r3 b o e2 (ne_of_none (s1 _ _ e) np) (ne_of_none (s1 _ _ e) nD) (ne_of_none (s1 _ _ e) nA)
      exact r5 b o (s4 _ _ e3) (ne_of_none (s1 _ _ e) np) (ne_of_none (s1 _ _ e) nD) (ne_of_none (s1 _ _ e) nA)
    refine ⟨(by show 3 ≤ sizeLine; decide), fun t H6 nt s6 et => ⟨t, rfl, ⟨_, SqT.of et⟩, fun DR nDR => ?_⟩⟩
    refine lc_it (walk_tup (xs := [V.int 1000, V.int 1001, V.int 1002])) (fun i H' => Same H6 H' ∧ H' DR = some (.lst (([true, true, false].take i).map V.bl))) ⟨same_new nDR, upd_same⟩ (fun i H' _ z => SqT.of (z.1 _ _ et)) ?_ ?_
    · rintro i z H7 H8 hi ⟨s7, e7⟩ ⟨rfl, hx⟩
      obtain ⟨n, n0, n2, rfl, hb⟩ : ∃ n : Nat, 0 < n ∧ n ≤ 1002 ∧ z = .int (n : Int) ∧ ([true, true, false] : List Bool)[i]? = some (decide (n ≤ 1001)) := by
        match i, hx with
        | 0, hx => exact ⟨1000, by decide, by decide, (Option.some.inj hx).symm, rfl⟩
        | 1, hx => exact ⟨1001, by decide, by decide, (Option.some.inj hx).symm, rfl⟩
        | 2, hx => exact ⟨1002, by decide, by decide, (Option.some.inj hx).symm, rfl⟩
        | k + 3, hx => cases hx
      have L8 := (L5.same s6).same s7
      obtain ⟨⟨dx8, v8, hp8, _⟩, _, _, _⟩ := id L8
      refine ⟨rfl, _, rfl, p, dx8, _, rfl, hp8, noK (.inr (.inr (.inr (.inr (.inr (.inl rfl)))))), _, rfl, _, rfl, [c], n, rfl, rfl, by omega, by show n * 1 ≤ 1000000; omega, ?_⟩
      rw [rep_run]
      refine ⟨p, D, A, X2, _, _, rfl, L8, l02, l122, ln2, WordV.str (run [c] 0 n) (by rw [run_len]; omega), fun w' e => lenw n2 e, fun z => word n0 z, fun _ w' ew isw H9 s9 => ?_⟩
      have ew1 : run [c] 0 n = w' := SX.S_inj (V.str.inj ew)
      subst ew1
      rw [kno n n0]
      refine ⟨_, s9 _ _ e7, ?_, same_push (s7.trans s9) nDR, ?_⟩
      · rw [List.length_map, List.length_take]
        exact Nat.lt_of_le_of_lt (show min i 3 ≤ 3 from Nat.min_le_right _ _) (by decide)
      · rw [upd_same, List.take_add_one, hb, List.map_append]
        rfl
    rintro H7 ⟨s7, e7⟩
    refine ⟨(by show 3 ≤ sizeLine; decide), fun t2 H8 nt2 s8 et2 => ?_⟩
    have ob : Okd 4 (.list [.bool true, .bool true, .bool false]) := .lst _ (fun x hx => by
      simp only [List.mem_cons, List.not_mem_nil, or_false] at hx
      rcases hx with rfl | rfl | rfl <;> exact .sc _ rfl) (by show 3 ≤ 100000; decide)
    exact ⟨_, _, .list [.bool true, .bool true, .bool false], rfl, .lst (s8 _ _ e7) (.cons (.bl _) (.cons (.bl _) (.cons (.bl _) .nil))), .lst et2 (.cons (.bl _) (.cons (.bl _) (.cons (.bl _) .nil))), ob, fun H9 s9 => q H9 (s05.trans (s6.trans (s7.trans (s8.trans s9))))⟩
end
end Lk
end
section
set_option maxRecDepth 100000
set_option maxHeartbeats 2000000
/-! != by an own class's ==. -/
namespace PySem.W
open PySem PySem.Calls PyProof.Rows Builtin
section
variable {prog : Program} {w : World} {A : Around} {E : Value → Shared → Prop} {s : Shared} {K : Frag} {x C L f : Addr} {h₀ : Heap} {m : Str → Option Value} {ox : Obj} {od : Option Obj} {b tb : Value}
theorem objNe_K {Q : Fin → Shared → Prop} (hu : A.units < cLine) (X : K.In s.heap) (I : InstAt s.heap x ox C od) (hs : findIn K (.ref C) "__eq__" = some (some (.ref f))) (hf : isFn K (.ref f) = true)
    (h : wpAny (model prog w) A (call (.ref f) [.ref x, b]) (fun v s' => ∃ r, v = .bool r ∧ Q (.done (.ret (.bool (!r)))) s') E s) :
    wpAny (model prog w) A (Builtin.«object.__ne__» ⟨[.ref x, b], []⟩) Q E s := by
  unfold Builtin.«object.__ne__»
  repeat (first
    | with_reducible refine wpAny_cRoomFor hu ?_
    | (refine wpAny_bind (m := callSpecialIfBound? (.ref x) (Str.ofString "__eq__") [b])
        (ifBound_K X I hs hf (wpAny_mono h (fun r s' hr => by
          obtain ⟨b, rfl, hq⟩ := hr
          repeat (first | exact hq | exact wpAny_pure hq | exact wpAny_truthy_bool hq | (refine wpAny_bind (m := truthy (.bool _)) (wpAny_truthy_bool ?_)) | wp_step)) fun _ _ e => e)))
    | wp_step)
theorem ne_K {Q : Value → Shared → Prop} (hu : A.units + 1 < cLine) (F : Fr h₀ L s.heap m) (X₀ : K.In h₀) (I : InstAt s.heap x ox C od) (hb : Looks (model prog w) s.heap (typeOf b) tb) (hn : notFirst K C tb = true)
    (hs : findIn K (.ref C) "__eq__" = some (some (.ref f))) (hf : isFn K (.ref f) = true) (hne : findIn K (.ref C) "__ne__" = some (some (.builtin "object.__ne__"))) (hm : mroIn K C (.type "object") = some true)
    (h : wpAny (model prog w) A.in1 (call (.ref f) [.ref x, b]) (fun v s' => ∃ r, v = .bool r ∧ Q (.bool (!r)) s') E s) : wpAny (model prog w) A (richCompare .NotEq (.ref x) b) Q E s := by
  have X := X₀.keeps F.keep
  have FB := PySem.F.cmp_object
  have isI : Looks (model prog w) s.heap (isInstance (.ref x) (.type "object")) true := I.type.andThen (looks_mroIn X hm)
  have body : wpAny (model prog w) A (call (.builtin "object.__ne__") [.ref x, b]) (fun v s' => v ≠ .notImplemented ∧ Q v s') E s :=
    wpAny_call (codeAny_call_builtin FB.ne.plain PySem.F.cmpEntry_ne (check_slot PySem.F.cmpKind_ne PySem.F.cmpSplit_ne isI (PySem.F.cmpArgs_ne _ _)
      (objNe_K (A := A.in1) (Nat.lt_of_succ_le hu) X I hs hf (wpAny_mono h (fun v s' hv => by
        obtain ⟨r, rfl, hq⟩ := hv
        exact ⟨r, rfl, (fun z => nomatch z), hq⟩) fun _ _ e => e))))
  have one : wpAny (model prog w) A (tryCompare (.ref x) "__ne__" b) (fun r s' => ∃ v, r = some v ∧ Q v s') E s := by
    unfold tryCompare
    have z : wpAny (model prog w) A (callSpecialIfBound? (.ref x) "__ne__" [b]) (fun r s' => ∃ v, r = some v ∧ v ≠ .notImplemented ∧ Q v s') E s := by
      simp only [callSpecialIfBound?, bindSpecialIfBound?]
      refine wpAny_holding (wpAny_bind (wpAny_bind (wpAny_bind (I.type.here ((looks_findIn X hne).here ?_)))))
      refine wpAny_bind (wpAny_askSetting (wpAny_ite ?_))
      have fin : wpAny (model prog w) A (call (.builtin "object.__ne__") ([.ref x] ++ [b]) >>= fun v => pure (some v)) (fun r s' => ∃ v, r = some v ∧ v ≠ .notImplemented ∧ Q v s') E s := wpAny_bind (wpAny_mono body (fun v s' h' => wpAny_pure ⟨v, rfl, h'.1, h'.2⟩) fun _ _ h' => h')
      simp only [FB.ne.bind]
      split
      · exact wpAny_bind (wpAny_pure (wpAny_pure fin))
      · exact wpAny_tryCatch (wpAny_bind (wpAny_pure (wpAny_pure fin)))
    refine wpAny_bind (wpAny_mono z (fun r s' hr => ?_) fun _ _ e => e)
    obtain ⟨v, rfl, nv, hq⟩ := hr
    cases v <;> first | exact absurd rfl nv | exact wpAny_pure ⟨_, rfl, hq⟩
  unfold richCompare
  simp only [oneThing_ref]
  refine wpAny_holding (wpAny_bind (wpAny_cRoomFor (Nat.lt_of_succ_lt hu) ?_))
  rw [cmpInfo_NotEq]
  dsimp only
  refine wpAny_bind (I.type.here (wpAny_bind (hb.here ?_)))
  split
  · rename_i q
    have e : subIn K tb (.ref C) = some false := by
      rcases Bool.or_eq_true_iff.mp hn with e | e
      · rw [beq_iff_eq.mp e] at q; simp at q
      · exact beq_iff_eq.mp e
    refine wpAny_bind ((looks_subIn X e).here ?_)
    simp only [Bool.false_eq_true, if_false]
    refine wpAny_bind (wpAny_mono one (fun r s' z => ?_) fun _ _ e => e)
    obtain ⟨v, rfl, hq⟩ := z
    exact wpAny_pure hq
  · refine wpAny_bind (wpAny_pure ?_)
    simp only [Bool.false_eq_true, if_false]
    refine wpAny_bind (wpAny_mono one (fun r s' z => ?_) fun _ _ e => e)
    obtain ⟨v, rfl, hq⟩ := z
    exact wpAny_pure hq
end
end PySem.W
end
section
set_option maxRecDepth 100000
set_option maxHeartbeats 2000000
/-! Own classes: len, ==, !=. -/
namespace Lk
open PySem PySem.Spec PyProof.Rows L2
/-- what == and isinstance ask of an own class -/
structure OwnC (K : PySem.W.Frag) (C : Addr) : Prop where
  cl : Cls K C
  ca : PySem.W.findIn K (.ref C) "__class__" = some (some (.builtin "object.__class__"))
  cn : PySem.W.specialIn K (.builtin "object.__class__") "__get__" = some (some (.builtin "getset_descriptor.__get__"))
  ct : PySem.W.takesIn K (.builtin "object.__class__") = some true
  cm : PySem.W.mroIn K C (.type "object") = some true
  ne : PySem.W.findIn K (.ref C) "__ne__" = some (some (.builtin "object.__ne__"))
  ic : PySem.W.isClsIn K C = true
  ty : PySem.W.typeIn K (.ref C) = some (.type "type")
def isTyV : Value → Bool
  | .type _ => true
  | _ => false
/-- no own class stands ahead of a builtin type -/
def bareT (T : String) : Bool := ((PySem.fastBuiltinMro T).map fun l => l.all isTyV) == some true
theorem sub_bare {K : PySem.W.Frag} {T : String} {C : Addr} (h : bareT T = true) : PySem.W.subIn K (.type T) (.ref C) = some false := by
  unfold bareT at h
  obtain ⟨l, e, hl⟩ := Option.map_eq_some_iff.mp (eq_of_beq h)
  show (PySem.fastBuiltinMro T).map _ = _
  rw [e]
  show some (l.contains (Value.ref C)) = some false
  refine congrArg some ?_
  rw [Bool.eq_false_iff]
  intro z
  have y := List.all_eq_true.mp hl _ (List.contains_iff_mem.mp z)
  cases y
theorem kit_bare {K : PySem.W.Frag} {T : String} {C : Addr} (o : OwnC K C) (h : bareT T = true) : PySem.W.kitOne K (.type T) (.ref C) = some false := by
  unfold PySem.W.kitOne
  rw [if_neg (show ¬ ((Value.type T == Value.ref C) = true) from fun z => nomatch (eq_of_beq z))]
  show (if ((PySem.W.clsIn K C).isSome && PySem.W.typeIn K (.ref C) == some (.type "type")) = true then PySem.W.subIn K (.type T) (.ref C) else none) = some false
  have ic : (PySem.W.clsIn K C).isSome = true := o.ic
  rw [ic, o.ty, if_pos (by rfl)]
  exact sub_bare h
theorem kit_selfO {K : PySem.W.Frag} {C : Addr} : PySem.W.kitOne K (.ref C) (.ref C) = some true := by
  unfold PySem.W.kitOne
  rw [if_pos (by simp)]
theorem first_bare {K : PySem.W.Frag} {T : String} {C : Addr} (h : bareT T = true) : PySem.W.notFirst K C (.type T) = true := by
  unfold PySem.W.notFirst
  rw [sub_bare h]
  simp
theorem first_self {K : PySem.W.Frag} {C : Addr} : PySem.W.notFirst K C (.ref C) = true := by
  unfold PySem.W.notFirst
  simp
theorem bare_data (d : PyData) : bareT (tyN d) = true := by
  cases d <;> (simp only [tyN]; decide +kernel)
section
variable {X : Cx} {k j : Nat} {C : Addr} {sp : Sp}
/-- a method of an own class runs, called by a builtin -/
theorem run_met {A : Around} {f : Addr} {fd : FuncData} {ps : List Str} {pins : List (Addr × Obj)} {σ : L2.St} {H : Hp} {s : Shared} {Q : VK} {us : List Value} {vs : List V} (F : FnOk X.prog X.w X.K X.mg X.base CX0 k f fd ps sp) (b : Binds X.K fd ps [])
    (hr : Room k A) (fr : A.frames = X.A.frames) (I : Inv X pins σ H s) (r : Vals vs us) (q : sp vs H Q E0) : wpAny (model X.prog X.w) A (call (.ref f) us) (EP X pins σ Q) X.xe s := by
  have hl := F.len _ _ _ _ q
  have e0 : Env0 X.prog X.w X.K X.mg X.base A X.stack s H := by
    have e := I.env0
    exact ⟨by rw [fr]; exact e.frames, e.mod, e.bs, e.bsz, e.funs, e.frf, e.hok, e.bare⟩
  refine wpAny_call (codeAny_mono (F.run A X.stack s H ⟨us, []⟩ us vs Q E0 hr e0 (by
    have := b s us I.kIn (by rw [List.append_nil, ← r.length]; exact hl)
    simpa using this) r q) fun r s' hq => ?_)
  cases r with
  | error e => exact pass0 pins σ H s e s' I hq
  | ok fl =>
    cases fl with
    | ret w => exact I.after hq
    | next => exact False.elim hq
    | brk => exact False.elim hq
    | cont => exact False.elim hq
/-- len(x), x of an own class -/
theorem call_lenOwn (c : Met X.prog X.w X.K X.mg X.base k C "__len__" sp) (hr : Room j X.A) (hk : k + 1 ≤ j) :
    CallR X (.builtin "len") (fun vs H Q => ∃ (p dx : Addr) (fs : List (Str × V)), vs = [.ref p] ∧ H p = some (.ins C dx fs) ∧ sp [.ref p] H (fun v H' => ∃ n : Int, v = .int n ∧ (0 ≤ n ∧ n < 2 ^ 63) ∧ Q v H') E0) := by
  intro pins s σ H xs us Q I r h
  obtain ⟨p, dx, fs, rfl, hp, q⟩ := h
  obtain ⟨u, rfl, rx⟩ := vals1 r
  cases rx
  obtain ⟨mA, J, _⟩ := ins_get I.hok hp
  obtain ⟨od, J, _⟩ := J.look
  obtain ⟨m, hF⟩ := I.fr
  obtain ⟨f, fd, ps, F, M, b⟩ := c.ex
  refine PySem.W.len_K hF I.ok.mod.kin J M.at_ M.fn (wpAny_mono (run_met (us := [.ref p]) (vs := [.ref p]) F b ((hr.mono hk).in1) rfl I (.cons rfl .nil) q) (fun w s' hw => ?_) fun _ _ x => x)
  obtain ⟨z, H', I', rz, n, rfl, b, ex⟩ := hw
  obtain ⟨t, rfl⟩ := rz
  exact ⟨b, .int n, H', I'.tok _, ⟨s'.toks, rfl⟩, ex⟩
/-- x == y, x of an own class with __eq__ -/
def rEqO (K : PySem.W.Frag) (C : Addr) (sp : Sp) (g : Bool → Bool) : R2 := fun x y H Q => ∃ (a dx : Addr) (fs : List (Str × V)) (t : Value), x = .ref a ∧ H a = some (.ins C dx fs) ∧ TyX K H y t ∧ PySem.W.notFirst K C t = true ∧ sp [x, y] H (fun v H' => ∃ b, v = .bl b ∧ Q (.bl (g b)) H') E0
theorem op_eqO (c : Met X.prog X.w X.K X.mg X.base k C "__eq__" sp) (hr : Room j X.A) (hk : k ≤ j) : OpR X (compareOp .Eq) (rEqO X.K C sp id) := by
  intro pins s σ H x y v u Q I rx ry h
  obtain ⟨a, dx, fs, t, rfl, ha, ty, hn, q⟩ := h
  cases (show v = Value.ref a from rx)
  obtain ⟨mA, J, _⟩ := ins_get I.hok ha
  obtain ⟨od, J, _⟩ := J.look
  obtain ⟨m, hF⟩ := I.fr
  obtain ⟨f, fd, ps, F, M, b⟩ := c.ex
  obtain ⟨P, Z, p, hx⟩ := kit_of I ry ty
  have hr' := hr.mono hk
  show wpAny (model X.prog X.w) X.A (richCompare .Eq (.ref a) u) (EP X pins σ Q) X.xe s
  refine PySem.W.cmp_K (op := .Eq) hr'.units0 hF I.ok.mod.kin J (Z.ty _ _ I.kIn p) hn M.at_ M.fn (wpAny_mono (run_met (us := [.ref a, u]) (vs := [.ref a, y]) F b hr' rfl I (.cons rfl (.cons ry .nil)) q) (fun w s' hw => ?_) fun _ _ x => x)
  obtain ⟨z, H', I', rz, b, rfl, ex⟩ := hw
  cases (show w = Value.bool b from rz)
  exact ⟨.bl b, H', I', rfl, ex⟩
theorem op_neO (o : OwnC X.K C) (c : Met X.prog X.w X.K X.mg X.base k C "__eq__" sp) (hr : Room j X.A) (hk : k + 1 ≤ j) : OpR X (compareOp .NotEq) (rEqO X.K C sp (!·)) := by
  intro pins s σ H x y v u Q I rx ry h
  obtain ⟨a, dx, fs, t, rfl, ha, ty, hn, q⟩ := h
  cases (show v = Value.ref a from rx)
  obtain ⟨mA, J, _⟩ := ins_get I.hok ha
  obtain ⟨od, J, _⟩ := J.look
  obtain ⟨m, hF⟩ := I.fr
  obtain ⟨f, fd, ps, F, M, b⟩ := c.ex
  obtain ⟨P, Z, p, hx⟩ := kit_of I ry ty
  have hr' := hr.mono hk
  show wpAny (model X.prog X.w) X.A (richCompare .NotEq (.ref a) u) (EP X pins σ Q) X.xe s
  refine PySem.W.ne_K (by have := hr'.un; omega) hF I.ok.mod.kin J (Z.ty _ _ I.kIn p) hn M.at_ M.fn o.ne o.cm (wpAny_mono (run_met (us := [.ref a, u]) (vs := [.ref a, y]) F b hr'.in1 rfl I (.cons rfl (.cons ry .nil)) q) (fun w s' hw => ?_) fun _ _ x => x)
  obtain ⟨z, H', I', rz, b, rfl, ex⟩ := hw
  cases (show w = Value.bool b from rz)
  exact ⟨b, rfl, .bl (!b), H', I', rfl, ex⟩
end
end Lk
end
section
set_option maxRecDepth 100000
set_option maxHeartbeats 4000000
/-! What a learner tells of a thing. -/
namespace Lk
open PySem PySem.Spec PyProof.Rows L2
theorem nostr_th {H : Hp} {u : V} {d : PyData} (t : Th H u d) (no : ∀ x, d ≠ .str x) : NoStr H u := by
  cases t with
  | non => exact .non
  | bl b => exact .bl b
  | int i => exact .int i
  | str x => exact absurd rfl (no x)
  | lst e m => exact .lst e
  | tup e m => exact .tup e
  | dct e => exact .dK e
theorem place_word {l w : List Nat} {a : Nat} (az : Az l) (h : placeOf l w = some a) : isWord w = true := by
  have hl := place_lt h
  unfold placeOf at h
  rw [List.find?_range_eq_some] at h
  have st := h.1
  unfold standsAt at st
  rw [Bool.and_eq_true, decide_eq_true_eq, decide_eq_true_eq] at st
  refine isWord_iff.mpr ⟨?_, ?_⟩
  · rw [← st.2]
    exact az_run az (by omega) _ _
  · cases w with
    | nil =>
      have z := st.1
      rw [List.getElem?_eq_getElem hl] at z
      cases z
    | cons c r => exact Nat.succ_pos _
/-- whether it is known; whether it is the next one -/
def kb (l ls : List Nat) (d : PyData) : Bool := match plD l d with
  | some (a, n) => decide (n ≤ ls.getD a 0)
  | none => false
def nb (l ls : List Nat) (d : PyData) : Bool := match plD l d with
  | some (a, n) => decide (n = ls.getD a 0 + 1)
  | none => false
structure Lv (x : Ln) (l ls : List Nat) : Prop where
  lp : x.loop = l
  nw : x.now = (0, ls)
  hl : isLoop l = true
  nd : l.Nodup
  ll : ls.length = l.length
  n0 : x.n = 0
  te : ∀ r ∈ x.rows, ∃ w, r.1 = .teach w
theorem Lv.l0 {x : Ln} {l ls : List Nat} (h : Lv x l ls) : 0 < x.loop.length ∧ x.loop.length ≤ 12 ∧ x.now.2.length = x.loop.length := by
  obtain ⟨_, l1, l12⟩ := isLoop_len h.hl
  rw [h.lp, h.nw]
  exact ⟨l1, l12, h.ll⟩
theorem wv {H : Hp} {u : V} {d : PyData} {l : List Nat} (az : Az l) (t : Th H u d) (h : ∀ x, d = .str x → x.length ≤ 40000) : ∃ b, WordV H u b ∧ (∀ w, u = .str (SX.S w) → w.length ≤ 50000) ∧ (b = false → plD l d = none) ∧ (∀ w, u = .str (SX.S w) → plD l d = (placeOf l w).map fun a => (a, w.length)) := by
  by_cases c : ∃ x, d = .str x
  · obtain ⟨x, rfl⟩ := c
    cases t with
    | str =>
      obtain ⟨w, ew⟩ : ∃ w : List Nat, w = x.cps.toList := ⟨_, rfl⟩
      have ex : x = SX.S w := by rw [ew]
      subst ex
      have hw := h _ rfl
      rw [SX.S_len] at hw
      have pe : plD l (.str (SX.S w)) = (placeOf l w).map fun a => (a, w.length) := by
        show (placeOf l w).map (fun a => (a, (SX.S w).length)) = _
        rw [SX.S_len]
      refine ⟨isWord w, .str w (by omega), fun w' e => ?_, fun z => ?_, fun w' e => ?_⟩
      · rw [← SX.S_inj (V.str.inj e)]; omega
      · rw [pe]
        cases p : placeOf l w with
        | none => rfl
        | some a => rw [place_word az p] at z; cases z
      · rw [← SX.S_inj (V.str.inj e)]; exact pe
  · have no : ∀ x, d ≠ .str x := fun x e => c ⟨x, e⟩
    have ns : ∀ x, u ≠ .str x := fun x e => by
      rw [e] at t
      cases t
      exact no x rfl
    refine ⟨false, .oth (nostr_th t no), fun w e => absurd e (ns _), fun _ => ?_, fun w e => absurd e (ns _)⟩
    cases d with
    | str x => exact absurd rfl (no x)
    | _ => rfl
theorem kb_eq {x : Ln} {l ls w : List Nat} {d : PyData} (h : Lv x l ls) (e : plD l d = (placeOf l w).map fun a => (a, w.length)) : x.knows w = kb l ls d := by
  unfold Ln.knows kb
  rw [e, h.lp, h.nw]
  cases placeOf l w <;> rfl
theorem use_knows {C p D A : Addr} {H : Hp} {x : Ln} {l ls : List Nat} {u : V} {d : PyData} {Q : VK} {E : XK} (L : LnAt C H p D A x) (h : Lv x l ls) (t : Th H u d) (hd : ∀ x, d = .str x → x.length ≤ 40000) (q : ∀ H', Same H H' → Q (.bl (kb l ls d)) H') : spKnowsL C [.ref p, u] H Q E := by
  obtain ⟨a1, a2, a3⟩ := h.l0
  obtain ⟨b, wvb, w5, bf, bt⟩ := wv (isLoop_len h.hl).1 t hd
  refine ⟨p, D, A, x, u, b, rfl, L, a1, a2, a3, wvb, w5, fun z H' s => ?_, fun z w e isw H' s => ?_⟩
  · have e : kb l ls d = false := by unfold kb; rw [bf z]
    rw [← e]
    exact q H' s
  · rw [kb_eq h (bt w e)]
    exact q H' s
theorem use_taught {C p D A : Addr} {H : Hp} {x : Ln} {l ls : List Nat} {u : V} {d : PyData} {Q : VK} {E : XK} (L : LnAt C H p D A x) (h : Lv x l ls) (rw_ : x.rows.length ≤ 100000) (t : Th H u d) (hd : ∀ x, d = .str x → x.length ≤ 40000)
    (q0 : nb l ls d = false → ∀ H', Same H H' → Q (.str "word") H') (q1 : ∀ a n w, plD l d = some (a, n) → n = ls.getD a 0 + 1 → a < ls.length → ∀ H', LnAt C H' p D A (x.teach w a) → Rest p D A H H' → Q (.str "let") H') : spTaught C [.ref p, u] H Q E := by
  obtain ⟨a1, a2, a3⟩ := h.l0
  obtain ⟨b, wvb, w5, bf, bt⟩ := wv (isLoop_len h.hl).1 t hd
  refine ⟨p, D, A, x, u, b, rfl, L, a1, a2, a3, wvb, w5, rw_, fun z H' s => ?_, fun z w e isw => ?_⟩
  · exact q0 (by unfold nb; rw [bf z]) H' s
  · have pe := bt w e
    unfold Ln.next
    rw [h.lp, h.nw]
    cases pl : placeOf l w with
    | none =>
      rw [pl] at pe
      exact ⟨fun _ H' s => q0 (by unfold nb; rw [pe]; rfl) H' s, fun a nx => by cases nx⟩
    | some a =>
      rw [pl] at pe
      have al : a < ls.length := by rw [h.ll]; exact place_lt pl
      by_cases c : w.length = ls.getD a 0 + 1
      · refine ⟨fun nx => ?_, fun a' nx H' L' r' => ?_⟩
        · have z : (if w.length = ls.getD a 0 + 1 then some a else none) = none := nx
          rw [if_pos c] at z
          cases z
        · have z : (if w.length = ls.getD a 0 + 1 then some a else none) = some a' := nx
          rw [if_pos c] at z
          cases z
          exact q1 a w.length w pe c al H' L' r'
      · refine ⟨fun nx H' s => q0 ?_ H' s, fun a' nx => ?_⟩
        · unfold nb
          rw [pe]
          exact decide_eq_false c
        · have z : (if w.length = ls.getD a 0 + 1 then some a else none) = some a' := nx
          rw [if_neg c] at z
          cases z
theorem Lv.teach {x : Ln} {l ls w : List Nat} {a : Nat} (h : Lv x l ls) : Lv (x.teach w a) l (ls.set a (ls.getD a 0 + 1)) := by
  refine ⟨h.lp, ?_, h.hl, h.nd, by rw [List.length_set]; exact h.ll, h.n0, fun r hr => ?_⟩
  · show (x.now.1, x.now.2.set a (x.now.2.getD a 0 + 1)) = _
    rw [h.nw]
  · have hr : r ∈ x.rows ++ [(Deed.teach w, x.now, x.n)] := hr
    rcases List.mem_append.mp hr with z | z
    · exact h.te r z
    · rw [List.mem_singleton.mp z]; exact ⟨w, rfl⟩
/-- what the law's own look has told of a thing -/
def StV (H : Hp) (sv : V) (o : Option (Nat × Nat)) : Prop := (o = none → sv = .non) ∧ ∀ a n, o = some (a, n) → ∃ q, sv = .ref q ∧ H q = some (.tup [.int (a : Int), .int (n : Int)])
theorem StV.same {H H' : Hp} {sv : V} {o : Option (Nat × Nat)} (h : StV H sv o) (s : Tups H H') : StV H' sv o := ⟨h.1, fun a n e => by
  obtain ⟨q, e1, e2⟩ := h.2 a n e
  exact ⟨q, e1, s _ _ e2⟩⟩
/-- the lengths behind it -/
def lsN (l ls : List Nat) (d : PyData) : List Nat := match plD l d with
  | some (a, n) => if n = ls.getD a 0 + 1 then ls.set a (ls.getD a 0 + 1) else ls
  | none => ls
theorem plD_lt {l : List Nat} {d : PyData} {a n : Nat} (h : plD l d = some (a, n)) : a < l.length := by
  cases d with
  | str x =>
    have h : ((placeOf l x.cps.toList).map fun a => (a, x.length)) = some (a, n) := h
    obtain ⟨b, hb, e⟩ := Option.map_eq_some_iff.mp h
    cases e
    exact place_lt hb
  | _ => cases h
theorem kb_after {l ls : List Nat} {d : PyData} (hl : ls.length = l.length) : kb l (lsN l ls d) d = (kb l ls d || nb l ls d) := by
  unfold kb lsN nb
  cases p : plD l d with
  | none => rfl
  | some z =>
    obtain ⟨a, n⟩ := z
    have al := plD_lt p
    show decide (n ≤ (if n = ls.getD a 0 + 1 then ls.set a (ls.getD a 0 + 1) else ls).getD a 0) = (decide (n ≤ ls.getD a 0) || decide (n = ls.getD a 0 + 1))
    by_cases c : n = ls.getD a 0 + 1
    · rw [if_pos c, decide_eq_true c, Bool.or_true]
      have e : (ls.set a (ls.getD a 0 + 1)).getD a 0 = ls.getD a 0 + 1 := by
        rw [List.getD_eq_getElem?_getD, List.getElem?_set_self (by omega)]
        rfl
      rw [e]
      exact decide_eq_true (by omega)
    · rw [if_neg c, decide_eq_false c, Bool.or_false]
theorem lsN_len {l ls : List Nat} {d : PyData} : (lsN l ls d).length = ls.length := by
  unfold lsN
  cases plD l d with
  | none => rfl
  | some z =>
    show (if z.2 = ls.getD z.1 0 + 1 then ls.set z.1 (ls.getD z.1 0 + 1) else ls).length = _
    split
    · rw [List.length_set]
    · rfl
theorem lsN_le {l ls : List Nat} {d : PyData} {m : Int} (h : ∀ y ∈ ls, (y : Int) ≤ m) (h0 : 0 ≤ m) : ∀ y ∈ lsN l ls d, (y : Int) ≤ m + 1 := by
  intro y hy
  unfold lsN at hy
  cases p : plD l d with
  | none =>
    rw [p] at hy
    have := h y hy
    omega
  | some z =>
    rw [p] at hy
    have hy : y ∈ (if z.2 = ls.getD z.1 0 + 1 then ls.set z.1 (ls.getD z.1 0 + 1) else ls) := hy
    split at hy
    · rcases List.mem_or_eq_of_mem_set hy with c | c
      · have := h y c
        omega
      · by_cases g : z.1 < ls.length
        · have := h _ (List.getElem_mem g)
          rw [getD_eq g] at c
          omega
        · rw [List.getD_eq_getElem?_getD, List.getElem?_eq_none (by omega)] at c
          have c : y = 0 + 1 := c
          omega
    · have := h y hy
      omega
theorem lsN_no {l ls : List Nat} {d : PyData} (h : nb l ls d = false) : lsN l ls d = ls := by
  unfold nb at h
  unfold lsN
  cases p : plD l d with
  | none => rfl
  | some z =>
    rw [p] at h
    have h : decide (z.2 = ls.getD z.1 0 + 1) = false := h
    exact if_neg (of_decide_eq_false h)
theorem lsN_yes {l ls : List Nat} {d : PyData} {a n : Nat} (p : plD l d = some (a, n)) (h : n = ls.getD a 0 + 1) : lsN l ls d = ls.set a (ls.getD a 0 + 1) ∧ nb l ls d = true := by
  unfold lsN nb
  rw [p]
  exact ⟨if_pos h, decide_eq_true h⟩
theorem nb_yes {l ls : List Nat} {d : PyData} (h : nb l ls d = true) : ∃ a n, plD l d = some (a, n) ∧ n = ls.getD a 0 + 1 := by
  unfold nb at h
  cases p : plD l d with
  | none => rw [p] at h; cases h
  | some z =>
    rw [p] at h
    have h : decide (z.2 = ls.getD z.1 0 + 1) = true := h
    exact ⟨z.1, z.2, rfl, of_decide_eq_true h⟩
theorem okd_cd (c : Cd) (h : c.2.length ≤ 12) : Okd 3 (cdD c) := by
  refine .tup _ (fun y hy => ?_) (by show 2 ≤ 100000; decide)
  rcases List.mem_cons.mp hy with rfl | hy
  · exact .sc _ rfl
  · rw [List.mem_singleton.mp hy]
    refine .tup _ (fun y hy => ?_) (by rw [List.length_map]; omega)
    obtain ⟨k, _, rfl⟩ := List.mem_map.mp hy
    exact .sc _ rfl
theorem lay_rep (x : Str) (hx : PyData.strOk x = true) : ∀ n, PyData.canLayAll0 (List.replicate n (.str x)) = true
  | 0 => rfl
  | n + 1 => by
    rw [List.replicate_succ, PyData.canLayAll0, lay_rep x hx n, PyData.canLay0, hx]
    rfl
theorem depth_rep (x : Str) : ∀ n, PyData.depthAll (List.replicate n (.str x)) = 0
  | 0 => by rw [List.replicate_zero, PyData.depthAll]
  | n + 1 => by
    rw [List.replicate_succ, PyData.depthAll, depth_rep x n, PyData.depth]
    rfl
theorem shaped_rep (x : Str) (hx : PyData.strOk x = true) (n : Nat) : SeqAt.shaped (.list (List.replicate n (.str x))) = true := by
  unfold SeqAt.shaped
  rw [PyData.canLay0, lay_rep x hx n, PyData.depth, depth_rep]
  rfl
theorem th_rep {H : Hp} (x : Str) : ∀ n, ThAll H (List.replicate n (V.str x)) (List.replicate n (.str x))
  | 0 => .nil
  | n + 1 => .cons (.str _) (th_rep x n)
end Lk
end
section
set_option maxRecDepth 100000
set_option maxHeartbeats 8000000
namespace Lk
open PySem PySem.Spec PyProof.Rows L2
def spLaw (K : PySem.W.Frag) : Sp := fun vs H Q _ => ∃ (a : Addr) (ns : List Int), vs = [.ref a] ∧ SqL K H a (ns.map V.int) ∧ ns.length ≤ 63 ∧ ∀ H', Q (.bl true) H'
abbrev nL : List Str := ["script", "k", "pail", "loop", "lengths", "known", "learner", "turn", "thing", "stands", "due", "is_next", "deed"]
structure LCalls (P : Program) (w : World) (K : PySem.W.Frag) (mg : Str → Option Value) (base : Heap) (C : Addr) : Prop where
  pail : C8.Cal P w K mg base 1 "_law_pail" (spPot K) []
  dip : C8.Cal P w K mg base 1 "_law_dip" spPull []
  loop : C8.Cal P w K mg base 2 "_law_loop" spLoopP []
  begun : C8.Cal P w K mg base 3 "_law_begun" spBegun []
  things : C8.Cal P w K mg base 2 "_law_things" spThingsT []
  length : C8.Cal P w K mg base 2 "_law_length" spLength []
  taught : C8.Cal P w K mg base 6 "_law_taught" (spTaught C) []
  long_ : C8.Cal P w K mg base 9 "_law_long_right" spLong []
  same : C8.Cal P w K mg base 5 "_law_same" (spSameP (Okd 4)) []
  made : Maker P w K mg base 7 "Learner" C (.int 0) (spInit C) "first"
  knows : Met P w K mg base 4 C "knows" (spKnowsL C)
  coder : Met P w K mg base 1 C "coder" (spCoderL C)
  count : Met P w K mg base 1 C "count" (spCountL C)
  log : Met P w K mg base 1 C "log" (spLogL C)
  len_ : Met P w K mg base 1 C "__len__" (spLenL C)
  range : mg "range" = none
  len : mg "len" = none
  max : mg "max" = none
  min : mg "min" = none
  int : mg "int" = none
/-- what stays while things are asked -/
structure Iv (C p D A a tw : Addr) (l : List Nat) (ws : List (List Nat)) (H4 H : Hp) (m n : Int) (tl : Addr) (ls : List Nat) (x : Ln) : Prop where
  ln : LnAt C H p D A x
  lv : Lv x l ls
  tl : H tl = some (.tup (ls.map vN))
  tw : H tw = some (.tup (tx ws))
  b : ∀ y ∈ ls, (y : Int) ≤ m
  rw_ : (x.rows.length : Int) ≤ m
  ur : Urn H a n
  sb : SameBut a H4 H
theorem Iv.same {C p D A a tw : Addr} {l : List Nat} {ws : List (List Nat)} {H4 H H' : Hp} {m n : Int} {tl : Addr} {ls : List Nat} {x : Ln} (v : Iv C p D A a tw l ws H4 H m n tl ls x) (s : Same H H') : Iv C p D A a tw l ws H4 H' m n tl ls x :=
  ⟨v.ln.same s, v.lv, s _ _ v.tl, s _ _ v.tw, v.b, v.rw_, v.ur.same s, v.sb.trans (Same.but s)⟩
section
variable {P : Program} {w : World} {K : PySem.W.Frag} {mg : Str → Option Value} {base : Heap} {C : Addr}
theorem sc_law : FnScope nL ["script"] (defScope s_law) := ⟨rfl, rfl, rfl, by decide +kernel, rfl, by decide +kernel, by decide +kernel⟩
theorem ok_law {f : Addr} {fd : FuncData} (F : Fun K "law" "law" s_law f fd) (T : LCalls P w K mg base C) : FnOk P w K mg base CX0 12 f fd ["script"] (spLaw K) := by
  refine F.ok sc_law (fun vs H Q E h => ?_) (fun cdv A0 outer s H vs Q E hr h => ?_)
  · obtain ⟨a, ns, rfl, _⟩ := h
    rfl
  · obtain ⟨a, ns, rfl, hS, h63, q⟩ := h
    have nd := sc_law.nd
    have hun := hr.un
    have hu : (A0.deeper (envOfC "law" (defScope s_law) s.heap.objs.size f cdv)).units + 64 < cLine := by omega
    refine ⟨_, (pss_cons (by exact (ps_for PassesOwn.never rfl (pi_range1 (by rfl) T.range (pa_cons (pe_callB (call_max2 rfl) (by rfl) T.max (by decide +kernel) (pa_cons pe_int (pa_cons (pe_callB (call_min2 rfl) (by rfl) T.min (by decide +kernel) (pa_cons pe_int (pa_cons (pe_callB call_len_seq (by rfl) T.len PySem.boot_len (pa_cons (pv 0) pa_nil)) pa_nil))) pa_nil))) pa_nil)) (pg_name (i := 1) nd rfl (Or.inl rfl)) (pss_cons (by exact (ps_set (i := 2) nd rfl (Or.inl rfl) (C8.pe_c T.pail hr (by decide) rfl (pa_cons (pv 0) (pa_cons (pv 1) pa_nil)))))
      (pss_cons (by exact (ps_set (i := 3) nd rfl (Or.inl rfl) (C8.pe_c T.loop hr (by decide) rfl (pa_cons (pv 2) (pa_cons pe_int pa_nil)))))
      (pss_cons (by exact (ps_asg (C8.pe_c T.begun hr (by decide) rfl (pa_cons (pv 2) (pa_cons (pv 3) pa_nil))) (pg_tup rfl (pgs_cons (pg_name (i := 4) nd rfl (Or.inl rfl)) (pgs_cons (pg_name (i := 5) nd rfl (Or.inl rfl)) pgs_nil)))))
      (pss_cons (by exact (ps_set (i := 6) nd rfl (Or.inl rfl) (pe_mk0 T.made hr (by decide) rfl (pa_cons (pv 3) (pa_cons (pv 5) pa_nil)))))
      (pss_cons (by exact (ps_for PassesOwn.never rfl (pi_range1 (by rfl) T.range (pa_cons pe_int pa_nil)) (pg_name (i := 7) nd rfl (Or.inl rfl)) (pss_one (by exact (ps_for PassesOwn.never rfl (pi_list (C8.pe_c T.things hr (by decide) rfl (pa_cons (pv 2) (pa_cons (pv 3) (pa_cons (pv 4) (pa_cons (pv 5) pa_nil)))))) (pg_name (i := 8) nd rfl (Or.inl rfl)) (C8.pss_cut (by exact (ps_set (i := 9) nd rfl (Or.inl rfl) (C8.pe_c T.length hr (by decide) rfl (pa_cons (pv 3) (pa_cons (pv 8) pa_nil)))))
      (C8.pss_cut (by exact (ps_set (i := 10) nd rfl (Or.inl rfl) (pe_and (pe_cmpR op_notN (pv 9) pe_non (nomark _)) (pe_one (pe_cmpR op_le (pe_ix ix_tup (pv 9) pe_int (fun _ _ => rfl)) (pe_ix ix_tup (pv 4) (pe_ix ix_tup (pv 9) pe_int (fun _ _ => rfl)) (fun _ _ => rfl)) (nomark _))))))
      (pss_cons (by exact (ps_if (pt_not (pt_val (C8.pe_c T.same hr (by decide) rfl (pa_cons (pe_m (pv 6) T.knows hr (by decide) (pa_cons (pv 8) pa_nil)) (pa_cons (pv 10) pa_nil))))) (pss_one (by exact (ps_ret pe_bl))) pss_nil))
      (C8.pss_cut (by exact (ps_set (i := 11) nd rfl (Or.inl rfl) (pe_and (pe_cmpR op_notN (pv 9) pe_non (nomark _)) (pe_one (pe_cmpR op_eq (pe_ix ix_tup (pv 9) pe_int (fun _ _ => rfl)) (pe_op op_add (pe_ix ix_tup (pv 4) (pe_ix ix_tup (pv 9) pe_int (fun _ _ => rfl)) (fun _ _ => rfl)) pe_int) (nomark _))))))
      (C8.pss_cut (by exact (ps_if (pt_cmpR op_ne (C8.pe_c T.taught hr (by decide) rfl (pa_cons (pv 6) (pa_cons (pv 8) pa_nil))) (pe_ix ix_list (pe_lstS (pa_cons pe_str (pa_cons pe_str pa_nil))) (pe_callTy call_int1 (by rfl) T.int (by decide +kernel) (pa_cons (pv 11) pa_nil)) (fun _ _ => rfl)) (nomark _)) (pss_one (by exact (ps_ret pe_bl))) pss_nil))
      (C8.pss_cut (by exact (ps_if (pt_val (pv 11)) (pss_one (by exact (ps_set (i := 4) nd rfl (Or.inl rfl) (pe_op op_addT (pe_op op_addT (pe_slice sl_cutT (pv 4) po_none (po_some (pe_ix ix_tup (pv 9) pe_int (fun _ _ => rfl)))) (pe_tupS (pa_cons (pe_ix ix_tup (pv 9) pe_int (fun _ _ => rfl)) pa_nil))) (pe_slice sl_cutT (pv 4) (po_some (pe_op op_add (pe_ix ix_tup (pv 9) pe_int (fun _ _ => rfl)) pe_int)) po_none))))) pss_nil))
      (pss_one (by exact (ps_if (pt_not (pt_val (C8.pe_c T.same hr (by decide) rfl (pa_cons (pe_lstS (pa_cons (pe_m_0 (pv 6) T.coder hr (by decide)) (pa_cons (pe_m (pv 6) T.knows hr (by decide) (pa_cons (pv 8) pa_nil)) pa_nil))) (pa_cons (pe_lstS (pa_cons (pe_tupS (pa_cons pe_int (pa_cons (pv 4) pa_nil))) (pa_cons (pe_or (pv 10) (pe_one (pv 11))) pa_nil))) pa_nil))))) (pss_one (by exact (ps_ret pe_bl))) pss_nil))))))))))))))
      (pss_cons (by exact (ps_if (PW.pt (pw_or (pt_cmpR op_ne (pe_m_0 (pv 6) T.count hr (by decide)) pe_int (nomark _)) (pw_or1 (pt_cmpR (op_neD hu) (pe_lc (own := [("deed", 12)]) (g := (gName 12)) (tt := tYes) rfl nd (pi_list (pe_m_0 (pv 6) T.log hr (by decide))) (blkOk_by (N := nL) (sc := defScope s_law) (by decide +kernel)) (fun _ _ _ _ _ => (pg_name (i := 12) nd rfl (Or.inl rfl))) (fun _ _ _ _ _ => pts_nil) (fun _ _ _ _ _ => (pe_ix (ix_tupK (K := K) rfl) (pv 12) pe_int (fun _ _ => rfl)))) (pe_op op_rep (pe_lstS (pa_cons pe_str pa_nil)) (pe_callB (call_lenOwn T.len_ hr (by decide)) (by rfl) T.len PySem.boot_len (pa_cons (pv 6) pa_nil))) (nomark _))))) (pss_one (by exact (ps_ret pe_bl))) pss_nil))
      (pss_one (by exact (ps_if (pt_not (pt_val (C8.pe_c T.long_ hr (by decide) rfl (pa_cons (pe_item_str (pv 3) pe_int (fun _ _ => rfl)) pa_nil)))) (pss_one (by exact (ps_ret pe_bl))) pss_nil)))))))))))
      (pss_one (by exact (ps_ret pe_bl)))), ?_⟩
    obtain ⟨N, hN, eN⟩ : ∃ N : Nat, N ≤ 4 ∧ (if (if (ns.length : Int) < 4 then (ns.length : Int) else 4) > 1 then (if (ns.length : Int) < 4 then (ns.length : Int) else 4) else 1) = (N : Int) := by
      by_cases g : (ns.length : Int) < 4
      · rw [if_pos g]
        by_cases g2 : (ns.length : Int) > 1
        · rw [if_pos g2]
          exact ⟨ns.length, by omega, rfl⟩
        · rw [if_neg g2]
          exact ⟨1, by decide, rfl⟩
      · rw [if_neg g, if_pos (by decide)]
        exact ⟨4, by decide, rfl⟩
    refine ⟨_, rfl, a, _, rfl, .inl hS, _, _, rfl, _, _, rfl, (N : Int), ?_, by omega, by omega, ?_⟩
    · refine congrArg (fun z => [V.int z]) ?_
      rw [List.length_map]
      exact eN
    rw [Int.toNat_natCast]
    have same_but : ∀ {H0 H H1 : Hp} {a : Addr}, Same H0 H → H0 a = none → SameBut a H H1 → Same H0 H1 := fun s ha sb b o e => sb b o (ne_of_none e ha) (s b o e)
    refine for_range (lo := 0) (n := N) (fun i σ H1 => ∃ t : List (Option V), σ = some (.ref a) :: t ∧ t.length = 12 ∧ Same H H1) ⟨List.replicate 12 none, rfl, rfl, Same.refl _⟩ ?_ ?_
    · rintro i σ H1 hi ⟨t, rfl, ht, s1⟩
      obtain ⟨y1, y2, y3, y4, y5, y6, y7, y8, y9, y10, y11, y12, rfl⟩ : ∃ y1 y2 y3 y4 y5 y6 y7 y8 y9 y10 y11 y12, t = [y1, y2, y3, y4, y5, y6, y7, y8, y9, y10, y11, y12] := by
        match t, ht with
        | [y1, y2, y3, y4, y5, y6, y7, y8, y9, y10, y11, y12], _ => exact ⟨y1, y2, y3, y4, y5, y6, y7, y8, y9, y10, y11, y12, rfl⟩
      have hS1 : SqL K H1 a (ns.map V.int) := hS.imp (fun r => r.imp (fun e => s1 _ _ e) (fun ⟨o, e⟩ => ⟨o, s1 _ _ e⟩)) id
      refine ⟨_, rfl, _, rfl, a, ns, i, by rw [Int.zero_add]; rfl, hS1, by omega, h63, fun A1 H2 nA sA u2 => ?_⟩
      have nAH : H A1 = none := s1.free nA
      refine ⟨_, rfl, A1, 0, 12, rfl, u2, by decide, by decide, by decide, fun l H3 hl ndl l12 u3 sb3 => ?_⟩
      obtain ⟨az, l1, _⟩ := isLoop_len hl
      refine ⟨_, rfl, _, rfl, A1, _, l, rfl, u3, by decide, hl, ndl, l12, fun r tl tw ls ws H4 er etl etw hls h24 hk few short hlns u4 sb4 => ?_⟩
      refine ⟨r, _, rfl, SqT.of er, rfl, _, _, rfl, _, _, rfl, rfl, ?_⟩
      have szl : (SX.S l).length ≤ sizeLine := small12 l12
      have kn : KnB l ws ls := ⟨hl, ndl, hk, by omega, fun x hx => Nat.le_trans (short x hx) (by decide), hlns⟩
      have s14 : Same H H4 := same_but (same_but (s1.trans sA) nAH sb3) nAH sb4
      have tne : ∀ {H' : Hp} {t : Addr} {xs : List V} {n : Int}, H' t = some (.tup xs) → Urn H' A1 n → t ≠ A1 := fun e u => by
        obtain ⟨_, _, _, ea, _⟩ := u
        exact tup_ne e ea (fun _ z => nomatch z)
      refine ⟨_, rfl, _, rfl, rfl, rfl, fun p dx np ndx nex => new_ln (s := 0) kn etw l1 np ndx fun D A H5 nD nA L5 s5 => ⟨rfl, ?_⟩⟩
      have nap : A1 ∉ [p, D, A] := by
        obtain ⟨_, _, _, ea, _⟩ := u4
        simp only [List.mem_cons, List.not_mem_nil, or_false]
        intro z
        rcases z with rfl | rfl | rfl
        · rw [np] at ea; cases ea
        · rw [nD] at ea; cases ea
        · rw [nA] at ea; cases ea
      have hp4 : H p = none ∧ H D = none ∧ H A = none := ⟨none_of s14 np, none_of s14 nD, none_of s14 nA⟩
      have nots : ∀ q ∈ [p, D, A], H4 q = none := fun q hq => by
        simp only [List.mem_cons, List.not_mem_nil, or_false] at hq
        rcases hq with rfl | rfl | rfl
        · exact np
        · exact nD
        · exact nA
      have iv0 : Iv C p D A A1 tw l ws H4 H5 24 100 tl ls ⟨l, (0, ls), 0, []⟩ := ⟨L5, ⟨rfl, rfl, hl, ndl, hls, rfl, fun r hr => by cases hr⟩, s5 _ _ etl, s5 _ _ etw, fun y hy => by have := h24 y hy; omega, by show ((0 : Nat) : Int) ≤ 24; decide, (u4.same s5).le (by decide), Same.but s5⟩
      refine ⟨6, rfl, by decide, by decide, ?_⟩
      rw [show (6 : Int).toNat = 6 from rfl]
      refine for_range (lo := 0) (n := 6) (fun i2 σ H' => ∃ tl' ls' x z7 z8 z9 z10 z11 z12, σ = [some (.ref a), some (.int (0 + (i : Int))), some (.ref A1), some (.str (SX.S l)), some (.ref tl'), some (.ref tw), some (.ref p), z7, z8, z9, z10, z11, z12] ∧ Iv C p D A A1 tw l ws H4 H' (24 + 400 * (i2 : Int)) (100 + 600 * (i2 : Int)) tl' ls' x) ⟨tl, ls, ⟨l, (0, ls), 0, []⟩, y7, y8, y9, y10, y11, y12, rfl, by simpa using iv0⟩ ?_ ?_
      · rintro i2 σ H6 hi2 ⟨tl6, ls6, x6, z7, z8, z9, z10, z11, z12, rfl, iv6⟩
        refine ⟨_, rfl, _, rfl, _, rfl, _, rfl, A1, tl6, tw, _, l, ls6, ws, rfl, iv6.ur, by omega, hl, iv6.tl, iv6.lv.ll, fun y hy => by have := iv6.b y hy; omega, iv6.tw, few, fun y hy => Nat.le_trans (short y hy) (by decide), fun R us H7 nR eR lus tvs u7 sb7 => ⟨R, rfl, ⟨_, SqL.of eR⟩, ?_⟩⟩
        have iv7 : Iv C p D A A1 tw l ws H4 H7 (24 + 400 * (i2 : Int)) (100 + 600 * (i2 : Int) + 500) tl6 ls6 x6 := ⟨iv6.ln.but iv6.ur sb7 nap, iv6.lv, sb7 _ _ (tne iv6.tl iv6.ur) iv6.tl, sb7 _ _ (tne iv6.tw iv6.ur) iv6.tw, iv6.b, iv6.rw_, u7, iv6.sb.trans sb7⟩
        have stand6 := iv6.ln.stand
        refine for_list (K := K) (a := R) (xs := us) (fun j σ H' => (∃ tl' ls' x z8 z9 z10 z11 z12, σ = [some (.ref a), some (.int (0 + (i : Int))), some (.ref A1), some (.str (SX.S l)), some (.ref tl'), some (.ref tw), some (.ref p), some (.int (0 + (i2 : Int))), z8, z9, z10, z11, z12] ∧ Iv C p D A A1 tw l ws H4 H' (24 + 400 * (i2 : Int) + (j : Int)) (100 + 600 * (i2 : Int) + 500) tl' ls' x) ∧ ∀ b o, H6 b = none → H7 b = some o → H' b = some o) ⟨⟨tl6, ls6, x6, z8, z9, z10, z11, z12, rfl, by simpa using iv7⟩, fun b o _ e => e⟩ (fun j σ H' _ z => SqL.of (z.2 _ _ nR eR)) ?_ ?_
        · rintro j u σ H8 hx ⟨⟨tl8, ls8, x8, w8, w9, w10, w11, w12, rfl, iv8⟩, new8⟩
          have hj : j < us.length := (List.getElem?_eq_some_iff.mp hx).1
          obtain ⟨d, thd0, hd⟩ := tvs u (List.mem_of_getElem? hx)
          have th8 : Th H8 u d := Th.same fr_in d (Th.same (fr_up new8) d thd0)
          -- stands
          refine ⟨fun σ' H' => ∃ sv, σ' = [some (.ref a), some (.int (0 + (i : Int))), some (.ref A1), some (.str (SX.S l)), some (.ref tl8), some (.ref tw), some (.ref p), some (.int (0 + (i2 : Int))), some u, some sv, w10, w11, w12] ∧ Same H8 H' ∧ StV H' sv (plD l d), ?_, ?_⟩
          · refine ⟨_, rfl, _, rfl, l, u, d, rfl, hl, ndl, th8, fun x e => Nat.le_trans (hd x e) (by decide), fun pn H' s' => ⟨_, rfl, s', ⟨fun _ => rfl, fun a n e => by rw [pn] at e; cases e⟩⟩, fun a n pn q H' nq s' eq => ⟨_, rfl, s', ⟨fun e => (by rw [pn] at e; cases e), fun a' n' e => ?_⟩⟩⟩
            rw [pn] at e
            cases e
            exact ⟨q, rfl, eq⟩
          rintro σ9 H9 ⟨sv, rfl, s9, st9⟩
          have iv9 := iv8.same s9
          have th9 := Th.same s9 d th8
          -- due
          refine ⟨fun σ' H' => σ' = [some (.ref a), some (.int (0 + (i : Int))), some (.ref A1), some (.str (SX.S l)), some (.ref tl8), some (.ref tw), some (.ref p), some (.int (0 + (i2 : Int))), some u, some sv, some (.bl (kb l ls8 d)), w11, w12] ∧ H' = H9, ?_, ?_⟩
          · cases pd : plD l d with
            | none =>
              have e := st9.1 pd
              subst e
              have ek : kb l ls8 d = false := by unfold kb; rw [pd]
              refine ⟨_, rfl, rfl, _, rfl, ?_⟩
              dsimp only
              rw [decide_eq_true rfl]
              exact iteF ⟨by rw [ek]; rfl, rfl⟩
            | some z =>
              obtain ⟨a', n'⟩ := z
              obtain ⟨q', rfl, eq'⟩ := st9.2 a' n' pd
              have al := plD_lt pd
              have al2 : a' < ls8.length := by rw [iv9.lv.ll]; exact al
              have ek : kb l ls8 d = decide ((n' : Int) ≤ ((ls8.getD a' 0 : Nat) : Int)) := by
                unfold kb
                rw [pd]
                exact decide_eq_decide.mpr ⟨fun h => by omega, fun h => by omega⟩
              refine ⟨_, rfl, rfl, _, rfl, ?_⟩
              dsimp only
              rw [decide_eq_false (by intro z; cases z)]
              refine iteT ⟨_, rfl, q', _, ((1 : Nat) : Int), _, rfl, rfl, SqT.of eq', atI_nat rfl, _, rfl, _, rfl, q', _, ((0 : Nat) : Int), _, rfl, rfl, SqT.of eq', atI_nat rfl, tl8, _, (a' : Int), _, rfl, rfl, SqT.of iv9.tl, atI_nat (nat_at al2), _, _, rfl, rfl, ?_⟩
              exact ⟨by rw [ek]; rfl, rfl⟩
          rintro σ9' H9' ⟨rfl, rfl⟩
          -- knows
          obtain ⟨⟨dx9, v9, hp9, _⟩, _, _, _⟩ := id iv9.ln
          have okb : ∀ b : Bool, Okd 4 (.bool b) := fun b => .sc _ rfl
          refine ⟨_, rfl, p, dx9, _, rfl, hp9, noK (.inr (.inr (.inr (.inr (.inr (.inl rfl)))))), _, rfl, ?_⟩
          dsimp only [tNil, List.append_nil, List.nil_append, List.cons_append]
          refine use_knows iv9.ln iv9.lv th9 hd fun H10 s10 => ?_
          refine ⟨_, rfl, _, _, .bool (kb l ls8 d), rfl, .bl _, .bl _, okb _, fun H11 s11 => ⟨_, rfl, iteF ?_⟩⟩
          have s911 := s10.trans s11
          have iv11 := iv9.same s911
          have st11 := st9.same (Tups.of s911)
          -- is_next
          refine ⟨fun σ' H' => σ' = [some (.ref a), some (.int (0 + (i : Int))), some (.ref A1), some (.str (SX.S l)), some (.ref tl8), some (.ref tw), some (.ref p), some (.int (0 + (i2 : Int))), some u, some sv, some (.bl (kb l ls8 d)), some (.bl (nb l ls8 d)), w12] ∧ H' = H11, ?_, ?_⟩
          · cases pd : plD l d with
            | none =>
              have e := st11.1 pd
              subst e
              have ek : nb l ls8 d = false := by unfold nb; rw [pd]
              refine ⟨_, rfl, rfl, _, rfl, ?_⟩
              dsimp only
              rw [decide_eq_true rfl]
              exact iteF ⟨by rw [ek]; rfl, rfl⟩
            | some z =>
              obtain ⟨a', n'⟩ := z
              obtain ⟨q', rfl, eq'⟩ := st11.2 a' n' pd
              have al2 : a' < ls8.length := by rw [iv11.lv.ll]; exact plD_lt pd
              have ek : nb l ls8 d = decide (V.int (n' : Int) = V.int (((ls8.getD a' 0 : Nat) : Int) + 1)) := by
                unfold nb
                rw [pd]
                exact decide_eq_decide.mpr ⟨fun h => congrArg V.int (by omega), fun h => by have z := V.int.inj h; omega⟩
              refine ⟨_, rfl, rfl, _, rfl, ?_⟩
              dsimp only
              rw [decide_eq_false (by intro z; cases z)]
              refine iteT ⟨_, rfl, q', _, ((1 : Nat) : Int), _, rfl, rfl, SqT.of eq', atI_nat rfl, _, rfl, _, rfl, q', _, ((0 : Nat) : Int), _, rfl, rfl, SqT.of eq', atI_nat rfl, tl8, _, (a' : Int), _, rfl, rfl, SqT.of iv11.tl, atI_nat (nat_at al2), _, _, rfl, rfl, rfl, ?_⟩
              exact ⟨by rw [ek]; rfl, rfl⟩
          rintro σ9' H9' ⟨rfl, rfl⟩
          have th11 := Th.same s911 d th9
          have rows11 : x8.rows.length ≤ 100000 := by have := iv11.rw_; omega
          -- taught
          refine ⟨fun σ' H' => ∃ x12, σ' = [some (.ref a), some (.int (0 + (i : Int))), some (.ref A1), some (.str (SX.S l)), some (.ref tl8), some (.ref tw), some (.ref p), some (.int (0 + (i2 : Int))), some u, some sv, some (.bl (kb l ls8 d)), some (.bl (nb l ls8 d)), w12] ∧ LnAt C H' p D A x12 ∧ Lv x12 l (lsN l ls8 d) ∧ (x12.rows.length : Int) ≤ 24 + 400 * (i2 : Int) + (j : Int) + 1 ∧ Rest p D A H9' H', ?_, ?_⟩
          · refine ⟨_, rfl, _, rfl, ?_⟩
            dsimp only [tNil, List.append_nil, List.nil_append, List.cons_append]
            refine use_taught iv11.ln iv11.lv rows11 th11 hd (fun nf H12 s12 => ?_) (fun a' n' w' pd en al H12 L12 r12 => ?_)
            · refine ⟨(by show 2 ≤ sizeLine; decide), fun SW H13 nSW s13 eSW => ⟨_, rfl, .inr ⟨_, rfl, ?_⟩⟩⟩
              rw [nf]
              refine ⟨SW, _, 0, _, rfl, rfl, SqL.of eSW, rfl, rfl, _, rfl, ?_⟩
              rw [decide_eq_true rfl]
              have s1213 := s12.trans s13
              refine iteF ⟨x8, rfl, iv11.ln.same s1213, by rw [lsN_no nf]; exact iv11.lv, by have := iv11.rw_; omega, Rest.of s1213⟩
            · obtain ⟨e1, e2⟩ := lsN_yes pd en
              refine ⟨(by show 2 ≤ sizeLine; decide), fun SW H13 nSW s13 eSW => ⟨_, rfl, .inr ⟨_, rfl, ?_⟩⟩⟩
              rw [e2]
              refine ⟨SW, _, 1, _, rfl, rfl, SqL.of eSW, rfl, rfl, _, rfl, ?_⟩
              rw [decide_eq_true rfl]
              refine iteF ⟨x8.teach w' a', rfl, L12.same s13, by rw [e1]; exact iv11.lv.teach, ?_, r12.trans (Rest.of s13)⟩
              show ((x8.rows ++ [_]).length : Int) ≤ _
              rw [List.length_append]
              have := iv11.rw_
              show ((x8.rows.length + 1 : Nat) : Int) ≤ _
              push_cast
              omega
          rintro σ12 H12 ⟨x12, rfl, L12, lv12, rw12, r12⟩
          have tp12 := iv11.ln.tups r12
          have st12 := st11.same tp12
          have tl12 := tp12 _ _ iv11.tl
          -- the lengths anew
          refine ⟨fun σ' H' => ∃ tl13, σ' = [some (.ref a), some (.int (0 + (i : Int))), some (.ref A1), some (.str (SX.S l)), some (.ref tl13), some (.ref tw), some (.ref p), some (.int (0 + (i2 : Int))), some u, some sv, some (.bl (kb l ls8 d)), some (.bl (nb l ls8 d)), w12] ∧ H' tl13 = some (.tup ((lsN l ls8 d).map vN)) ∧ Same H12 H', ?_, ?_⟩
          · refine ⟨_, rfl, _, rfl, ?_⟩
            cases nv : nb l ls8 d with
            | false =>
              refine iteF ⟨tl8, rfl, by rw [lsN_no nv]; exact tl12, Same.refl _⟩
            | true =>
              obtain ⟨a', n', pd, en⟩ := nb_yes nv
              obtain ⟨e1, _⟩ := lsN_yes pd en
              obtain ⟨q', rfl, eq'⟩ := st12.2 a' n' pd
              have al2 : a' < ls8.length := by rw [iv11.lv.ll]; exact plD_lt pd
              have l12' : ls8.length ≤ 12 := by rw [iv11.lv.ll]; exact l12
              refine iteT ⟨_, rfl, _, rfl, q', _, ((0 : Nat) : Int), _, rfl, rfl, SqT.of eq', atI_nat rfl, _, rfl, tl8, _, rfl, tl12, fun b1 H13 s13 e13 => ?_⟩
              have ct : cutV (ls8.map vN) Option.none (some (a' : Int)) = (ls8.map vN).take a' := cut_to (by rw [List.length_map]; omega)
              rw [ct] at e13
              refine ⟨_, rfl, q', _, ((1 : Nat) : Int), _, rfl, rfl, SqT.of (s13 _ _ eq'), atI_nat rfl, (by show 1 ≤ sizeLine; decide), fun b2 H14 nb2 s14' e14 => ⟨b1, b2, _, _, rfl, rfl, s14' _ _ e13, e14, ?_, fun b3 H15 s15 e15 => ?_⟩⟩
              · rw [List.length_take, List.length_map]
                exact Nat.le_trans (show min a' ls8.length + 1 ≤ 30 by omega) (by decide)
              have s1215 := s13.trans (s14'.trans s15)
              refine ⟨_, rfl, _, rfl, q', _, ((0 : Nat) : Int), _, rfl, rfl, SqT.of (s1215 _ _ eq'), atI_nat rfl, _, _, rfl, rfl, _, rfl, tl8, _, rfl, s1215 _ _ tl12, fun b4 H16 s16 e16 => ?_⟩
              have cf : cutV (ls8.map vN) (some ((a' : Int) + 1)) Option.none = (ls8.map vN).drop (a' + 1) := cut_from (n := a' + 1)
              rw [cf] at e16
              refine ⟨b3, b4, _, _, rfl, rfl, s16 _ _ e15, e16, ?_, fun b5 H17 s17 e17 => ⟨b5, rfl, ?_, s1215.trans (s16.trans s17)⟩⟩
              · rw [List.length_append, List.length_take, List.length_drop, List.length_map]
                exact Nat.le_trans (show min a' ls8.length + 1 + (ls8.length - (a' + 1)) ≤ 30 by omega) (by decide)
              rw [e17, e1, List.map_set, List.set_eq_take_append_cons_drop, if_pos (by rw [List.length_map]; exact al2), List.append_assoc, en]
              rfl
          rintro σ13 H13 ⟨tl13, rfl, e13, s13⟩
          have L13 := L12.same s13
          obtain ⟨⟨dx13, v13, hp13, _⟩, _, _, _⟩ := id L13
          have new13 : ∀ b o, H6 b = none → H7 b = some o → H13 b = some o := fun b o hb e => by
            have nq : ∀ q ∈ [p, D, A], b ≠ q := fun q hq z => stand6 q hq (z ▸ hb)
            exact s13 _ _ (r12 b o (s911 _ _ (s9 _ _ (new8 b o hb e))) (nq _ List.mem_cons_self) (nq _ (List.mem_cons_of_mem _ List.mem_cons_self)) (nq _ (List.mem_cons_of_mem _ (List.mem_cons_of_mem _ List.mem_cons_self))))
          have th13 : Th H13 u d := Th.same fr_in d (Th.same (fr_up new13) d thd0)
          refine ⟨_, rfl, p, dx13, _, rfl, hp13, noK (.inr (.inr (.inr (.inr (.inl rfl))))), p, D, A, x12, rfl, L13, fun uc cuc => ?_⟩
          refine ⟨_, rfl, p, dx13, _, rfl, hp13, noK (.inr (.inr (.inr (.inr (.inr (.inl rfl)))))), _, rfl, ?_⟩
          dsimp only [tNil, List.append_nil, List.nil_append, List.cons_append]
          refine use_knows L13 lv12 th13 hd fun H14 s14' => ⟨(by show 2 ≤ sizeLine; decide), fun LA H15 nLA s15 eLA => ⟨_, rfl, (by show 2 ≤ sizeLine; decide), fun T1 H16 nT1 s16 eT1 => ?_⟩⟩
          have s1316 := s14'.trans (s15.trans s16)
          refine ⟨_, rfl, _, rfl, ?_⟩
          have ekn := kb_after (d := d) iv8.lv.ll
          have cdl : ∀ {H : Hp}, H T1 = some (.tup [V.int 0, V.ref tl13]) → H tl13 = some (.tup ((lsN l ls8 d).map vN)) → Th H (.ref T1) (cdD (0, lsN l ls8 d)) := fun e1 e2 => Cat.th ⟨T1, tl13, rfl, e1, e2⟩
          have lsl : (lsN l ls8 d).length ≤ 12 := by rw [lsN_len, iv8.lv.ll]; exact l12
          have okl : ∀ b : Bool, Okd 4 (.list [cdD (0, lsN l ls8 d), .bool b]) := fun b => .lst _ (fun x hx => by
            rcases List.mem_cons.mp hx with rfl | hx
            · exact okd_cd _ lsl
            · rw [List.mem_singleton.mp hx]; exact .sc _ rfl) (by show 2 ≤ 100000; decide)
          have cuc16 : Th H16 uc (cdD (0, lsN l ls8 d)) := by
            have z := Cat.th (cuc.same s1316)
            rw [lv12.nw] at z
            exact z
          have stepI : ∀ H17, Same H16 H17 → (∃ tl' ls' x z8 z9 z10 z11 z12, [some (.ref a), some (.int (0 + (i : Int))), some (.ref A1), some (.str (SX.S l)), some (.ref tl13), some (.ref tw), some (.ref p), some (.int (0 + (i2 : Int))), some u, some sv, some (.bl (kb l ls8 d)), some (.bl (nb l ls8 d)), w12] = [some (.ref a), some (.int (0 + (i : Int))), some (.ref A1), some (.str (SX.S l)), some (.ref tl'), some (.ref tw), some (.ref p), some (.int (0 + (i2 : Int))), z8, z9, z10, z11, z12] ∧ Iv C p D A A1 tw l ws H4 H17 (24 + 400 * (i2 : Int) + ((j + 1 : Nat) : Int)) (100 + 600 * (i2 : Int) + 500) tl' ls' x) ∧ ∀ b o, H6 b = none → H7 b = some o → H17 b = some o := fun H17 s17 => by
            have s1317 := s1316.trans s17
            have keepA : ∀ {b : Addr} {o : HO}, H9' b = some o → b ∉ [p, D, A] → H12 b = some o := fun e n => r12 _ _ e (fun z => n (z ▸ List.mem_cons_self)) (fun z => n (z ▸ List.mem_cons_of_mem _ List.mem_cons_self)) (fun z => n (z ▸ List.mem_cons_of_mem _ (List.mem_cons_of_mem _ List.mem_cons_self)))
            refine ⟨⟨tl13, lsN l ls8 d, x12, _, _, _, _, _, rfl, L13.same s1317, lv12, s1317 _ _ e13, s1317 _ _ (s13 _ _ (tp12 _ _ iv11.tw)), fun y hy => ?_, ?_, ?_, fun b o nb' e => ?_⟩, fun b o hb e => s1317 _ _ (new13 b o hb e)⟩
            · have := lsN_le (m := 24 + 400 * (i2 : Int) + (j : Int)) iv8.b (by omega) y hy
              push_cast
              omega
            · push_cast
              omega
            · obtain ⟨u0, u1, u2', ea, zz⟩ := iv11.ur
              exact ⟨u0, u1, u2', s1317 _ _ (s13 _ _ (keepA ea nap)), zz⟩
            · exact s1317 _ _ (s13 _ _ (keepA (iv11.sb b o nb' e) (fun z => by rw [nots b z] at e; cases e)))
          have stepK : ∀ H17, Same H16 H17 → ∃ LA', True := fun _ _ => ⟨LA, trivial⟩
          cases hk : kb l ls8 d with
          | true =>
            rw [hk, Bool.true_or] at ekn
            refine iteT ⟨(by show 2 ≤ sizeLine; decide), fun LB H17 nLB s17 eLB => ⟨_, _, .list [cdD (0, lsN l ls8 d), .bool true], rfl, .lst (s17 _ _ (s16 _ _ eLA)) (.cons (Th.same s17 _ cuc16) (.cons (ekn ▸ .bl _) .nil)), .lst eLB (.cons (cdl (s17 _ _ eT1) ((s1316.trans s17) _ _ e13)) (.cons (.bl _) .nil)), okl true, fun H18 s18 => ⟨_, rfl, iteF ?_⟩⟩⟩
            have z := stepI H18 (s17.trans s18)
            rw [hk] at z
            exact z
          | false =>
            rw [hk, Bool.false_or] at ekn
            refine iteF ⟨_, rfl, (by show 2 ≤ sizeLine; decide), fun LB H17 nLB s17 eLB => ⟨_, _, .list [cdD (0, lsN l ls8 d), .bool (nb l ls8 d)], rfl, .lst (s17 _ _ (s16 _ _ eLA)) (.cons (Th.same s17 _ cuc16) (.cons (ekn ▸ .bl _) .nil)), .lst eLB (.cons (cdl (s17 _ _ eT1) ((s1316.trans s17) _ _ e13)) (.cons (.bl _) .nil)), okl _, fun H18 s18 => ⟨_, rfl, iteF ?_⟩⟩⟩
            have z := stepI H18 (s17.trans s18)
            rw [hk] at z
            exact z
        · rintro σ H8 ⟨⟨tl8, ls8, x8, w8, w9, w10, w11, w12, rfl, iv8⟩, new8⟩
          exact ⟨tl8, ls8, x8, _, _, _, _, _, _, rfl, iv8.ln, iv8.lv, iv8.tl, iv8.tw, fun y hy => by have := iv8.b y hy; push_cast; omega, by have := iv8.rw_; push_cast; omega, iv8.ur.le (by push_cast; omega), iv8.sb⟩
      rintro σ H6 ⟨tl6, ls6, x6, z7, z8, z9, z10, z11, z12, rfl, iv6⟩
      obtain ⟨⟨dx6, v6, hp6, _⟩, _, _, _⟩ := id iv6.ln
      refine ⟨_, rfl, p, dx6, _, rfl, hp6, noK (.inr (.inr (.inr (.inl rfl)))), p, D, A, x6, rfl, iv6.ln, rfl, _, rfl, ?_⟩
      rw [iv6.lv.n0]
      show (if (!decide (V.int ((0 : Nat) : Int) = V.int 0)) = true then _ else _)
      rw [show (decide (V.int ((0 : Nat) : Int) = V.int 0)) = true from decide_eq_true rfl]
      refine iteF ⟨_, rfl, p, dx6, _, rfl, hp6, noK (.inr (.inr (.inr (.inr (.inr (.inr (.inl rfl))))))), p, D, A, x6, rfl, iv6.ln, fun ql us H7 nql s7 eql al7 => ⟨ql, rfl, ⟨_, SqL.of eql⟩, fun DD nDD => ?_⟩⟩
      have rw6 : x6.rows.length ≤ 100000 := by have := iv6.rw_; omega
      refine lc_list (xs := us) (fun i' H' => Same H7 H' ∧ H' DD = some (.lst (List.replicate i' (V.str (Str.ofString "teach"))))) ⟨same_new nDD, upd_same⟩ (fun i' H' _ z => SqL.of (z.1 _ _ eql)) ?_ ?_
      · rintro j u H8 hx ⟨s8, e8⟩
        obtain ⟨rr, hr', q8, rfl, eq8⟩ := al7.get hx
        obtain ⟨w', hw'⟩ := iv6.lv.te rr (List.mem_of_getElem? hr')
        rw [hw'] at eq8
        have jl : j < x6.rows.length := (List.getElem?_eq_some_iff.mp hr').1
        refine ⟨rfl, _, rfl, q8, _, ((0 : Nat) : Int), _, rfl, rfl, SqT.of (s8 _ _ eq8), atI_nat rfl, _, e8, ?_, same_push s8 nDD, ?_⟩
        · rw [List.length_replicate]
          exact Nat.lt_of_lt_of_le (show j < 100000 by omega) (by decide)
        · rw [upd_same, List.replicate_succ']
      rintro H8 ⟨s8, e8⟩
      rw [al7.len] at e8
      have L8 := (iv6.ln.same s7).same s8
      refine ⟨(by show 1 ≤ sizeLine; decide), fun LT H9 nLT s9 eLT => ⟨_, rfl, p, dx6, _, rfl, (s7.trans (s8.trans s9)) _ _ hp6, p, D, A, x6, rfl, L8.same s9, _, rfl, ⟨by omega, by omega⟩, LT, _, _, rfl, rfl, eLT, by omega, by omega, ?_, fun LM nLM => ?_⟩⟩
      · rw [Int.toNat_natCast]
        exact Nat.le_trans (show 1 * x6.rows.length ≤ 100000 by omega) (by decide)
      have efl : (List.replicate ((x6.rows.length : Nat) : Int).toNat [V.str (Str.ofString "teach")]).flatten = List.replicate x6.rows.length (V.str (Str.ofString "teach")) := by
        rw [Int.toNat_natCast]
        induction x6.rows.length with
        | zero => rfl
        | succ i ih => rw [List.replicate_succ, List.flatten_cons, ih, List.replicate_succ]; rfl
      rw [efl]
      have sM := same_new (o := .lst (List.replicate x6.rows.length (V.str (Str.ofString "teach")))) nLM
      have eM : upd H9 LM (.lst (List.replicate x6.rows.length (V.str (Str.ofString "teach")))) LM = some (.lst (List.replicate x6.rows.length (V.str (Str.ofString "teach")))) := upd_same
      generalize upd H9 LM (.lst (List.replicate x6.rows.length (V.str (Str.ofString "teach")))) = H10 at sM eM ⊢
      have okT : PyData.strOk (Str.ofString "teach") = true := by decide +kernel
      have layT : (PyData.list (List.replicate x6.rows.length (.str (Str.ofString "teach")))).canLay0 = true := by rw [PyData.canLay0]; exact lay_rep _ okT _
      refine ⟨.list (List.replicate x6.rows.length (.str (Str.ofString "teach"))), .list (List.replicate x6.rows.length (.str (Str.ofString "teach"))), Th.dp _ layT (.lst (sM _ _ (s9 _ _ e8)) (th_rep _ _)), Th.dp _ layT (.lst eM (th_rep _ _)), shaped_rep _ okT _, shaped_rep _ okT _, _, rfl, ?_⟩
      rw [SeqAt.eqv_refl _ layT]
      refine iteF ?_
      obtain ⟨c, hc⟩ : ∃ c, l[0]? = some c := ⟨_, List.getElem?_eq_getElem l1⟩
      have c0 : (SX.S l).cps[(0 : Int).toNat]? = some c := by
        show (l.toArray)[0]? = some c
        rw [List.getElem?_toArray]
        exact hc
      have lc : isLoop [c] = true := isLoop_of (fun d hd => by rw [List.mem_singleton.mp hd]; exact az c (List.mem_of_getElem? hc)) (Nat.le_refl _) (by show 1 ≤ 12; decide)
      refine ⟨_, rfl, _, 0, c, rfl, rfl, by decide, by decide, by rw [SX.S_len]; omega, c0, c, rfl, lc, fun H11 s11 => ⟨_, rfl, iteF ?_⟩⟩
      refine ⟨_, rfl, rfl, ?_⟩
      have s611 := s7.trans (s8.trans (s9.trans (sM.trans s11)))
      exact (same_but s14 nAH iv6.sb).trans s611
    · rintro σ H1 ⟨t, rfl, ht, s1⟩
      exact q _
end
end Lk
end
section
set_option maxRecDepth 100000
set_option maxHeartbeats 4000000
namespace Lk
open PySem PySem.Spec PyProof.Rows L2
theorem mkCal {P : Program} {w : World} {K : PySem.W.Frag} {mg : Str → Option Value} {base : Heap} {k : Nat} {x q : Str} {st : Stmt} {f : Addr} {fd : FuncData} {ps : List Str} {sp : Sp} (F : Fun K x q st f fd) (g : mg x = some (.ref f)) (b : Binds K fd ps []) (ok : FnOk P w K mg base CX0 k f fd ps sp) : C8.Cal P w K mg base k x sp [] :=
  ⟨f, fd, ps, [], ok, g, F.kp, b, .nil⟩
theorem mkCalX {P : Program} {w : World} {K : PySem.W.Frag} {mg : Str → Option Value} {base : Heap} {k : Nat} {x q : Str} {st : Stmt} {f : Addr} {fd : FuncData} {ps : List Str} {sp : Sp} (F : Fun K x q st f fd) (g : mg x = some (.ref f)) (b : Binds K fd ps []) (ok : FnOk P w K mg base (L2.CX P w) k f fd ps sp) : CalX P w K mg base k x sp :=
  ⟨f, fd, ps, ok, g, F.kp, b⟩
theorem mkCalG {P : Program} {w : World} {K : PySem.W.Frag} {mg : Str → Option Value} {base : Heap} {k : Nat} {x q : Str} {st : Stmt} {f : Addr} {fd : FuncData} {ps : List Str} {sp : Sp} (F : Fun K x q st f fd) (g : mg x = some (.ref f)) (b : Binds K fd ps []) (ok : FnG P w K mg base CX0 k f fd ps sp) : CalG P w K mg base k x sp :=
  ⟨f, fd, ps, ok, g, F.kp, b⟩
theorem kit_no {K : PySem.W.Frag} {C D : Addr} (self : PySem.W.subIn K (.ref C) (.ref C) = some true) (hc : PySem.W.isClsIn K D = true) (ht : PySem.W.typeIn K (.ref D) = some (.type "type")) (hs : PySem.W.subIn K (.ref C) (.ref D) = some false) : PySem.W.kitOne K (.ref C) (.ref D) = some false := by
  have ne : ¬ ((Value.ref C == Value.ref D) = true) := fun z => by
    have e : C = D := Value.ref.inj (eq_of_beq z)
    rw [← e, self] at hs
    cases hs
  have hc' : (PySem.W.clsIn K D).isSome = true := hc
  unfold PySem.W.kitOne
  rw [if_neg ne]
  show (if ((PySem.W.clsIn K D).isSome && PySem.W.typeIn K (.ref D) == some (.type "type")) = true then PySem.W.subIn K (.ref C) (.ref D) else none) = some false
  rw [hc', ht, if_pos (by rfl)]
  exact hs
theorem kit_ve {K : PySem.W.Frag} {C : Addr} (hs : PySem.W.subIn K (.ref C) (.type "ValueError") = some true) : PySem.W.kitOne K (.ref C) (.type "ValueError") = some true := by
  unfold PySem.W.kitOne
  rw [if_neg (show ¬ ((Value.ref C == Value.type "ValueError") = true) from fun z => nomatch z)]
  show (if PySem.W.kitMeta "ValueError" = true then PySem.W.subIn K (.ref C) (.type "ValueError") else none) = some true
  rw [if_pos (by decide +kernel)]
  exact hs
theorem mkCalN {P : Program} {w : World} {K : PySem.W.Frag} {mg : Str → Option Value} {base : Heap} {k : Nat} {x q : Str} {st : Stmt} {f : Addr} {fd : FuncData} {ps : List Str} {sp : Sp} (F : Fun K x q st f fd) (g : mg x = some (.ref f)) (b : Binds K fd ps []) (ok : FnOk P w K mg base (L2N.CX P w) k f fd ps sp) : CalN P w K mg base k x sp :=
  ⟨f, fd, ps, ok, g, F.kp, b⟩

theorem isb_to {K : PySem.W.Frag} {mg : Str → Option Value} {C : Addr} {x : Str} {b b' : Bool} (e : b' = b) (h : IsB K mg C x b) : IsB K mg C x b' := by
  rw [e]
  exact h
theorem all_mk {l : PySem.W.OpenLaw} {w : World} {K : PySem.W.Frag} {h : Heap} {mg : Str → Option Value} {fa : Addr} (X : K.In h) (G : h.Ns mainGlobals mg) (hfa : mg "law" = some (.ref fa))
    {f_is_letters f_is_whole f_is_within f_refuse_no_count f_is_loop f_refuse_no_loop f_is_plain f_refuse_not_plain f_is_word f_numbered f_is_known f_refuse_unknown f_longest_end f_is_coder f_refuse_no_coder f_one_longer f_next_coder f_words_till_round f_rounds_later f_behind f_known_lengths f_coder_on f_refuse_no_place f_text_from f_place_of f__law_pail f__law_dip f__law_letters f__law_loop f__law_rays f__law_begun f__law_same f__law_kind f__law_length f__law_taught f__law_things f__law_long_right f_law : Addr} {od_is_letters an_is_letters od_is_whole an_is_whole od_is_within an_is_within od_refuse_no_count an_refuse_no_count od_is_loop an_is_loop od_refuse_no_loop an_refuse_no_loop od_is_plain an_is_plain od_refuse_not_plain an_refuse_not_plain od_is_word an_is_word od_numbered an_numbered od_is_known an_is_known od_refuse_unknown an_refuse_unknown od_longest_end an_longest_end od_is_coder an_is_coder od_refuse_no_coder an_refuse_no_coder od_one_longer an_one_longer od_next_coder an_next_coder od_words_till_round an_words_till_round od_rounds_later an_rounds_later od_behind an_behind od_known_lengths an_known_lengths od_coder_on an_coder_on od_refuse_no_place an_refuse_no_place od_text_from an_text_from od_place_of an_place_of od__law_pail an__law_pail od__law_dip an__law_dip od__law_letters an__law_letters od__law_loop an__law_loop od__law_rays an__law_rays od__law_begun an__law_begun od__law_same an__law_same od__law_kind an__law_kind od__law_length an__law_length od__law_taught an__law_taught od__law_things an__law_things od__law_long_right an__law_long_right od_law an_law : Option Addr} {sl_is_letters sl_is_whole sl_is_within sl_refuse_no_count sl_is_loop sl_refuse_no_loop sl_is_plain sl_refuse_not_plain sl_is_word sl_numbered sl_is_known sl_refuse_unknown sl_longest_end sl_is_coder sl_refuse_no_coder sl_one_longer sl_next_coder sl_words_till_round sl_rounds_later sl_behind sl_known_lengths sl_coder_on sl_refuse_no_place sl_text_from sl_place_of sl__law_pail sl__law_dip sl__law_letters sl__law_loop sl__law_rays sl__law_begun sl__law_same sl__law_kind sl__law_length sl__law_taught sl__law_things sl__law_long_right sl_law : Array (Option Value)} {oc_is_letters kV_is_letters dc_is_letters pm_is_letters cd_is_letters ct_is_letters oc_is_whole kV_is_whole dc_is_whole pm_is_whole cd_is_whole ct_is_whole oc_is_within kV_is_within dc_is_within pm_is_within cd_is_within ct_is_within oc_refuse_no_count kV_refuse_no_count dc_refuse_no_count pm_refuse_no_count cd_refuse_no_count ct_refuse_no_count oc_is_loop kV_is_loop dc_is_loop pm_is_loop cd_is_loop ct_is_loop oc_refuse_no_loop kV_refuse_no_loop dc_refuse_no_loop pm_refuse_no_loop cd_refuse_no_loop ct_refuse_no_loop oc_is_plain kV_is_plain dc_is_plain pm_is_plain cd_is_plain ct_is_plain oc_refuse_not_plain kV_refuse_not_plain dc_refuse_not_plain pm_refuse_not_plain cd_refuse_not_plain ct_refuse_not_plain oc_is_word kV_is_word dc_is_word pm_is_word cd_is_word ct_is_word oc_numbered kV_numbered dc_numbered pm_numbered cd_numbered ct_numbered oc_is_known kV_is_known dc_is_known pm_is_known cd_is_known ct_is_known oc_refuse_unknown kV_refuse_unknown dc_refuse_unknown pm_refuse_unknown cd_refuse_unknown ct_refuse_unknown oc_longest_end kV_longest_end dc_longest_end pm_longest_end cd_longest_end ct_longest_end oc_is_coder kV_is_coder dc_is_coder pm_is_coder cd_is_coder ct_is_coder oc_refuse_no_coder kV_refuse_no_coder dc_refuse_no_coder pm_refuse_no_coder cd_refuse_no_coder ct_refuse_no_coder oc_one_longer kV_one_longer dc_one_longer pm_one_longer cd_one_longer ct_one_longer oc_next_coder kV_next_coder dc_next_coder pm_next_coder cd_next_coder ct_next_coder oc_words_till_round kV_words_till_round dc_words_till_round pm_words_till_round cd_words_till_round ct_words_till_round oc_rounds_later kV_rounds_later dc_rounds_later pm_rounds_later cd_rounds_later ct_rounds_later oc_behind kV_behind dc_behind pm_behind cd_behind ct_behind oc_known_lengths kV_known_lengths dc_known_lengths pm_known_lengths cd_known_lengths ct_known_lengths oc_coder_on kV_coder_on dc_coder_on pm_coder_on cd_coder_on ct_coder_on oc_refuse_no_place kV_refuse_no_place dc_refuse_no_place pm_refuse_no_place cd_refuse_no_place ct_refuse_no_place oc_text_from kV_text_from dc_text_from pm_text_from cd_text_from ct_text_from oc_place_of kV_place_of dc_place_of pm_place_of cd_place_of ct_place_of oc__law_pail kV__law_pail dc__law_pail pm__law_pail cd__law_pail ct__law_pail oc__law_dip kV__law_dip dc__law_dip pm__law_dip cd__law_dip ct__law_dip oc__law_letters kV__law_letters dc__law_letters pm__law_letters cd__law_letters ct__law_letters oc__law_loop kV__law_loop dc__law_loop pm__law_loop cd__law_loop ct__law_loop oc__law_rays kV__law_rays dc__law_rays pm__law_rays cd__law_rays ct__law_rays oc__law_begun kV__law_begun dc__law_begun pm__law_begun cd__law_begun ct__law_begun oc__law_same kV__law_same dc__law_same pm__law_same cd__law_same ct__law_same oc__law_kind kV__law_kind dc__law_kind pm__law_kind cd__law_kind ct__law_kind oc__law_length kV__law_length dc__law_length pm__law_length cd__law_length ct__law_length oc__law_taught kV__law_taught dc__law_taught pm__law_taught cd__law_taught ct__law_taught oc__law_things kV__law_things dc__law_things pm__law_things cd__law_things ct__law_things oc__law_long_right kV__law_long_right dc__law_long_right pm__law_long_right cd__law_long_right ct__law_long_right oc_law kV_law dc_law pm_law cd_law ct_law : Value}
    {f_Learner_init f_Learner_keep f_Learner_learn f_Learner_teach f_Learner_coder f_Learner_count f_Learner_log f_Learner_len f_Learner_knows yD : Addr} {yt : Tok} {od_Learner_init an_Learner_init od_Learner_keep an_Learner_keep od_Learner_learn an_Learner_learn od_Learner_teach an_Learner_teach od_Learner_coder an_Learner_coder od_Learner_count an_Learner_count od_Learner_log an_Learner_log od_Learner_len an_Learner_len od_Learner_knows an_Learner_knows : Option Addr} {sl_Learner_init sl_Learner_keep sl_Learner_learn sl_Learner_teach sl_Learner_coder sl_Learner_count sl_Learner_log sl_Learner_len sl_Learner_knows : Array (Option Value)} {oc_Learner_init  dc_Learner_init pm_Learner_init cd_Learner_init ct_Learner_init oc_Learner_keep kV_Learner_keep dc_Learner_keep pm_Learner_keep cd_Learner_keep ct_Learner_keep oc_Learner_learn kV_Learner_learn dc_Learner_learn pm_Learner_learn cd_Learner_learn ct_Learner_learn oc_Learner_teach kV_Learner_teach dc_Learner_teach pm_Learner_teach cd_Learner_teach ct_Learner_teach oc_Learner_coder kV_Learner_coder dc_Learner_coder pm_Learner_coder cd_Learner_coder ct_Learner_coder oc_Learner_count kV_Learner_count dc_Learner_count pm_Learner_count cd_Learner_count ct_Learner_count oc_Learner_log kV_Learner_log dc_Learner_log pm_Learner_log cd_Learner_log ct_Learner_log oc_Learner_len kV_Learner_len dc_Learner_len pm_Learner_len cd_Learner_len ct_Learner_len oc_Learner_knows kV_Learner_knows dc_Learner_knows pm_Learner_knows cd_Learner_knows ct_Learner_knows : Value}
    {A_LearnError A_Learner A_NoCoder A_NoCount A_NoCounts A_NoKnown A_NoLog A_NoLoop A_NoPairs A_NoPlace A_NoRow A_NoSign A_NoText A_NoTree A_NoWord A_NotLike A_NotRound A_Nothing : Addr}
    {t_MOST_PLACES t_MOST_STEPS : Tok}
    (a_is_letters : PySem.W.nsIn K mainGlobals "is_letters" = some (some (.ref f_is_letters))) (l_is_letters : K.lookup f_is_letters = some ⟨oc_is_letters, od_is_letters, .func (PySem.W.fnOf "is_letters" "is_letters" (defArgs s_is_letters) (defBody s_is_letters) (defScope s_is_letters) .none kV_is_letters dc_is_letters pm_is_letters an_is_letters cd_is_letters ct_is_letters), sl_is_letters⟩) (c_is_letters : PySem.W.codeIn K cd_is_letters "is_letters" = true) (k_is_letters : PySem.W.keepIn K (.ref f_is_letters) = true)
    (a_is_whole : PySem.W.nsIn K mainGlobals "is_whole" = some (some (.ref f_is_whole))) (l_is_whole : K.lookup f_is_whole = some ⟨oc_is_whole, od_is_whole, .func (PySem.W.fnOf "is_whole" "is_whole" (defArgs s_is_whole) (defBody s_is_whole) (defScope s_is_whole) .none kV_is_whole dc_is_whole pm_is_whole an_is_whole cd_is_whole ct_is_whole), sl_is_whole⟩) (c_is_whole : PySem.W.codeIn K cd_is_whole "is_whole" = true) (k_is_whole : PySem.W.keepIn K (.ref f_is_whole) = true)
    (a_is_within : PySem.W.nsIn K mainGlobals "is_within" = some (some (.ref f_is_within))) (l_is_within : K.lookup f_is_within = some ⟨oc_is_within, od_is_within, .func (PySem.W.fnOf "is_within" "is_within" (defArgs s_is_within) (defBody s_is_within) (defScope s_is_within) .none kV_is_within dc_is_within pm_is_within an_is_within cd_is_within ct_is_within), sl_is_within⟩) (c_is_within : PySem.W.codeIn K cd_is_within "is_within" = true) (k_is_within : PySem.W.keepIn K (.ref f_is_within) = true)
    (a_refuse_no_count : PySem.W.nsIn K mainGlobals "refuse_no_count" = some (some (.ref f_refuse_no_count))) (l_refuse_no_count : K.lookup f_refuse_no_count = some ⟨oc_refuse_no_count, od_refuse_no_count, .func (PySem.W.fnOf "refuse_no_count" "refuse_no_count" (defArgs s_refuse_no_count) (defBody s_refuse_no_count) (defScope s_refuse_no_count) .none kV_refuse_no_count dc_refuse_no_count pm_refuse_no_count an_refuse_no_count cd_refuse_no_count ct_refuse_no_count), sl_refuse_no_count⟩) (c_refuse_no_count : PySem.W.codeIn K cd_refuse_no_count "refuse_no_count" = true) (k_refuse_no_count : PySem.W.keepIn K (.ref f_refuse_no_count) = true)
    (a_is_loop : PySem.W.nsIn K mainGlobals "is_loop" = some (some (.ref f_is_loop))) (l_is_loop : K.lookup f_is_loop = some ⟨oc_is_loop, od_is_loop, .func (PySem.W.fnOf "is_loop" "is_loop" (defArgs s_is_loop) (defBody s_is_loop) (defScope s_is_loop) .none kV_is_loop dc_is_loop pm_is_loop an_is_loop cd_is_loop ct_is_loop), sl_is_loop⟩) (c_is_loop : PySem.W.codeIn K cd_is_loop "is_loop" = true) (k_is_loop : PySem.W.keepIn K (.ref f_is_loop) = true)
    (a_refuse_no_loop : PySem.W.nsIn K mainGlobals "refuse_no_loop" = some (some (.ref f_refuse_no_loop))) (l_refuse_no_loop : K.lookup f_refuse_no_loop = some ⟨oc_refuse_no_loop, od_refuse_no_loop, .func (PySem.W.fnOf "refuse_no_loop" "refuse_no_loop" (defArgs s_refuse_no_loop) (defBody s_refuse_no_loop) (defScope s_refuse_no_loop) .none kV_refuse_no_loop dc_refuse_no_loop pm_refuse_no_loop an_refuse_no_loop cd_refuse_no_loop ct_refuse_no_loop), sl_refuse_no_loop⟩) (c_refuse_no_loop : PySem.W.codeIn K cd_refuse_no_loop "refuse_no_loop" = true) (k_refuse_no_loop : PySem.W.keepIn K (.ref f_refuse_no_loop) = true)
    (a_is_plain : PySem.W.nsIn K mainGlobals "is_plain" = some (some (.ref f_is_plain))) (l_is_plain : K.lookup f_is_plain = some ⟨oc_is_plain, od_is_plain, .func (PySem.W.fnOf "is_plain" "is_plain" (defArgs s_is_plain) (defBody s_is_plain) (defScope s_is_plain) .none kV_is_plain dc_is_plain pm_is_plain an_is_plain cd_is_plain ct_is_plain), sl_is_plain⟩) (c_is_plain : PySem.W.codeIn K cd_is_plain "is_plain" = true) (k_is_plain : PySem.W.keepIn K (.ref f_is_plain) = true)
    (a_refuse_not_plain : PySem.W.nsIn K mainGlobals "refuse_not_plain" = some (some (.ref f_refuse_not_plain))) (l_refuse_not_plain : K.lookup f_refuse_not_plain = some ⟨oc_refuse_not_plain, od_refuse_not_plain, .func (PySem.W.fnOf "refuse_not_plain" "refuse_not_plain" (defArgs s_refuse_not_plain) (defBody s_refuse_not_plain) (defScope s_refuse_not_plain) .none kV_refuse_not_plain dc_refuse_not_plain pm_refuse_not_plain an_refuse_not_plain cd_refuse_not_plain ct_refuse_not_plain), sl_refuse_not_plain⟩) (c_refuse_not_plain : PySem.W.codeIn K cd_refuse_not_plain "refuse_not_plain" = true) (k_refuse_not_plain : PySem.W.keepIn K (.ref f_refuse_not_plain) = true)
    (a_is_word : PySem.W.nsIn K mainGlobals "is_word" = some (some (.ref f_is_word))) (l_is_word : K.lookup f_is_word = some ⟨oc_is_word, od_is_word, .func (PySem.W.fnOf "is_word" "is_word" (defArgs s_is_word) (defBody s_is_word) (defScope s_is_word) .none kV_is_word dc_is_word pm_is_word an_is_word cd_is_word ct_is_word), sl_is_word⟩) (c_is_word : PySem.W.codeIn K cd_is_word "is_word" = true) (k_is_word : PySem.W.keepIn K (.ref f_is_word) = true)
    (a_numbered : PySem.W.nsIn K mainGlobals "numbered" = some (some (.ref f_numbered))) (l_numbered : K.lookup f_numbered = some ⟨oc_numbered, od_numbered, .func (PySem.W.fnOf "numbered" "numbered" (defArgs s_numbered) (defBody s_numbered) (defScope s_numbered) .none kV_numbered dc_numbered pm_numbered an_numbered cd_numbered ct_numbered), sl_numbered⟩) (c_numbered : PySem.W.codeIn K cd_numbered "numbered" = true) (k_numbered : PySem.W.keepIn K (.ref f_numbered) = true)
    (a_is_known : PySem.W.nsIn K mainGlobals "is_known" = some (some (.ref f_is_known))) (l_is_known : K.lookup f_is_known = some ⟨oc_is_known, od_is_known, .func (PySem.W.fnOf "is_known" "is_known" (defArgs s_is_known) (defBody s_is_known) (defScope s_is_known) .none kV_is_known dc_is_known pm_is_known an_is_known cd_is_known ct_is_known), sl_is_known⟩) (c_is_known : PySem.W.codeIn K cd_is_known "is_known" = true) (k_is_known : PySem.W.keepIn K (.ref f_is_known) = true)
    (a_refuse_unknown : PySem.W.nsIn K mainGlobals "refuse_unknown" = some (some (.ref f_refuse_unknown))) (l_refuse_unknown : K.lookup f_refuse_unknown = some ⟨oc_refuse_unknown, od_refuse_unknown, .func (PySem.W.fnOf "refuse_unknown" "refuse_unknown" (defArgs s_refuse_unknown) (defBody s_refuse_unknown) (defScope s_refuse_unknown) .none kV_refuse_unknown dc_refuse_unknown pm_refuse_unknown an_refuse_unknown cd_refuse_unknown ct_refuse_unknown), sl_refuse_unknown⟩) (c_refuse_unknown : PySem.W.codeIn K cd_refuse_unknown "refuse_unknown" = true) (k_refuse_unknown : PySem.W.keepIn K (.ref f_refuse_unknown) = true)
    (a_longest_end : PySem.W.nsIn K mainGlobals "longest_end" = some (some (.ref f_longest_end))) (l_longest_end : K.lookup f_longest_end = some ⟨oc_longest_end, od_longest_end, .func (PySem.W.fnOf "longest_end" "longest_end" (defArgs s_longest_end) (defBody s_longest_end) (defScope s_longest_end) .none kV_longest_end dc_longest_end pm_longest_end an_longest_end cd_longest_end ct_longest_end), sl_longest_end⟩) (c_longest_end : PySem.W.codeIn K cd_longest_end "longest_end" = true) (k_longest_end : PySem.W.keepIn K (.ref f_longest_end) = true)
    (a_is_coder : PySem.W.nsIn K mainGlobals "is_coder" = some (some (.ref f_is_coder))) (l_is_coder : K.lookup f_is_coder = some ⟨oc_is_coder, od_is_coder, .func (PySem.W.fnOf "is_coder" "is_coder" (defArgs s_is_coder) (defBody s_is_coder) (defScope s_is_coder) .none kV_is_coder dc_is_coder pm_is_coder an_is_coder cd_is_coder ct_is_coder), sl_is_coder⟩) (c_is_coder : PySem.W.codeIn K cd_is_coder "is_coder" = true) (k_is_coder : PySem.W.keepIn K (.ref f_is_coder) = true)
    (a_refuse_no_coder : PySem.W.nsIn K mainGlobals "refuse_no_coder" = some (some (.ref f_refuse_no_coder))) (l_refuse_no_coder : K.lookup f_refuse_no_coder = some ⟨oc_refuse_no_coder, od_refuse_no_coder, .func (PySem.W.fnOf "refuse_no_coder" "refuse_no_coder" (defArgs s_refuse_no_coder) (defBody s_refuse_no_coder) (defScope s_refuse_no_coder) .none kV_refuse_no_coder dc_refuse_no_coder pm_refuse_no_coder an_refuse_no_coder cd_refuse_no_coder ct_refuse_no_coder), sl_refuse_no_coder⟩) (c_refuse_no_coder : PySem.W.codeIn K cd_refuse_no_coder "refuse_no_coder" = true) (k_refuse_no_coder : PySem.W.keepIn K (.ref f_refuse_no_coder) = true)
    (a_one_longer : PySem.W.nsIn K mainGlobals "one_longer" = some (some (.ref f_one_longer))) (l_one_longer : K.lookup f_one_longer = some ⟨oc_one_longer, od_one_longer, .func (PySem.W.fnOf "one_longer" "one_longer" (defArgs s_one_longer) (defBody s_one_longer) (defScope s_one_longer) .none kV_one_longer dc_one_longer pm_one_longer an_one_longer cd_one_longer ct_one_longer), sl_one_longer⟩) (c_one_longer : PySem.W.codeIn K cd_one_longer "one_longer" = true) (k_one_longer : PySem.W.keepIn K (.ref f_one_longer) = true)
    (a_next_coder : PySem.W.nsIn K mainGlobals "next_coder" = some (some (.ref f_next_coder))) (l_next_coder : K.lookup f_next_coder = some ⟨oc_next_coder, od_next_coder, .func (PySem.W.fnOf "next_coder" "next_coder" (defArgs s_next_coder) (defBody s_next_coder) (defScope s_next_coder) .none kV_next_coder dc_next_coder pm_next_coder an_next_coder cd_next_coder ct_next_coder), sl_next_coder⟩) (c_next_coder : PySem.W.codeIn K cd_next_coder "next_coder" = true) (k_next_coder : PySem.W.keepIn K (.ref f_next_coder) = true)
    (a_words_till_round : PySem.W.nsIn K mainGlobals "words_till_round" = some (some (.ref f_words_till_round))) (l_words_till_round : K.lookup f_words_till_round = some ⟨oc_words_till_round, od_words_till_round, .func (PySem.W.fnOf "words_till_round" "words_till_round" (defArgs s_words_till_round) (defBody s_words_till_round) (defScope s_words_till_round) .none kV_words_till_round dc_words_till_round pm_words_till_round an_words_till_round cd_words_till_round ct_words_till_round), sl_words_till_round⟩) (c_words_till_round : PySem.W.codeIn K cd_words_till_round "words_till_round" = true) (k_words_till_round : PySem.W.keepIn K (.ref f_words_till_round) = true)
    (a_rounds_later : PySem.W.nsIn K mainGlobals "rounds_later" = some (some (.ref f_rounds_later))) (l_rounds_later : K.lookup f_rounds_later = some ⟨oc_rounds_later, od_rounds_later, .func (PySem.W.fnOf "rounds_later" "rounds_later" (defArgs s_rounds_later) (defBody s_rounds_later) (defScope s_rounds_later) .none kV_rounds_later dc_rounds_later pm_rounds_later an_rounds_later cd_rounds_later ct_rounds_later), sl_rounds_later⟩) (c_rounds_later : PySem.W.codeIn K cd_rounds_later "rounds_later" = true) (k_rounds_later : PySem.W.keepIn K (.ref f_rounds_later) = true)
    (a_behind : PySem.W.nsIn K mainGlobals "behind" = some (some (.ref f_behind))) (l_behind : K.lookup f_behind = some ⟨oc_behind, od_behind, .func (PySem.W.fnOf "behind" "behind" (defArgs s_behind) (defBody s_behind) (defScope s_behind) .none kV_behind dc_behind pm_behind an_behind cd_behind ct_behind), sl_behind⟩) (c_behind : PySem.W.codeIn K cd_behind "behind" = true) (k_behind : PySem.W.keepIn K (.ref f_behind) = true)
    (a_known_lengths : PySem.W.nsIn K mainGlobals "known_lengths" = some (some (.ref f_known_lengths))) (l_known_lengths : K.lookup f_known_lengths = some ⟨oc_known_lengths, od_known_lengths, .func (PySem.W.fnOf "known_lengths" "known_lengths" (defArgs s_known_lengths) (defBody s_known_lengths) (defScope s_known_lengths) .none kV_known_lengths dc_known_lengths pm_known_lengths an_known_lengths cd_known_lengths ct_known_lengths), sl_known_lengths⟩) (c_known_lengths : PySem.W.codeIn K cd_known_lengths "known_lengths" = true) (k_known_lengths : PySem.W.keepIn K (.ref f_known_lengths) = true)
    (a_coder_on : PySem.W.nsIn K mainGlobals "coder_on" = some (some (.ref f_coder_on))) (l_coder_on : K.lookup f_coder_on = some ⟨oc_coder_on, od_coder_on, .func (PySem.W.fnOf "coder_on" "coder_on" (defArgs s_coder_on) (defBody s_coder_on) (defScope s_coder_on) .none kV_coder_on dc_coder_on pm_coder_on an_coder_on cd_coder_on ct_coder_on), sl_coder_on⟩) (c_coder_on : PySem.W.codeIn K cd_coder_on "coder_on" = true) (k_coder_on : PySem.W.keepIn K (.ref f_coder_on) = true)
    (a_refuse_no_place : PySem.W.nsIn K mainGlobals "refuse_no_place" = some (some (.ref f_refuse_no_place))) (l_refuse_no_place : K.lookup f_refuse_no_place = some ⟨oc_refuse_no_place, od_refuse_no_place, .func (PySem.W.fnOf "refuse_no_place" "refuse_no_place" (defArgs s_refuse_no_place) (defBody s_refuse_no_place) (defScope s_refuse_no_place) .none kV_refuse_no_place dc_refuse_no_place pm_refuse_no_place an_refuse_no_place cd_refuse_no_place ct_refuse_no_place), sl_refuse_no_place⟩) (c_refuse_no_place : PySem.W.codeIn K cd_refuse_no_place "refuse_no_place" = true) (k_refuse_no_place : PySem.W.keepIn K (.ref f_refuse_no_place) = true)
    (a_text_from : PySem.W.nsIn K mainGlobals "text_from" = some (some (.ref f_text_from))) (l_text_from : K.lookup f_text_from = some ⟨oc_text_from, od_text_from, .func (PySem.W.fnOf "text_from" "text_from" (defArgs s_text_from) (defBody s_text_from) (defScope s_text_from) .none kV_text_from dc_text_from pm_text_from an_text_from cd_text_from ct_text_from), sl_text_from⟩) (c_text_from : PySem.W.codeIn K cd_text_from "text_from" = true) (k_text_from : PySem.W.keepIn K (.ref f_text_from) = true)
    (a_place_of : PySem.W.nsIn K mainGlobals "place_of" = some (some (.ref f_place_of))) (l_place_of : K.lookup f_place_of = some ⟨oc_place_of, od_place_of, .func (PySem.W.fnOf "place_of" "place_of" (defArgs s_place_of) (defBody s_place_of) (defScope s_place_of) .none kV_place_of dc_place_of pm_place_of an_place_of cd_place_of ct_place_of), sl_place_of⟩) (c_place_of : PySem.W.codeIn K cd_place_of "place_of" = true) (k_place_of : PySem.W.keepIn K (.ref f_place_of) = true)
    (a__law_pail : PySem.W.nsIn K mainGlobals "_law_pail" = some (some (.ref f__law_pail))) (l__law_pail : K.lookup f__law_pail = some ⟨oc__law_pail, od__law_pail, .func (PySem.W.fnOf "_law_pail" "_law_pail" (defArgs s_law_pail) (defBody s_law_pail) (defScope s_law_pail) .none kV__law_pail dc__law_pail pm__law_pail an__law_pail cd__law_pail ct__law_pail), sl__law_pail⟩) (c__law_pail : PySem.W.codeIn K cd__law_pail "_law_pail" = true) (k__law_pail : PySem.W.keepIn K (.ref f__law_pail) = true)
    (a__law_dip : PySem.W.nsIn K mainGlobals "_law_dip" = some (some (.ref f__law_dip))) (l__law_dip : K.lookup f__law_dip = some ⟨oc__law_dip, od__law_dip, .func (PySem.W.fnOf "_law_dip" "_law_dip" (defArgs s_law_dip) (defBody s_law_dip) (defScope s_law_dip) .none kV__law_dip dc__law_dip pm__law_dip an__law_dip cd__law_dip ct__law_dip), sl__law_dip⟩) (c__law_dip : PySem.W.codeIn K cd__law_dip "_law_dip" = true) (k__law_dip : PySem.W.keepIn K (.ref f__law_dip) = true)
    (a__law_letters : PySem.W.nsIn K mainGlobals "_law_letters" = some (some (.ref f__law_letters))) (l__law_letters : K.lookup f__law_letters = some ⟨oc__law_letters, od__law_letters, .func (PySem.W.fnOf "_law_letters" "_law_letters" (defArgs s_law_letters) (defBody s_law_letters) (defScope s_law_letters) .none kV__law_letters dc__law_letters pm__law_letters an__law_letters cd__law_letters ct__law_letters), sl__law_letters⟩) (c__law_letters : PySem.W.codeIn K cd__law_letters "_law_letters" = true) (k__law_letters : PySem.W.keepIn K (.ref f__law_letters) = true)
    (a__law_loop : PySem.W.nsIn K mainGlobals "_law_loop" = some (some (.ref f__law_loop))) (l__law_loop : K.lookup f__law_loop = some ⟨oc__law_loop, od__law_loop, .func (PySem.W.fnOf "_law_loop" "_law_loop" (defArgs s_law_loop) (defBody s_law_loop) (defScope s_law_loop) .none kV__law_loop dc__law_loop pm__law_loop an__law_loop cd__law_loop ct__law_loop), sl__law_loop⟩) (c__law_loop : PySem.W.codeIn K cd__law_loop "_law_loop" = true) (k__law_loop : PySem.W.keepIn K (.ref f__law_loop) = true)
    (a__law_rays : PySem.W.nsIn K mainGlobals "_law_rays" = some (some (.ref f__law_rays))) (l__law_rays : K.lookup f__law_rays = some ⟨oc__law_rays, od__law_rays, .func (PySem.W.fnOf "_law_rays" "_law_rays" (defArgs s_law_rays) (defBody s_law_rays) (defScope s_law_rays) .none kV__law_rays dc__law_rays pm__law_rays an__law_rays cd__law_rays ct__law_rays), sl__law_rays⟩) (c__law_rays : PySem.W.codeIn K cd__law_rays "_law_rays" = true) (k__law_rays : PySem.W.keepIn K (.ref f__law_rays) = true)
    (a__law_begun : PySem.W.nsIn K mainGlobals "_law_begun" = some (some (.ref f__law_begun))) (l__law_begun : K.lookup f__law_begun = some ⟨oc__law_begun, od__law_begun, .func (PySem.W.fnOf "_law_begun" "_law_begun" (defArgs s_law_begun) (defBody s_law_begun) (defScope s_law_begun) .none kV__law_begun dc__law_begun pm__law_begun an__law_begun cd__law_begun ct__law_begun), sl__law_begun⟩) (c__law_begun : PySem.W.codeIn K cd__law_begun "_law_begun" = true) (k__law_begun : PySem.W.keepIn K (.ref f__law_begun) = true)
    (a__law_same : PySem.W.nsIn K mainGlobals "_law_same" = some (some (.ref f__law_same))) (l__law_same : K.lookup f__law_same = some ⟨oc__law_same, od__law_same, .func (PySem.W.fnOf "_law_same" "_law_same" (defArgs s_law_same) (defBody s_law_same) (defScope s_law_same) .none kV__law_same dc__law_same pm__law_same an__law_same cd__law_same ct__law_same), sl__law_same⟩) (c__law_same : PySem.W.codeIn K cd__law_same "_law_same" = true) (k__law_same : PySem.W.keepIn K (.ref f__law_same) = true)
    (a__law_kind : PySem.W.nsIn K mainGlobals "_law_kind" = some (some (.ref f__law_kind))) (l__law_kind : K.lookup f__law_kind = some ⟨oc__law_kind, od__law_kind, .func (PySem.W.fnOf "_law_kind" "_law_kind" (defArgs s_law_kind) (defBody s_law_kind) (defScope s_law_kind) .none kV__law_kind dc__law_kind pm__law_kind an__law_kind cd__law_kind ct__law_kind), sl__law_kind⟩) (c__law_kind : PySem.W.codeIn K cd__law_kind "_law_kind" = true) (k__law_kind : PySem.W.keepIn K (.ref f__law_kind) = true)
    (a__law_length : PySem.W.nsIn K mainGlobals "_law_length" = some (some (.ref f__law_length))) (l__law_length : K.lookup f__law_length = some ⟨oc__law_length, od__law_length, .func (PySem.W.fnOf "_law_length" "_law_length" (defArgs s_law_length) (defBody s_law_length) (defScope s_law_length) .none kV__law_length dc__law_length pm__law_length an__law_length cd__law_length ct__law_length), sl__law_length⟩) (c__law_length : PySem.W.codeIn K cd__law_length "_law_length" = true) (k__law_length : PySem.W.keepIn K (.ref f__law_length) = true)
    (a__law_taught : PySem.W.nsIn K mainGlobals "_law_taught" = some (some (.ref f__law_taught))) (l__law_taught : K.lookup f__law_taught = some ⟨oc__law_taught, od__law_taught, .func (PySem.W.fnOf "_law_taught" "_law_taught" (defArgs s_law_taught) (defBody s_law_taught) (defScope s_law_taught) .none kV__law_taught dc__law_taught pm__law_taught an__law_taught cd__law_taught ct__law_taught), sl__law_taught⟩) (c__law_taught : PySem.W.codeIn K cd__law_taught "_law_taught" = true) (k__law_taught : PySem.W.keepIn K (.ref f__law_taught) = true)
    (a__law_things : PySem.W.nsIn K mainGlobals "_law_things" = some (some (.ref f__law_things))) (l__law_things : K.lookup f__law_things = some ⟨oc__law_things, od__law_things, .func (PySem.W.fnOf "_law_things" "_law_things" (defArgs s_law_things) (defBody s_law_things) (defScope s_law_things) .none kV__law_things dc__law_things pm__law_things an__law_things cd__law_things ct__law_things), sl__law_things⟩) (c__law_things : PySem.W.codeIn K cd__law_things "_law_things" = true) (k__law_things : PySem.W.keepIn K (.ref f__law_things) = true)
    (a__law_long_right : PySem.W.nsIn K mainGlobals "_law_long_right" = some (some (.ref f__law_long_right))) (l__law_long_right : K.lookup f__law_long_right = some ⟨oc__law_long_right, od__law_long_right, .func (PySem.W.fnOf "_law_long_right" "_law_long_right" (defArgs s_law_long_right) (defBody s_law_long_right) (defScope s_law_long_right) .none kV__law_long_right dc__law_long_right pm__law_long_right an__law_long_right cd__law_long_right ct__law_long_right), sl__law_long_right⟩) (c__law_long_right : PySem.W.codeIn K cd__law_long_right "_law_long_right" = true) (k__law_long_right : PySem.W.keepIn K (.ref f__law_long_right) = true)
    (a_law : PySem.W.nsIn K mainGlobals "law" = some (some (.ref f_law))) (l_law : K.lookup f_law = some ⟨oc_law, od_law, .func (PySem.W.fnOf "law" "law" (defArgs s_law) (defBody s_law) (defScope s_law) .none kV_law dc_law pm_law an_law cd_law ct_law), sl_law⟩) (c_law : PySem.W.codeIn K cd_law "law" = true) (k_law : PySem.W.keepIn K (.ref f_law) = true)
    (z_isinstance : PySem.W.nsIn K mainGlobals "isinstance" = some none)
    (z_str : PySem.W.nsIn K mainGlobals "str" = some none)
    (z_all : PySem.W.nsIn K mainGlobals "all" = some none)
    (z_int : PySem.W.nsIn K mainGlobals "int" = some none)
    (z_bool : PySem.W.nsIn K mainGlobals "bool" = some none)
    (z_len : PySem.W.nsIn K mainGlobals "len" = some none)
    (z_set : PySem.W.nsIn K mainGlobals "set" = some none)
    (z_tuple : PySem.W.nsIn K mainGlobals "tuple" = some none)
    (z_zip : PySem.W.nsIn K mainGlobals "zip" = some none)
    (z_range : PySem.W.nsIn K mainGlobals "range" = some none)
    (z_max : PySem.W.nsIn K mainGlobals "max" = some none)
    (z_enumerate : PySem.W.nsIn K mainGlobals "enumerate" = some none)
    (z_list : PySem.W.nsIn K mainGlobals "list" = some none)
    (z_sorted : PySem.W.nsIn K mainGlobals "sorted" = some none)
    (z_min : PySem.W.nsIn K mainGlobals "min" = some none)
    (z_ValueError : PySem.W.nsIn K mainGlobals "ValueError" = some none)
    (m_MOST_PLACES : PySem.W.nsIn K mainGlobals "MOST_PLACES" = some (some (.int 12 t_MOST_PLACES)))
    (m_MOST_STEPS : PySem.W.nsIn K mainGlobals "MOST_STEPS" = some (some (.int 1000000000000000000 t_MOST_STEPS)))
    (gC_LearnError : PySem.W.nsIn K mainGlobals "LearnError" = some (some (.ref A_LearnError)))
    (gC_Learner : PySem.W.nsIn K mainGlobals "Learner" = some (some (.ref A_Learner)))
    (gC_NoCoder : PySem.W.nsIn K mainGlobals "NoCoder" = some (some (.ref A_NoCoder)))
    (gC_NoCount : PySem.W.nsIn K mainGlobals "NoCount" = some (some (.ref A_NoCount)))
    (gC_NoCounts : PySem.W.nsIn K mainGlobals "NoCounts" = some (some (.ref A_NoCounts)))
    (gC_NoKnown : PySem.W.nsIn K mainGlobals "NoKnown" = some (some (.ref A_NoKnown)))
    (gC_NoLog : PySem.W.nsIn K mainGlobals "NoLog" = some (some (.ref A_NoLog)))
    (gC_NoLoop : PySem.W.nsIn K mainGlobals "NoLoop" = some (some (.ref A_NoLoop)))
    (gC_NoPairs : PySem.W.nsIn K mainGlobals "NoPairs" = some (some (.ref A_NoPairs)))
    (gC_NoPlace : PySem.W.nsIn K mainGlobals "NoPlace" = some (some (.ref A_NoPlace)))
    (gC_NoRow : PySem.W.nsIn K mainGlobals "NoRow" = some (some (.ref A_NoRow)))
    (gC_NoSign : PySem.W.nsIn K mainGlobals "NoSign" = some (some (.ref A_NoSign)))
    (gC_NoText : PySem.W.nsIn K mainGlobals "NoText" = some (some (.ref A_NoText)))
    (gC_NoTree : PySem.W.nsIn K mainGlobals "NoTree" = some (some (.ref A_NoTree)))
    (gC_NoWord : PySem.W.nsIn K mainGlobals "NoWord" = some (some (.ref A_NoWord)))
    (gC_NotLike : PySem.W.nsIn K mainGlobals "NotLike" = some (some (.ref A_NotLike)))
    (gC_NotRound : PySem.W.nsIn K mainGlobals "NotRound" = some (some (.ref A_NotRound)))
    (gC_Nothing : PySem.W.nsIn K mainGlobals "Nothing" = some (some (.ref A_Nothing)))
    (ypg : PySem.W.plainGet K A_Learner Str.empty = true) (yhd : PySem.W.hasDictIn K A_Learner = true) (ypo : PySem.W.plainOver K A_Learner = true) (ysa : PySem.W.findIn K (.ref A_Learner) "__setattr__" = some (some (.builtin "object.__setattr__"))) (ymk : PySem.W.makesIn K A_Learner = true) (ykc : PySem.W.keepIn K (.ref A_Learner) = true)
    (yn0 : PySem.W.findIn K (.ref A_Learner) "_loop" = some none)
    (yn1 : PySem.W.findIn K (.ref A_Learner) "_now" = some none)
    (yn2 : PySem.W.findIn K (.ref A_Learner) "_learnt" = some none)
    (yn3 : PySem.W.findIn K (.ref A_Learner) "_deeds" = some none)
    (yn4 : PySem.W.findIn K (.ref A_Learner) "_ahead" = some none)
    (ya_Learner_init : PySem.W.findIn K (.ref A_Learner) "__init__" = some (some (.ref f_Learner_init))) (yi_Learner_init : PySem.W.isFn K (.ref f_Learner_init) = true) (yl_Learner_init : K.lookup f_Learner_init = some ⟨oc_Learner_init, od_Learner_init, .func (PySem.W.fnOf "__init__" "Learner.__init__" (defArgs s_Learner_init) (defBody s_Learner_init) (defScope s_Learner_init) .none (.ref yD) dc_Learner_init pm_Learner_init an_Learner_init cd_Learner_init ct_Learner_init), sl_Learner_init⟩) (yc_Learner_init : PySem.W.codeIn K cd_Learner_init "Learner.__init__" = true) (yk_Learner_init : PySem.W.keepIn K (.ref f_Learner_init) = true)
    (ya_Learner_keep : PySem.W.findIn K (.ref A_Learner) "_keep" = some (some (.ref f_Learner_keep))) (yi_Learner_keep : PySem.W.isFn K (.ref f_Learner_keep) = true) (yl_Learner_keep : K.lookup f_Learner_keep = some ⟨oc_Learner_keep, od_Learner_keep, .func (PySem.W.fnOf "_keep" "Learner._keep" (defArgs s_Learner_keep) (defBody s_Learner_keep) (defScope s_Learner_keep) .none kV_Learner_keep dc_Learner_keep pm_Learner_keep an_Learner_keep cd_Learner_keep ct_Learner_keep), sl_Learner_keep⟩) (yc_Learner_keep : PySem.W.codeIn K cd_Learner_keep "Learner._keep" = true) (yk_Learner_keep : PySem.W.keepIn K (.ref f_Learner_keep) = true)
    (ya_Learner_learn : PySem.W.findIn K (.ref A_Learner) "learn" = some (some (.ref f_Learner_learn))) (yi_Learner_learn : PySem.W.isFn K (.ref f_Learner_learn) = true) (yl_Learner_learn : K.lookup f_Learner_learn = some ⟨oc_Learner_learn, od_Learner_learn, .func (PySem.W.fnOf "learn" "Learner.learn" (defArgs s_Learner_learn) (defBody s_Learner_learn) (defScope s_Learner_learn) .none kV_Learner_learn dc_Learner_learn pm_Learner_learn an_Learner_learn cd_Learner_learn ct_Learner_learn), sl_Learner_learn⟩) (yc_Learner_learn : PySem.W.codeIn K cd_Learner_learn "Learner.learn" = true) (yk_Learner_learn : PySem.W.keepIn K (.ref f_Learner_learn) = true)
    (ya_Learner_teach : PySem.W.findIn K (.ref A_Learner) "teach" = some (some (.ref f_Learner_teach))) (yi_Learner_teach : PySem.W.isFn K (.ref f_Learner_teach) = true) (yl_Learner_teach : K.lookup f_Learner_teach = some ⟨oc_Learner_teach, od_Learner_teach, .func (PySem.W.fnOf "teach" "Learner.teach" (defArgs s_Learner_teach) (defBody s_Learner_teach) (defScope s_Learner_teach) .none kV_Learner_teach dc_Learner_teach pm_Learner_teach an_Learner_teach cd_Learner_teach ct_Learner_teach), sl_Learner_teach⟩) (yc_Learner_teach : PySem.W.codeIn K cd_Learner_teach "Learner.teach" = true) (yk_Learner_teach : PySem.W.keepIn K (.ref f_Learner_teach) = true)
    (ya_Learner_coder : PySem.W.findIn K (.ref A_Learner) "coder" = some (some (.ref f_Learner_coder))) (yi_Learner_coder : PySem.W.isFn K (.ref f_Learner_coder) = true) (yl_Learner_coder : K.lookup f_Learner_coder = some ⟨oc_Learner_coder, od_Learner_coder, .func (PySem.W.fnOf "coder" "Learner.coder" (defArgs s_Learner_coder) (defBody s_Learner_coder) (defScope s_Learner_coder) .none kV_Learner_coder dc_Learner_coder pm_Learner_coder an_Learner_coder cd_Learner_coder ct_Learner_coder), sl_Learner_coder⟩) (yc_Learner_coder : PySem.W.codeIn K cd_Learner_coder "Learner.coder" = true) (yk_Learner_coder : PySem.W.keepIn K (.ref f_Learner_coder) = true)
    (ya_Learner_count : PySem.W.findIn K (.ref A_Learner) "count" = some (some (.ref f_Learner_count))) (yi_Learner_count : PySem.W.isFn K (.ref f_Learner_count) = true) (yl_Learner_count : K.lookup f_Learner_count = some ⟨oc_Learner_count, od_Learner_count, .func (PySem.W.fnOf "count" "Learner.count" (defArgs s_Learner_count) (defBody s_Learner_count) (defScope s_Learner_count) .none kV_Learner_count dc_Learner_count pm_Learner_count an_Learner_count cd_Learner_count ct_Learner_count), sl_Learner_count⟩) (yc_Learner_count : PySem.W.codeIn K cd_Learner_count "Learner.count" = true) (yk_Learner_count : PySem.W.keepIn K (.ref f_Learner_count) = true)
    (ya_Learner_log : PySem.W.findIn K (.ref A_Learner) "log" = some (some (.ref f_Learner_log))) (yi_Learner_log : PySem.W.isFn K (.ref f_Learner_log) = true) (yl_Learner_log : K.lookup f_Learner_log = some ⟨oc_Learner_log, od_Learner_log, .func (PySem.W.fnOf "log" "Learner.log" (defArgs s_Learner_log) (defBody s_Learner_log) (defScope s_Learner_log) .none kV_Learner_log dc_Learner_log pm_Learner_log an_Learner_log cd_Learner_log ct_Learner_log), sl_Learner_log⟩) (yc_Learner_log : PySem.W.codeIn K cd_Learner_log "Learner.log" = true) (yk_Learner_log : PySem.W.keepIn K (.ref f_Learner_log) = true)
    (ya_Learner_len : PySem.W.findIn K (.ref A_Learner) "__len__" = some (some (.ref f_Learner_len))) (yi_Learner_len : PySem.W.isFn K (.ref f_Learner_len) = true) (yl_Learner_len : K.lookup f_Learner_len = some ⟨oc_Learner_len, od_Learner_len, .func (PySem.W.fnOf "__len__" "Learner.__len__" (defArgs s_Learner_len) (defBody s_Learner_len) (defScope s_Learner_len) .none kV_Learner_len dc_Learner_len pm_Learner_len an_Learner_len cd_Learner_len ct_Learner_len), sl_Learner_len⟩) (yc_Learner_len : PySem.W.codeIn K cd_Learner_len "Learner.__len__" = true) (yk_Learner_len : PySem.W.keepIn K (.ref f_Learner_len) = true)
    (ya_Learner_knows : PySem.W.findIn K (.ref A_Learner) "knows" = some (some (.ref f_Learner_knows))) (yi_Learner_knows : PySem.W.isFn K (.ref f_Learner_knows) = true) (yl_Learner_knows : K.lookup f_Learner_knows = some ⟨oc_Learner_knows, od_Learner_knows, .func (PySem.W.fnOf "knows" "Learner.knows" (defArgs s_Learner_knows) (defBody s_Learner_knows) (defScope s_Learner_knows) .none kV_Learner_knows dc_Learner_knows pm_Learner_knows an_Learner_knows cd_Learner_knows ct_Learner_knows), sl_Learner_knows⟩) (yc_Learner_knows : PySem.W.codeIn K cd_Learner_knows "Learner.knows" = true) (yk_Learner_knows : PySem.W.keepIn K (.ref f_Learner_knows) = true)
    (yd : PySem.W.nsIn K yD "first" = some (some (.int 0 yt)))
    (kC_NoLoop : PySem.W.keepIn K (.ref A_NoLoop) = true) (xC_NoLoop : PySem.W.excIn K A_NoLoop [.type "ValueError", .type "Exception", .type "BaseException", .type "object"] "ValueError.__new__" = true)
    (kC_NoKnown : PySem.W.keepIn K (.ref A_NoKnown) = true) (xC_NoKnown : PySem.W.excIn K A_NoKnown [.type "ValueError", .type "Exception", .type "BaseException", .type "object"] "ValueError.__new__" = true)
    (kC_NoCoder : PySem.W.keepIn K (.ref A_NoCoder) = true) (xC_NoCoder : PySem.W.excIn K A_NoCoder [.type "ValueError", .type "Exception", .type "BaseException", .type "object"] "ValueError.__new__" = true)
    (kC_NoCount : PySem.W.keepIn K (.ref A_NoCount) = true) (xC_NoCount : PySem.W.excIn K A_NoCount [.type "ValueError", .type "Exception", .type "BaseException", .type "object"] "ValueError.__new__" = true)
    (kC_NoPlace : PySem.W.keepIn K (.ref A_NoPlace) = true) (xC_NoPlace : PySem.W.excIn K A_NoPlace [.type "ValueError", .type "Exception", .type "BaseException", .type "object"] "ValueError.__new__" = true)
    (kC_NoWord : PySem.W.keepIn K (.ref A_NoWord) = true) (xC_NoWord : PySem.W.excIn K A_NoWord [.type "ValueError", .type "Exception", .type "BaseException", .type "object"] "ValueError.__new__" = true)
    (bC_NoCoder : PySem.W.subIn K (.ref A_NoCoder) (.type "BaseException") = some true) (tC_NoCoder : PySem.W.typeIn K (.ref A_NoCoder) = some (.type "type"))
    (bC_NoCount : PySem.W.subIn K (.ref A_NoCount) (.type "BaseException") = some true) (tC_NoCount : PySem.W.typeIn K (.ref A_NoCount) = some (.type "type"))
    (bC_NoKnown : PySem.W.subIn K (.ref A_NoKnown) (.type "BaseException") = some true) (tC_NoKnown : PySem.W.typeIn K (.ref A_NoKnown) = some (.type "type"))
    (bC_NoLoop : PySem.W.subIn K (.ref A_NoLoop) (.type "BaseException") = some true) (tC_NoLoop : PySem.W.typeIn K (.ref A_NoLoop) = some (.type "type"))
    (bC_NoPlace : PySem.W.subIn K (.ref A_NoPlace) (.type "BaseException") = some true) (tC_NoPlace : PySem.W.typeIn K (.ref A_NoPlace) = some (.type "type"))
    (bC_NoWord : PySem.W.subIn K (.ref A_NoWord) (.type "BaseException") = some true) (tC_NoWord : PySem.W.typeIn K (.ref A_NoWord) = some (.type "type"))
    (bE : PySem.W.subIn K (.ref A_LearnError) (.type "BaseException") = some true) (dE : PySem.W.hasDictIn K A_LearnError = true) (tE : PySem.W.typeIn K (.ref A_LearnError) = some (.type "type"))
    (p_NoKnown : PySem.W.isClsIn K A_NoKnown = true) (q_NoKnown : PySem.W.typeIn K (.ref A_NoKnown) = some (.type "type"))
    (p_NoText : PySem.W.isClsIn K A_NoText = true) (q_NoText : PySem.W.typeIn K (.ref A_NoText) = some (.type "type"))
    (p_NoPairs : PySem.W.isClsIn K A_NoPairs = true) (q_NoPairs : PySem.W.typeIn K (.ref A_NoPairs) = some (.type "type"))
    (p_NoLoop : PySem.W.isClsIn K A_NoLoop = true) (q_NoLoop : PySem.W.typeIn K (.ref A_NoLoop) = some (.type "type"))
    (p_NoCoder : PySem.W.isClsIn K A_NoCoder = true) (q_NoCoder : PySem.W.typeIn K (.ref A_NoCoder) = some (.type "type"))
    (p_NoCount : PySem.W.isClsIn K A_NoCount = true) (q_NoCount : PySem.W.typeIn K (.ref A_NoCount) = some (.type "type"))
    (p_NotRound : PySem.W.isClsIn K A_NotRound = true) (q_NotRound : PySem.W.typeIn K (.ref A_NotRound) = some (.type "type"))
    (p_NoCounts : PySem.W.isClsIn K A_NoCounts = true) (q_NoCounts : PySem.W.typeIn K (.ref A_NoCounts) = some (.type "type"))
    (p_NoLog : PySem.W.isClsIn K A_NoLog = true) (q_NoLog : PySem.W.typeIn K (.ref A_NoLog) = some (.type "type"))
    (p_NoPlace : PySem.W.isClsIn K A_NoPlace = true) (q_NoPlace : PySem.W.typeIn K (.ref A_NoPlace) = some (.type "type"))
    (p_NoRow : PySem.W.isClsIn K A_NoRow = true) (q_NoRow : PySem.W.typeIn K (.ref A_NoRow) = some (.type "type"))
    (p_NoSign : PySem.W.isClsIn K A_NoSign = true) (q_NoSign : PySem.W.typeIn K (.ref A_NoSign) = some (.type "type"))
    (p_NoTree : PySem.W.isClsIn K A_NoTree = true) (q_NoTree : PySem.W.typeIn K (.ref A_NoTree) = some (.type "type"))
    (p_NoWord : PySem.W.isClsIn K A_NoWord = true) (q_NoWord : PySem.W.typeIn K (.ref A_NoWord) = some (.type "type"))
    (p_NotLike : PySem.W.isClsIn K A_NotLike = true) (q_NotLike : PySem.W.typeIn K (.ref A_NotLike) = some (.type "type"))
    (p_Nothing : PySem.W.isClsIn K A_Nothing = true) (q_Nothing : PySem.W.typeIn K (.ref A_Nothing) = some (.type "type"))
    (sE_NoWord : PySem.W.subIn K (.ref A_NoWord) (.ref A_LearnError) = some true)
    (xg_NoWord : PySem.W.findIn K (.ref A_NoWord) "__getattribute__" = some (some (.builtin "BaseException.__getattribute__"))) (xk_NoWord : PySem.W.findIn K (.ref A_NoWord) "__getattr__" = some none) (xd_NoWord : PySem.W.hasDictIn K A_NoWord = true) (xa_NoWord : PySem.W.findIn K (.ref A_NoWord) "__class__" = some (some (.builtin "object.__class__")))
    (xm_NoWord : PySem.W.mroIn K A_NoWord (.type "object") = some true) (ve_NoWord : PySem.W.subIn K (.ref A_NoWord) (.type "ValueError") = some true) (sS_NoWord : PySem.W.subIn K (.ref A_NoWord) (.ref A_NoWord) = some true)
    (r_NoWord_NoKnown : PySem.W.subIn K (.ref A_NoWord) (.ref A_NoKnown) = some false)
    (r_NoWord_NoText : PySem.W.subIn K (.ref A_NoWord) (.ref A_NoText) = some false)
    (r_NoWord_NoPairs : PySem.W.subIn K (.ref A_NoWord) (.ref A_NoPairs) = some false)
    (r_NoWord_NoLoop : PySem.W.subIn K (.ref A_NoWord) (.ref A_NoLoop) = some false)
    (r_NoWord_NoCoder : PySem.W.subIn K (.ref A_NoWord) (.ref A_NoCoder) = some false)
    (r_NoWord_NoCount : PySem.W.subIn K (.ref A_NoWord) (.ref A_NoCount) = some false)
    (r_NoWord_NotRound : PySem.W.subIn K (.ref A_NoWord) (.ref A_NotRound) = some false)
    (r_NoWord_NoCounts : PySem.W.subIn K (.ref A_NoWord) (.ref A_NoCounts) = some false)
    (r_NoWord_NoLog : PySem.W.subIn K (.ref A_NoWord) (.ref A_NoLog) = some false)
    (r_NoWord_NoPlace : PySem.W.subIn K (.ref A_NoWord) (.ref A_NoPlace) = some false)
    (r_NoWord_NoRow : PySem.W.subIn K (.ref A_NoWord) (.ref A_NoRow) = some false)
    (r_NoWord_NoSign : PySem.W.subIn K (.ref A_NoWord) (.ref A_NoSign) = some false)
    (r_NoWord_NoTree : PySem.W.subIn K (.ref A_NoWord) (.ref A_NoTree) = some false)
    (r_NoWord_NotLike : PySem.W.subIn K (.ref A_NoWord) (.ref A_NotLike) = some false)
    (r_NoWord_Nothing : PySem.W.subIn K (.ref A_NoWord) (.ref A_Nothing) = some false)
    (xn : PySem.W.specialIn K (.builtin "object.__class__") "__get__" = some (some (.builtin "getset_descriptor.__get__"))) (xt : PySem.W.takesIn K (.builtin "object.__class__") = some true)
    :
    ∃ fd : FuncData, (∀ (s : Shared) (v : Value), BindsTo s fd ⟨[v], []⟩ [("script", v)]) ∧ ∀ base : Heap, K.In base → base.Ns mainGlobals mg → FnOk l.prog w K mg base CX0 12 fa fd ["script"] (spLaw K) := by
  have e := hfa.symm.trans (PySem.W.mg_of X G a_law)
  cases e
  have F_is_letters := fun_mk (st := s_is_letters) l_is_letters c_is_letters k_is_letters
  have F_is_whole := fun_mk (st := s_is_whole) l_is_whole c_is_whole k_is_whole
  have F_is_within := fun_mk (st := s_is_within) l_is_within c_is_within k_is_within
  have F_refuse_no_count := fun_mk (st := s_refuse_no_count) l_refuse_no_count c_refuse_no_count k_refuse_no_count
  have F_is_loop := fun_mk (st := s_is_loop) l_is_loop c_is_loop k_is_loop
  have F_refuse_no_loop := fun_mk (st := s_refuse_no_loop) l_refuse_no_loop c_refuse_no_loop k_refuse_no_loop
  have F_is_plain := fun_mk (st := s_is_plain) l_is_plain c_is_plain k_is_plain
  have F_refuse_not_plain := fun_mk (st := s_refuse_not_plain) l_refuse_not_plain c_refuse_not_plain k_refuse_not_plain
  have F_is_word := fun_mk (st := s_is_word) l_is_word c_is_word k_is_word
  have F_numbered := fun_mk (st := s_numbered) l_numbered c_numbered k_numbered
  have F_is_known := fun_mk (st := s_is_known) l_is_known c_is_known k_is_known
  have F_refuse_unknown := fun_mk (st := s_refuse_unknown) l_refuse_unknown c_refuse_unknown k_refuse_unknown
  have F_longest_end := fun_mk (st := s_longest_end) l_longest_end c_longest_end k_longest_end
  have F_is_coder := fun_mk (st := s_is_coder) l_is_coder c_is_coder k_is_coder
  have F_refuse_no_coder := fun_mk (st := s_refuse_no_coder) l_refuse_no_coder c_refuse_no_coder k_refuse_no_coder
  have F_one_longer := fun_mk (st := s_one_longer) l_one_longer c_one_longer k_one_longer
  have F_next_coder := fun_mk (st := s_next_coder) l_next_coder c_next_coder k_next_coder
  have F_words_till_round := fun_mk (st := s_words_till_round) l_words_till_round c_words_till_round k_words_till_round
  have F_rounds_later := fun_mk (st := s_rounds_later) l_rounds_later c_rounds_later k_rounds_later
  have F_behind := fun_mk (st := s_behind) l_behind c_behind k_behind
  have F_known_lengths := fun_mk (st := s_known_lengths) l_known_lengths c_known_lengths k_known_lengths
  have F_coder_on := fun_mk (st := s_coder_on) l_coder_on c_coder_on k_coder_on
  have F_refuse_no_place := fun_mk (st := s_refuse_no_place) l_refuse_no_place c_refuse_no_place k_refuse_no_place
  have F_text_from := fun_mk (st := s_text_from) l_text_from c_text_from k_text_from
  have F_place_of := fun_mk (st := s_place_of) l_place_of c_place_of k_place_of
  have F__law_pail := fun_mk (st := s_law_pail) l__law_pail c__law_pail k__law_pail
  have F__law_dip := fun_mk (st := s_law_dip) l__law_dip c__law_dip k__law_dip
  have F__law_letters := fun_mk (st := s_law_letters) l__law_letters c__law_letters k__law_letters
  have F__law_loop := fun_mk (st := s_law_loop) l__law_loop c__law_loop k__law_loop
  have F__law_rays := fun_mk (st := s_law_rays) l__law_rays c__law_rays k__law_rays
  have F__law_begun := fun_mk (st := s_law_begun) l__law_begun c__law_begun k__law_begun
  have F__law_same := fun_mk (st := s_law_same) l__law_same c__law_same k__law_same
  have F__law_kind := fun_mk (st := s_law_kind) l__law_kind c__law_kind k__law_kind
  have F__law_length := fun_mk (st := s_law_length) l__law_length c__law_length k__law_length
  have F__law_taught := fun_mk (st := s_law_taught) l__law_taught c__law_taught k__law_taught
  have F__law_things := fun_mk (st := s_law_things) l__law_things c__law_things k__law_things
  have F__law_long_right := fun_mk (st := s_law_long_right) l__law_long_right c__law_long_right k__law_long_right
  have F_law := fun_mk (st := s_law) l_law c_law k_law
  have b_is_letters := F_is_letters.binds (ps := ["thing"]) fun _ _ _ _ _ _ us hl => match us, hl with | [_], _ => rfl
  have b_is_whole := F_is_whole.binds (ps := ["thing"]) fun _ _ _ _ _ _ us hl => match us, hl with | [_], _ => rfl
  have b_is_within := F_is_within.binds (ps := ["thing", "least", "most"]) fun _ _ _ _ _ _ us hl => match us, hl with | [_, _, _], _ => rfl
  have b_refuse_no_count := F_refuse_no_count.binds (ps := ["thing", "least", "most"]) fun _ _ _ _ _ _ us hl => match us, hl with | [_, _, _], _ => rfl
  have b_is_loop := F_is_loop.binds (ps := ["thing"]) fun _ _ _ _ _ _ us hl => match us, hl with | [_], _ => rfl
  have b_refuse_no_loop := F_refuse_no_loop.binds (ps := ["loop"]) fun _ _ _ _ _ _ us hl => match us, hl with | [_], _ => rfl
  have b_is_plain := F_is_plain.binds (ps := ["loop"]) fun _ _ _ _ _ _ us hl => match us, hl with | [_], _ => rfl
  have b_refuse_not_plain := F_refuse_not_plain.binds (ps := ["loop"]) fun _ _ _ _ _ _ us hl => match us, hl with | [_], _ => rfl
  have b_is_word := F_is_word.binds (ps := ["thing"]) fun _ _ _ _ _ _ us hl => match us, hl with | [_], _ => rfl
  have b_numbered := F_numbered.binds (ps := ["words"]) fun _ _ _ _ _ _ us hl => match us, hl with | [_], _ => rfl
  have b_is_known := F_is_known.binds (ps := ["thing"]) fun _ _ _ _ _ _ us hl => match us, hl with | [_], _ => rfl
  have b_refuse_unknown := F_refuse_unknown.binds (ps := ["known"]) fun _ _ _ _ _ _ us hl => match us, hl with | [_], _ => rfl
  have b_longest_end := F_longest_end.binds (ps := ["numbers", "text", "at"]) fun _ _ _ _ _ _ us hl => match us, hl with | [_, _, _], _ => rfl
  have b_is_coder := F_is_coder.binds (ps := ["thing"]) fun _ _ _ _ _ _ us hl => match us, hl with | [_], _ => rfl
  have b_refuse_no_coder := F_refuse_no_coder.binds (ps := ["coder"]) fun _ _ _ _ _ _ us hl => match us, hl with | [_], _ => rfl
  have b_one_longer := F_one_longer.binds (ps := ["lengths", "place"]) fun _ _ _ _ _ _ us hl => match us, hl with | [_, _], _ => rfl
  have b_next_coder := F_next_coder.binds (ps := ["coder"]) fun _ _ _ _ _ _ us hl => match us, hl with | [_], _ => rfl
  have b_words_till_round := F_words_till_round.binds (ps := ["places"]) fun _ _ _ _ _ _ us hl => match us, hl with | [_], _ => rfl
  have b_rounds_later := F_rounds_later.binds (ps := ["coder", "rounds"]) fun _ _ _ _ _ _ us hl => match us, hl with | [_, _], _ => rfl
  have b_behind := F_behind.binds (ps := ["coder", "many"]) fun _ _ _ _ _ _ us hl => match us, hl with | [_, _], _ => rfl
  have b_known_lengths := F_known_lengths.binds (ps := ["loop", "known"]) fun _ _ _ _ _ _ us hl => match us, hl with | [_, _], _ => rfl
  have b_coder_on := F_coder_on.binds (ps := ["loop", "known"]) fun _ _ _ _ _ _ us hl => match us, hl with | [_, _], _ => rfl
  have b_refuse_no_place := F_refuse_no_place.binds (ps := ["place", "places"]) fun _ _ _ _ _ _ us hl => match us, hl with | [_, _], _ => rfl
  have b_text_from := F_text_from.binds (ps := ["loop", "place", "length"]) fun _ _ _ _ _ _ us hl => match us, hl with | [_, _, _], _ => rfl
  have b_place_of := F_place_of.binds (ps := ["loop", "thing"]) fun _ _ _ _ _ _ us hl => match us, hl with | [_, _], _ => rfl
  have b__law_pail := F__law_pail.binds (ps := ["script", "k"]) fun _ _ _ _ _ _ us hl => match us, hl with | [_, _], _ => rfl
  have b__law_dip := F__law_dip.binds (ps := ["pail", "many"]) fun _ _ _ _ _ _ us hl => match us, hl with | [_, _], _ => rfl
  have b__law_letters := F__law_letters.binds (ps := ["loop", "place", "many"]) fun _ _ _ _ _ _ us hl => match us, hl with | [_, _, _], _ => rfl
  have b__law_loop := F__law_loop.binds (ps := ["pail", "most"]) fun _ _ _ _ _ _ us hl => match us, hl with | [_, _], _ => rfl
  have b__law_rays := F__law_rays.binds (ps := ["loop", "lengths"]) fun _ _ _ _ _ _ us hl => match us, hl with | [_, _], _ => rfl
  have b__law_begun := F__law_begun.binds (ps := ["pail", "loop"]) fun _ _ _ _ _ _ us hl => match us, hl with | [_, _], _ => rfl
  have b__law_same := F__law_same.binds (ps := ["found", "due"]) fun _ _ _ _ _ _ us hl => match us, hl with | [_, _], _ => rfl
  have b__law_kind := F__law_kind.binds (ps := ["caught"]) fun _ _ _ _ _ _ us hl => match us, hl with | [_], _ => rfl
  have b__law_length := F__law_length.binds (ps := ["loop", "thing"]) fun _ _ _ _ _ _ us hl => match us, hl with | [_, _], _ => rfl
  have b__law_taught := F__law_taught.binds (ps := ["learner", "thing"]) fun _ _ _ _ _ _ us hl => match us, hl with | [_, _], _ => rfl
  have b__law_things := F__law_things.binds (ps := ["pail", "loop", "lengths", "known"]) fun _ _ _ _ _ _ us hl => match us, hl with | [_, _, _, _], _ => rfl
  have b__law_long_right := F__law_long_right.binds (ps := ["letter"]) fun _ _ _ _ _ _ us hl => match us, hl with | [_], _ => rfl
  have g_is_letters := PySem.W.mg_of X G a_is_letters
  have g_is_whole := PySem.W.mg_of X G a_is_whole
  have g_is_within := PySem.W.mg_of X G a_is_within
  have g_refuse_no_count := PySem.W.mg_of X G a_refuse_no_count
  have g_is_loop := PySem.W.mg_of X G a_is_loop
  have g_refuse_no_loop := PySem.W.mg_of X G a_refuse_no_loop
  have g_is_plain := PySem.W.mg_of X G a_is_plain
  have g_refuse_not_plain := PySem.W.mg_of X G a_refuse_not_plain
  have g_is_word := PySem.W.mg_of X G a_is_word
  have g_numbered := PySem.W.mg_of X G a_numbered
  have g_is_known := PySem.W.mg_of X G a_is_known
  have g_refuse_unknown := PySem.W.mg_of X G a_refuse_unknown
  have g_longest_end := PySem.W.mg_of X G a_longest_end
  have g_is_coder := PySem.W.mg_of X G a_is_coder
  have g_refuse_no_coder := PySem.W.mg_of X G a_refuse_no_coder
  have g_one_longer := PySem.W.mg_of X G a_one_longer
  have g_next_coder := PySem.W.mg_of X G a_next_coder
  have g_words_till_round := PySem.W.mg_of X G a_words_till_round
  have g_rounds_later := PySem.W.mg_of X G a_rounds_later
  have g_behind := PySem.W.mg_of X G a_behind
  have g_known_lengths := PySem.W.mg_of X G a_known_lengths
  have g_coder_on := PySem.W.mg_of X G a_coder_on
  have g_refuse_no_place := PySem.W.mg_of X G a_refuse_no_place
  have g_text_from := PySem.W.mg_of X G a_text_from
  have g_place_of := PySem.W.mg_of X G a_place_of
  have g__law_pail := PySem.W.mg_of X G a__law_pail
  have g__law_dip := PySem.W.mg_of X G a__law_dip
  have g__law_letters := PySem.W.mg_of X G a__law_letters
  have g__law_loop := PySem.W.mg_of X G a__law_loop
  have g__law_rays := PySem.W.mg_of X G a__law_rays
  have g__law_begun := PySem.W.mg_of X G a__law_begun
  have g__law_same := PySem.W.mg_of X G a__law_same
  have g__law_kind := PySem.W.mg_of X G a__law_kind
  have g__law_length := PySem.W.mg_of X G a__law_length
  have g__law_taught := PySem.W.mg_of X G a__law_taught
  have g__law_things := PySem.W.mg_of X G a__law_things
  have g__law_long_right := PySem.W.mg_of X G a__law_long_right
  have g_law := PySem.W.mg_of X G a_law
  have w_isinstance := PySem.W.mg_none_of X G z_isinstance
  have w_str := PySem.W.mg_none_of X G z_str
  have w_all := PySem.W.mg_none_of X G z_all
  have w_int := PySem.W.mg_none_of X G z_int
  have w_bool := PySem.W.mg_none_of X G z_bool
  have w_len := PySem.W.mg_none_of X G z_len
  have w_set := PySem.W.mg_none_of X G z_set
  have w_tuple := PySem.W.mg_none_of X G z_tuple
  have w_zip := PySem.W.mg_none_of X G z_zip
  have w_range := PySem.W.mg_none_of X G z_range
  have w_max := PySem.W.mg_none_of X G z_max
  have w_enumerate := PySem.W.mg_none_of X G z_enumerate
  have w_list := PySem.W.mg_none_of X G z_list
  have w_sorted := PySem.W.mg_none_of X G z_sorted
  have w_min := PySem.W.mg_none_of X G z_min
  have w_ValueError := PySem.W.mg_none_of X G z_ValueError
  have h_MOST_PLACES := PySem.W.mg_of X G m_MOST_PLACES
  have h_MOST_STEPS := PySem.W.mg_of X G m_MOST_STEPS
  have hC_LearnError := PySem.W.mg_of X G gC_LearnError
  have hC_Learner := PySem.W.mg_of X G gC_Learner
  have hC_NoCoder := PySem.W.mg_of X G gC_NoCoder
  have hC_NoCount := PySem.W.mg_of X G gC_NoCount
  have hC_NoCounts := PySem.W.mg_of X G gC_NoCounts
  have hC_NoKnown := PySem.W.mg_of X G gC_NoKnown
  have hC_NoLog := PySem.W.mg_of X G gC_NoLog
  have hC_NoLoop := PySem.W.mg_of X G gC_NoLoop
  have hC_NoPairs := PySem.W.mg_of X G gC_NoPairs
  have hC_NoPlace := PySem.W.mg_of X G gC_NoPlace
  have hC_NoRow := PySem.W.mg_of X G gC_NoRow
  have hC_NoSign := PySem.W.mg_of X G gC_NoSign
  have hC_NoText := PySem.W.mg_of X G gC_NoText
  have hC_NoTree := PySem.W.mg_of X G gC_NoTree
  have hC_NoWord := PySem.W.mg_of X G gC_NoWord
  have hC_NotLike := PySem.W.mg_of X G gC_NotLike
  have hC_NotRound := PySem.W.mg_of X G gC_NotRound
  have hC_Nothing := PySem.W.mg_of X G gC_Nothing
  have TE_NoLoop : ErrC K mg "NoLoop" A_NoLoop := ⟨hC_NoLoop, kC_NoLoop, xC_NoLoop, bC_NoLoop, tC_NoLoop⟩
  have TE_NoKnown : ErrC K mg "NoKnown" A_NoKnown := ⟨hC_NoKnown, kC_NoKnown, xC_NoKnown, bC_NoKnown, tC_NoKnown⟩
  have TE_NoCoder : ErrC K mg "NoCoder" A_NoCoder := ⟨hC_NoCoder, kC_NoCoder, xC_NoCoder, bC_NoCoder, tC_NoCoder⟩
  have TE_NoCount : ErrC K mg "NoCount" A_NoCount := ⟨hC_NoCount, kC_NoCount, xC_NoCount, bC_NoCount, tC_NoCount⟩
  have TE_NoPlace : ErrC K mg "NoPlace" A_NoPlace := ⟨hC_NoPlace, kC_NoPlace, xC_NoPlace, bC_NoPlace, tC_NoPlace⟩
  have TE_NoWord : ErrC K mg "NoWord" A_NoWord := ⟨hC_NoWord, kC_NoWord, xC_NoWord, bC_NoWord, tC_NoWord⟩
  have te_NoWord : PySem.W.exmOne K (.ref A_NoWord) (.ref A_LearnError) = some true := PySem.W.exm_ref bE dE tE sE_NoWord
  have TX_NoWord : Errs16 K mg A_NoWord "NoWord" := ⟨⟨xg_NoWord, xk_NoWord, bC_NoWord, xd_NoWord, xa_NoWord, xn, xt, xm_NoWord⟩, w_ValueError, kit_ve ve_NoWord, w_isinstance, fun x hx => by
    simp only [ernL, List.mem_cons, List.not_mem_nil, or_false] at hx
    rcases hx with rfl | rfl | rfl | rfl | rfl | rfl | rfl | rfl | rfl | rfl | rfl | rfl | rfl | rfl | rfl | rfl
    · exact isb_to (b := false) (by decide +kernel) ⟨_, hC_NoKnown, kit_no sS_NoWord p_NoKnown q_NoKnown r_NoWord_NoKnown⟩
    · exact isb_to (b := false) (by decide +kernel) ⟨_, hC_NoText, kit_no sS_NoWord p_NoText q_NoText r_NoWord_NoText⟩
    · exact isb_to (b := false) (by decide +kernel) ⟨_, hC_NoPairs, kit_no sS_NoWord p_NoPairs q_NoPairs r_NoWord_NoPairs⟩
    · exact isb_to (b := false) (by decide +kernel) ⟨_, hC_NoLoop, kit_no sS_NoWord p_NoLoop q_NoLoop r_NoWord_NoLoop⟩
    · exact isb_to (b := false) (by decide +kernel) ⟨_, hC_NoCoder, kit_no sS_NoWord p_NoCoder q_NoCoder r_NoWord_NoCoder⟩
    · exact isb_to (b := false) (by decide +kernel) ⟨_, hC_NoCount, kit_no sS_NoWord p_NoCount q_NoCount r_NoWord_NoCount⟩
    · exact isb_to (b := false) (by decide +kernel) ⟨_, hC_NotRound, kit_no sS_NoWord p_NotRound q_NotRound r_NoWord_NotRound⟩
    · exact isb_to (b := false) (by decide +kernel) ⟨_, hC_NoTree, kit_no sS_NoWord p_NoTree q_NoTree r_NoWord_NoTree⟩
    · exact isb_to (b := false) (by decide +kernel) ⟨_, hC_NoSign, kit_no sS_NoWord p_NoSign q_NoSign r_NoWord_NoSign⟩
    · exact isb_to (b := false) (by decide +kernel) ⟨_, hC_NotLike, kit_no sS_NoWord p_NotLike q_NotLike r_NoWord_NotLike⟩
    · exact isb_to (b := false) (by decide +kernel) ⟨_, hC_NoPlace, kit_no sS_NoWord p_NoPlace q_NoPlace r_NoWord_NoPlace⟩
    · exact isb_to (b := false) (by decide +kernel) ⟨_, hC_NoCounts, kit_no sS_NoWord p_NoCounts q_NoCounts r_NoWord_NoCounts⟩
    · exact isb_to (b := true) (by decide +kernel) ⟨_, hC_NoWord, kit_self _⟩
    · exact isb_to (b := false) (by decide +kernel) ⟨_, hC_Nothing, kit_no sS_NoWord p_Nothing q_Nothing r_NoWord_Nothing⟩
    · exact isb_to (b := false) (by decide +kernel) ⟨_, hC_NoLog, kit_no sS_NoWord p_NoLog q_NoLog r_NoWord_NoLog⟩
    · exact isb_to (b := false) (by decide +kernel) ⟨_, hC_NoRow, kit_no sS_NoWord p_NoRow q_NoRow r_NoWord_NoRow⟩⟩
  refine ⟨PySem.W.fnOf "law" "law" (defArgs s_law) (defBody s_law) (defScope s_law) .none kV_law dc_law pm_law an_law cd_law ct_law, fun s v => .of_eq rfl, fun base _ _ => ?_⟩
  have E_LT : LT K A_Learner := ⟨⟨ypg, yhd, ypo, ysa⟩, yn0, yn1, yn2, yn3, yn4⟩
  have F_Learner_init := fun_mk (st := s_Learner_init) yl_Learner_init yc_Learner_init yk_Learner_init
  have F_Learner_keep := fun_mk (st := s_Learner_keep) yl_Learner_keep yc_Learner_keep yk_Learner_keep
  have b_Learner_keep := F_Learner_keep.binds (ps := ["self", "deed"]) fun _ _ _ _ _ _ us hl => match us, hl with | [_, _], _ => rfl
  have F_Learner_learn := fun_mk (st := s_Learner_learn) yl_Learner_learn yc_Learner_learn yk_Learner_learn
  have b_Learner_learn := F_Learner_learn.binds (ps := ["self", "n"]) fun _ _ _ _ _ _ us hl => match us, hl with | [_, _], _ => rfl
  have F_Learner_teach := fun_mk (st := s_Learner_teach) yl_Learner_teach yc_Learner_teach yk_Learner_teach
  have b_Learner_teach := F_Learner_teach.binds (ps := ["self", "word"]) fun _ _ _ _ _ _ us hl => match us, hl with | [_, _], _ => rfl
  have F_Learner_coder := fun_mk (st := s_Learner_coder) yl_Learner_coder yc_Learner_coder yk_Learner_coder
  have b_Learner_coder := F_Learner_coder.binds (ps := ["self"]) fun _ _ _ _ _ _ us hl => match us, hl with | [_], _ => rfl
  have F_Learner_count := fun_mk (st := s_Learner_count) yl_Learner_count yc_Learner_count yk_Learner_count
  have b_Learner_count := F_Learner_count.binds (ps := ["self"]) fun _ _ _ _ _ _ us hl => match us, hl with | [_], _ => rfl
  have F_Learner_log := fun_mk (st := s_Learner_log) yl_Learner_log yc_Learner_log yk_Learner_log
  have b_Learner_log := F_Learner_log.binds (ps := ["self"]) fun _ _ _ _ _ _ us hl => match us, hl with | [_], _ => rfl
  have F_Learner_len := fun_mk (st := s_Learner_len) yl_Learner_len yc_Learner_len yk_Learner_len
  have b_Learner_len := F_Learner_len.binds (ps := ["self"]) fun _ _ _ _ _ _ us hl => match us, hl with | [_], _ => rfl
  have F_Learner_knows := fun_mk (st := s_Learner_knows) yl_Learner_knows yc_Learner_knows yk_Learner_knows
  have b_Learner_knows := F_Learner_knows.binds (ps := ["self", "word"]) fun _ _ _ _ _ _ us hl => match us, hl with | [_, _], _ => rfl
  have E_is_letters := mkCal (P := l.prog) (w := w) (base := base) F_is_letters g_is_letters b_is_letters (ok_letters F_is_letters w_isinstance w_str w_all)
  have E_is_whole := mkCal (P := l.prog) (w := w) (base := base) F_is_whole g_is_whole b_is_whole (ok_whole F_is_whole w_isinstance w_int w_bool)
  have E_is_within := mkCal (P := l.prog) (w := w) (base := base) F_is_within g_is_within b_is_within (ok_within F_is_within E_is_whole)
  have E_refuse_no_count := mkCalX (P := l.prog) (w := w) (base := base) F_refuse_no_count g_refuse_no_count b_refuse_no_count (ok_count F_refuse_no_count E_is_within TE_NoCount)
  have E_is_loop := mkCal (P := l.prog) (w := w) (base := base) F_is_loop g_is_loop b_is_loop (ok_is_loop F_is_loop E_is_letters w_len h_MOST_PLACES)
  have E_refuse_no_loop := mkCalX (P := l.prog) (w := w) (base := base) F_refuse_no_loop g_refuse_no_loop b_refuse_no_loop (ok_refuse F_refuse_no_loop E_is_loop TE_NoLoop h_MOST_PLACES)
  have E_is_plain := mkCalX (P := l.prog) (w := w) (base := base) F_is_plain g_is_plain b_is_plain (ok_plain F_is_plain E_refuse_no_loop w_len w_set)
  have E_refuse_not_plain := mkCalX (P := l.prog) (w := w) (base := base) F_refuse_not_plain g_refuse_not_plain b_refuse_not_plain (ok_notPlain F_refuse_not_plain E_is_plain TE_NoLoop)
  have E_is_word := mkCal (P := l.prog) (w := w) (base := base) F_is_word g_is_word b_is_word (ok_word F_is_word E_is_letters w_len)
  have E_numbered := mkCal (P := l.prog) (w := w) (base := base) F_numbered g_numbered b_numbered (ok_numbered F_numbered w_len)
  have E_is_known := mkCal (P := l.prog) (w := w) (base := base) F_is_known g_is_known b_is_known (ok_known F_is_known E_is_word E_numbered w_isinstance w_tuple w_all w_zip)
  have E_refuse_unknown := mkCalX (P := l.prog) (w := w) (base := base) F_refuse_unknown g_refuse_unknown b_refuse_unknown (ok_refK F_refuse_unknown E_is_known TE_NoKnown)
  have E_longest_end := mkCal (P := l.prog) (w := w) (base := base) F_longest_end g_longest_end b_longest_end (ok_longest F_longest_end w_len)
  have E_is_coder := mkCal (P := l.prog) (w := w) (base := base) F_is_coder g_is_coder b_is_coder (ok_isCoder F_is_coder E_is_whole E_is_within w_isinstance w_tuple w_len w_all h_MOST_PLACES)
  have E_refuse_no_coder := mkCalX (P := l.prog) (w := w) (base := base) F_refuse_no_coder g_refuse_no_coder b_refuse_no_coder (ok_refCoder F_refuse_no_coder E_is_coder TE_NoCoder h_MOST_PLACES)
  have E_one_longer := mkCal (P := l.prog) (w := w) (base := base) F_one_longer g_one_longer b_one_longer (ok_oneLonger F_one_longer)
  have E_next_coder := mkCal (P := l.prog) (w := w) (base := base) F_next_coder g_next_coder b_next_coder (ok_next F_next_coder E_one_longer w_len)
  have E_words_till_round := mkCal (P := l.prog) (w := w) (base := base) F_words_till_round g_words_till_round b_words_till_round (ok_till F_words_till_round)
  have E_rounds_later := mkCal (P := l.prog) (w := w) (base := base) F_rounds_later g_rounds_later b_rounds_later (ok_later F_rounds_later w_len w_tuple)
  have E_behind := mkCalX (P := l.prog) (w := w) (base := base) F_behind g_behind b_behind (ok_behind F_behind E_refuse_no_coder E_refuse_no_count E_next_coder E_words_till_round E_rounds_later w_range w_len w_max h_MOST_STEPS)
  have E_known_lengths := mkCalX (P := l.prog) (w := w) (base := base) F_known_lengths g_known_lengths b_known_lengths (ok_knownLengths F_known_lengths E_refuse_unknown E_numbered E_longest_end w_len w_range w_tuple)
  have E_coder_on := mkCalX (P := l.prog) (w := w) (base := base) F_coder_on g_coder_on b_coder_on (ok_coderOn F_coder_on E_refuse_not_plain E_known_lengths)
  have E_refuse_no_place := mkCalX (P := l.prog) (w := w) (base := base) F_refuse_no_place g_refuse_no_place b_refuse_no_place (ok_refPlace F_refuse_no_place E_is_within TE_NoPlace)
  have E_text_from := mkCal (P := l.prog) (w := w) (base := base) F_text_from g_text_from b_text_from (ok_from F_text_from w_len)
  have E_place_of := mkCal (P := l.prog) (w := w) (base := base) F_place_of g_place_of b_place_of (ok_placeOf F_place_of E_is_word E_text_from w_len w_enumerate)
  have E_Learner_init := maker_of (P := l.prog) (w := w) (base := base) yl_Learner_init yc_Learner_init yk_Learner_init yd ⟨ymk, ya_Learner_init, yi_Learner_init, ykc⟩ hC_Learner (ok_init F_Learner_init E_LT E_coder_on E_refuse_no_place w_len)
  have E_Learner_keep := mkMet (P := l.prog) (w := w) (base := base) (mg := mg) ⟨ya_Learner_keep, yi_Learner_keep, yk_Learner_keep⟩ E_LT.cl b_Learner_keep (ok_keep F_Learner_keep E_LT)
  have E_Learner_learn := mkMetX (P := l.prog) (w := w) (base := base) (mg := mg) ⟨ya_Learner_learn, yi_Learner_learn, yk_Learner_learn⟩ E_LT.cl b_Learner_learn (ok_learn F_Learner_learn E_LT E_refuse_no_count E_Learner_keep E_behind h_MOST_STEPS)
  have E_Learner_teach := mkMetN (P := l.prog) (w := w) (base := base) (mg := mg) ⟨ya_Learner_teach, yi_Learner_teach, yk_Learner_teach⟩ E_LT.cl b_Learner_teach (okN_teach F_Learner_teach E_LT E_place_of E_Learner_keep E_one_longer TE_NoWord w_len)
  have E_Learner_coder := mkMet (P := l.prog) (w := w) (base := base) (mg := mg) ⟨ya_Learner_coder, yi_Learner_coder, yk_Learner_coder⟩ E_LT.cl b_Learner_coder (ok_coderL F_Learner_coder E_LT)
  have E_Learner_count := mkMet (P := l.prog) (w := w) (base := base) (mg := mg) ⟨ya_Learner_count, yi_Learner_count, yk_Learner_count⟩ E_LT.cl b_Learner_count (ok_countL F_Learner_count E_LT)
  have E_Learner_log := mkMet (P := l.prog) (w := w) (base := base) (mg := mg) ⟨ya_Learner_log, yi_Learner_log, yk_Learner_log⟩ E_LT.cl b_Learner_log (ok_logL F_Learner_log E_LT w_list)
  have E_Learner_len := mkMet (P := l.prog) (w := w) (base := base) (mg := mg) ⟨ya_Learner_len, yi_Learner_len, yk_Learner_len⟩ E_LT.cl b_Learner_len (ok_lenL F_Learner_len E_LT w_len)
  have E_Learner_knows := mkMet (P := l.prog) (w := w) (base := base) (mg := mg) ⟨ya_Learner_knows, yi_Learner_knows, yk_Learner_knows⟩ E_LT.cl b_Learner_knows (ok_knows F_Learner_knows E_LT E_place_of w_len)
  have E__law_pail := mkCal (P := l.prog) (w := w) (base := base) F__law_pail g__law_pail b__law_pail (ok_pail F__law_pail w_max w_len)
  have E__law_dip := mkCal (P := l.prog) (w := w) (base := base) F__law_dip g__law_dip b__law_dip (ok_dip F__law_dip)
  have E__law_letters := mkCal (P := l.prog) (w := w) (base := base) F__law_letters g__law_letters b__law_letters (ok_letL F__law_letters w_len w_range)
  have E__law_loop := mkCal (P := l.prog) (w := w) (base := base) F__law_loop g__law_loop b__law_loop (ok_loopP F__law_loop E__law_dip w_len w_range w_list)
  have E__law_rays := mkCal (P := l.prog) (w := w) (base := base) F__law_rays g__law_rays b__law_rays (ok_rays F__law_rays E__law_letters w_range w_enumerate)
  have E__law_begun := mkCal (P := l.prog) (w := w) (base := base) F__law_begun g__law_begun b__law_begun (ok_begun F__law_begun E__law_dip E__law_rays w_sorted w_tuple)
  have E__law_same := mkCal (P := l.prog) (w := w) (base := base) F__law_same g__law_same b__law_same (ok_same0 F__law_same)
  have E__law_same := mkCal (P := l.prog) (w := w) (base := base) F__law_same g__law_same b__law_same (ok_same F__law_same E__law_same w_isinstance w_list w_tuple w_bool w_len w_range w_all)
  have E__law_same := mkCal (P := l.prog) (w := w) (base := base) F__law_same g__law_same b__law_same (ok_same F__law_same E__law_same w_isinstance w_list w_tuple w_bool w_len w_range w_all)
  have E__law_same := mkCal (P := l.prog) (w := w) (base := base) F__law_same g__law_same b__law_same (ok_same F__law_same E__law_same w_isinstance w_list w_tuple w_bool w_len w_range w_all)
  have E__law_same := mkCal (P := l.prog) (w := w) (base := base) F__law_same g__law_same b__law_same (ok_same F__law_same E__law_same w_isinstance w_list w_tuple w_bool w_len w_range w_all)
  have E__law_kind := (⟨_, _, fun q hq => (by
    rw [List.mem_singleton.mp hq]
    exact ok_kindE F__law_kind (by show ("NoWord" : Str) ∈ ernL; decide +kernel) TX_NoWord w_len), g__law_kind, F__law_kind.kp, b__law_kind⟩ : CalE l.prog w K mg base 1 "_law_kind" "caught" toldK [(A_NoWord, ("NoWord" : Str))])
  have E__law_length := mkCal (P := l.prog) (w := w) (base := base) F__law_length g__law_length b__law_length (ok_length F__law_length E__law_letters w_isinstance w_str w_len)
  have E__law_taught := mkCal (P := l.prog) (w := w) (base := base) F__law_taught g__law_taught b__law_taught (ok_taught F__law_taught E_Learner_teach E__law_kind hC_LearnError te_NoWord)
  have E__law_things := mkCal (P := l.prog) (w := w) (base := base) F__law_things g__law_things b__law_things (ok_things F__law_things E__law_dip E__law_letters w_len w_max w_range w_list)
  have E__law_long_right := mkCal (P := l.prog) (w := w) (base := base) F__law_long_right g__law_long_right b__law_long_right (ok_long F__law_long_right ⟨E_Learner_init, E_Learner_learn, E_Learner_knows, E__law_taught, E__law_same⟩)
  exact ok_law F_law ⟨E__law_pail, E__law_dip, E__law_loop, E__law_begun, E__law_things, E__law_length, E__law_taught, E__law_long_right, E__law_same, E_Learner_init, E_Learner_knows, E_Learner_coder, E_Learner_count, E_Learner_log, E_Learner_len, w_range, w_len, w_max, w_min, w_int⟩
end Lk
end
open PySem PySem.W PyProof.Rows
set_option maxRecDepth 100000 in
set_option maxHeartbeats 0 in
theorem PySem.Challenge.cw_looplearn_k50_words_taught_or_not_holds : PySem.Challenge.rw_looplearn_k50_words_taught_or_not.Holds := by
  w_on; o_law; k_head; (case hw => w_witness2)
  k_fill
  refine L2.walk_of (l := PySem.Challenge.rw_looplearn_k50_words_taught_or_not) (n := 63) (k := 12) (x := "script") (CX := fun _ => L2.CX0) (sp := fun w => Lk.spLaw _) rfl (by decide) rfl ⟨rfl, by decide, by decide⟩ (fun w h Y => PySem.W.kIn_of Y) ?F (fun _ _ a ns hl _ hS => ⟨a, ns, rfl, hS, hl, fun _ => rfl⟩) (fun _ _ _ _ _ h => h)
  case F =>
    intro w mg fa h KX G hmg
    refine' Lk.all_mk KX G hmg ?a_is_letters ?l_is_letters ?c_is_letters ?k_is_letters ?a_is_whole ?l_is_whole ?c_is_whole ?k_is_whole ?a_is_within ?l_is_within ?c_is_within ?k_is_within ?a_refuse_no_count ?l_refuse_no_count ?c_refuse_no_count ?k_refuse_no_count ?a_is_loop ?l_is_loop ?c_is_loop ?k_is_loop ?a_refuse_no_loop ?l_refuse_no_loop ?c_refuse_no_loop ?k_refuse_no_loop ?a_is_plain ?l_is_plain ?c_is_plain ?k_is_plain ?a_refuse_not_plain ?l_refuse_not_plain ?c_refuse_not_plain ?k_refuse_not_plain ?a_is_word ?l_is_word ?c_is_word ?k_is_word ?a_numbered ?l_numbered ?c_numbered ?k_numbered ?a_is_known ?l_is_known ?c_is_known ?k_is_known ?a_refuse_unknown ?l_refuse_unknown ?c_refuse_unknown ?k_refuse_unknown ?a_longest_end ?l_longest_end ?c_longest_end ?k_longest_end ?a_is_coder ?l_is_coder ?c_is_coder ?k_is_coder ?a_refuse_no_coder ?l_refuse_no_coder ?c_refuse_no_coder ?k_refuse_no_coder ?a_one_longer ?l_one_longer ?c_one_longer ?k_one_longer ?a_next_coder ?l_next_coder ?c_next_coder ?k_next_coder ?a_words_till_round ?l_words_till_round ?c_words_till_round ?k_words_till_round ?a_rounds_later ?l_rounds_later ?c_rounds_later ?k_rounds_later ?a_behind ?l_behind ?c_behind ?k_behind ?a_known_lengths ?l_known_lengths ?c_known_lengths ?k_known_lengths ?a_coder_on ?l_coder_on ?c_coder_on ?k_coder_on ?a_refuse_no_place ?l_refuse_no_place ?c_refuse_no_place ?k_refuse_no_place ?a_text_from ?l_text_from ?c_text_from ?k_text_from ?a_place_of ?l_place_of ?c_place_of ?k_place_of ?a__law_pail ?l__law_pail ?c__law_pail ?k__law_pail ?a__law_dip ?l__law_dip ?c__law_dip ?k__law_dip ?a__law_letters ?l__law_letters ?c__law_letters ?k__law_letters ?a__law_loop ?l__law_loop ?c__law_loop ?k__law_loop ?a__law_rays ?l__law_rays ?c__law_rays ?k__law_rays ?a__law_begun ?l__law_begun ?c__law_begun ?k__law_begun ?a__law_same ?l__law_same ?c__law_same ?k__law_same ?a__law_kind ?l__law_kind ?c__law_kind ?k__law_kind ?a__law_length ?l__law_length ?c__law_length ?k__law_length ?a__law_taught ?l__law_taught ?c__law_taught ?k__law_taught ?a__law_things ?l__law_things ?c__law_things ?k__law_things ?a__law_long_right ?l__law_long_right ?c__law_long_right ?k__law_long_right ?a_law ?l_law ?c_law ?k_law ?z_isinstance ?z_str ?z_all ?z_int ?z_bool ?z_len ?z_set ?z_tuple ?z_zip ?z_range ?z_max ?z_enumerate ?z_list ?z_sorted ?z_min ?z_ValueError ?m_MOST_PLACES ?m_MOST_STEPS ?gC_LearnError ?gC_Learner ?gC_NoCoder ?gC_NoCount ?gC_NoCounts ?gC_NoKnown ?gC_NoLog ?gC_NoLoop ?gC_NoPairs ?gC_NoPlace ?gC_NoRow ?gC_NoSign ?gC_NoText ?gC_NoTree ?gC_NoWord ?gC_NotLike ?gC_NotRound ?gC_Nothing ?ypg ?yhd ?ypo ?ysa ?ymk ?ykc ?yn0 ?yn1 ?yn2 ?yn3 ?yn4 ?ya_Learner_init ?yi_Learner_init ?yl_Learner_init ?yc_Learner_init ?yk_Learner_init ?ya_Learner_keep ?yi_Learner_keep ?yl_Learner_keep ?yc_Learner_keep ?yk_Learner_keep ?ya_Learner_learn ?yi_Learner_learn ?yl_Learner_learn ?yc_Learner_learn ?yk_Learner_learn ?ya_Learner_teach ?yi_Learner_teach ?yl_Learner_teach ?yc_Learner_teach ?yk_Learner_teach ?ya_Learner_coder ?yi_Learner_coder ?yl_Learner_coder ?yc_Learner_coder ?yk_Learner_coder ?ya_Learner_count ?yi_Learner_count ?yl_Learner_count ?yc_Learner_count ?yk_Learner_count ?ya_Learner_log ?yi_Learner_log ?yl_Learner_log ?yc_Learner_log ?yk_Learner_log ?ya_Learner_len ?yi_Learner_len ?yl_Learner_len ?yc_Learner_len ?yk_Learner_len ?ya_Learner_knows ?yi_Learner_knows ?yl_Learner_knows ?yc_Learner_knows ?yk_Learner_knows ?yd ?kC_NoLoop ?xC_NoLoop ?kC_NoKnown ?xC_NoKnown ?kC_NoCoder ?xC_NoCoder ?kC_NoCount ?xC_NoCount ?kC_NoPlace ?xC_NoPlace ?kC_NoWord ?xC_NoWord ?bC_NoCoder ?tC_NoCoder ?bC_NoCount ?tC_NoCount ?bC_NoKnown ?tC_NoKnown ?bC_NoLoop ?tC_NoLoop ?bC_NoPlace ?tC_NoPlace ?bC_NoWord ?tC_NoWord ?bE ?dE ?tE ?p_NoKnown ?q_NoKnown ?p_NoText ?q_NoText ?p_NoPairs ?q_NoPairs ?p_NoLoop ?q_NoLoop ?p_NoCoder ?q_NoCoder ?p_NoCount ?q_NoCount ?p_NotRound ?q_NotRound ?p_NoCounts ?q_NoCounts ?p_NoLog ?q_NoLog ?p_NoPlace ?q_NoPlace ?p_NoRow ?q_NoRow ?p_NoSign ?q_NoSign ?p_NoTree ?q_NoTree ?p_NoWord ?q_NoWord ?p_NotLike ?q_NotLike ?p_Nothing ?q_Nothing ?sE_NoWord ?xg_NoWord ?xk_NoWord ?xd_NoWord ?xa_NoWord ?xm_NoWord ?ve_NoWord ?sS_NoWord ?r_NoWord_NoKnown ?r_NoWord_NoText ?r_NoWord_NoPairs ?r_NoWord_NoLoop ?r_NoWord_NoCoder ?r_NoWord_NoCount ?r_NoWord_NotRound ?r_NoWord_NoCounts ?r_NoWord_NoLog ?r_NoWord_NoPlace ?r_NoWord_NoRow ?r_NoWord_NoSign ?r_NoWord_NoTree ?r_NoWord_NotLike ?r_NoWord_Nothing ?xn ?xt
    (case a_is_letters => k_is)
    (case l_is_letters => k_is)
    (case c_is_letters => k_is)
    (case k_is_letters => k_is)
    (case a_is_whole => k_is)
    (case l_is_whole => k_is)
    (case c_is_whole => k_is)
    (case k_is_whole => k_is)
    (case a_is_within => k_is)
    (case l_is_within => k_is)
    (case c_is_within => k_is)
    (case k_is_within => k_is)
    (case a_refuse_no_count => k_is)
    (case l_refuse_no_count => k_is)
    (case c_refuse_no_count => k_is)
    (case k_refuse_no_count => k_is)
    (case a_is_loop => k_is)
    (case l_is_loop => k_is)
    (case c_is_loop => k_is)
    (case k_is_loop => k_is)
    (case a_refuse_no_loop => k_is)
    (case l_refuse_no_loop => k_is)
    (case c_refuse_no_loop => k_is)
    (case k_refuse_no_loop => k_is)
    (case a_is_plain => k_is)
    (case l_is_plain => k_is)
    (case c_is_plain => k_is)
    (case k_is_plain => k_is)
    (case a_refuse_not_plain => k_is)
    (case l_refuse_not_plain => k_is)
    (case c_refuse_not_plain => k_is)
    (case k_refuse_not_plain => k_is)
    (case a_is_word => k_is)
    (case l_is_word => k_is)
    (case c_is_word => k_is)
    (case k_is_word => k_is)
    (case a_numbered => k_is)
    (case l_numbered => k_is)
    (case c_numbered => k_is)
    (case k_numbered => k_is)
    (case a_is_known => k_is)
    (case l_is_known => k_is)
    (case c_is_known => k_is)
    (case k_is_known => k_is)
    (case a_refuse_unknown => k_is)
    (case l_refuse_unknown => k_is)
    (case c_refuse_unknown => k_is)
    (case k_refuse_unknown => k_is)
    (case a_longest_end => k_is)
    (case l_longest_end => k_is)
    (case c_longest_end => k_is)
    (case k_longest_end => k_is)
    (case a_is_coder => k_is)
    (case l_is_coder => k_is)
    (case c_is_coder => k_is)
    (case k_is_coder => k_is)
    (case a_refuse_no_coder => k_is)
    (case l_refuse_no_coder => k_is)
    (case c_refuse_no_coder => k_is)
    (case k_refuse_no_coder => k_is)
    (case a_one_longer => k_is)
    (case l_one_longer => k_is)
    (case c_one_longer => k_is)
    (case k_one_longer => k_is)
    (case a_next_coder => k_is)
    (case l_next_coder => k_is)
    (case c_next_coder => k_is)
    (case k_next_coder => k_is)
    (case a_words_till_round => k_is)
    (case l_words_till_round => k_is)
    (case c_words_till_round => k_is)
    (case k_words_till_round => k_is)
    (case a_rounds_later => k_is)
    (case l_rounds_later => k_is)
    (case c_rounds_later => k_is)
    (case k_rounds_later => k_is)
    (case a_behind => k_is)
    (case l_behind => k_is)
    (case c_behind => k_is)
    (case k_behind => k_is)
    (case a_known_lengths => k_is)
    (case l_known_lengths => k_is)
    (case c_known_lengths => k_is)
    (case k_known_lengths => k_is)
    (case a_coder_on => k_is)
    (case l_coder_on => k_is)
    (case c_coder_on => k_is)
    (case k_coder_on => k_is)
    (case a_refuse_no_place => k_is)
    (case l_refuse_no_place => k_is)
    (case c_refuse_no_place => k_is)
    (case k_refuse_no_place => k_is)
    (case a_text_from => k_is)
    (case l_text_from => k_is)
    (case c_text_from => k_is)
    (case k_text_from => k_is)
    (case a_place_of => k_is)
    (case l_place_of => k_is)
    (case c_place_of => k_is)
    (case k_place_of => k_is)
    (case a__law_pail => k_is)
    (case l__law_pail => k_is)
    (case c__law_pail => k_is)
    (case k__law_pail => k_is)
    (case a__law_dip => k_is)
    (case l__law_dip => k_is)
    (case c__law_dip => k_is)
    (case k__law_dip => k_is)
    (case a__law_letters => k_is)
    (case l__law_letters => k_is)
    (case c__law_letters => k_is)
    (case k__law_letters => k_is)
    (case a__law_loop => k_is)
    (case l__law_loop => k_is)
    (case c__law_loop => k_is)
    (case k__law_loop => k_is)
    (case a__law_rays => k_is)
    (case l__law_rays => k_is)
    (case c__law_rays => k_is)
    (case k__law_rays => k_is)
    (case a__law_begun => k_is)
    (case l__law_begun => k_is)
    (case c__law_begun => k_is)
    (case k__law_begun => k_is)
    (case a__law_same => k_is)
    (case l__law_same => k_is)
    (case c__law_same => k_is)
    (case k__law_same => k_is)
    (case a__law_kind => k_is)
    (case l__law_kind => k_is)
    (case c__law_kind => k_is)
    (case k__law_kind => k_is)
    (case a__law_length => k_is)
    (case l__law_length => k_is)
    (case c__law_length => k_is)
    (case k__law_length => k_is)
    (case a__law_taught => k_is)
    (case l__law_taught => k_is)
    (case c__law_taught => k_is)
    (case k__law_taught => k_is)
    (case a__law_things => k_is)
    (case l__law_things => k_is)
    (case c__law_things => k_is)
    (case k__law_things => k_is)
    (case a__law_long_right => k_is)
    (case l__law_long_right => k_is)
    (case c__law_long_right => k_is)
    (case k__law_long_right => k_is)
    (case a_law => k_is)
    (case l_law => k_is)
    (case c_law => k_is)
    (case k_law => k_is)
    (case z_isinstance => k_is)
    (case z_str => k_is)
    (case z_all => k_is)
    (case z_int => k_is)
    (case z_bool => k_is)
    (case z_len => k_is)
    (case z_set => k_is)
    (case z_tuple => k_is)
    (case z_zip => k_is)
    (case z_range => k_is)
    (case z_max => k_is)
    (case z_enumerate => k_is)
    (case z_list => k_is)
    (case z_sorted => k_is)
    (case z_min => k_is)
    (case z_ValueError => k_is)
    (case m_MOST_PLACES => k_is)
    (case m_MOST_STEPS => k_is)
    (case gC_LearnError => k_is)
    (case gC_Learner => k_is)
    (case gC_NoCoder => k_is)
    (case gC_NoCount => k_is)
    (case gC_NoCounts => k_is)
    (case gC_NoKnown => k_is)
    (case gC_NoLog => k_is)
    (case gC_NoLoop => k_is)
    (case gC_NoPairs => k_is)
    (case gC_NoPlace => k_is)
    (case gC_NoRow => k_is)
    (case gC_NoSign => k_is)
    (case gC_NoText => k_is)
    (case gC_NoTree => k_is)
    (case gC_NoWord => k_is)
    (case gC_NotLike => k_is)
    (case gC_NotRound => k_is)
    (case gC_Nothing => k_is)
    (case ypg => k_is)
    (case yhd => k_is)
    (case ypo => k_is)
    (case ysa => k_is)
    (case ymk => k_is)
    (case ykc => k_is)
    (case yn0 => k_is)
    (case yn1 => k_is)
    (case yn2 => k_is)
    (case yn3 => k_is)
    (case yn4 => k_is)
    (case ya_Learner_init => k_is)
    (case yi_Learner_init => k_is)
    (case yl_Learner_init => k_is)
    (case yc_Learner_init => k_is)
    (case yk_Learner_init => k_is)
    (case ya_Learner_keep => k_is)
    (case yi_Learner_keep => k_is)
    (case yl_Learner_keep => k_is)
    (case yc_Learner_keep => k_is)
    (case yk_Learner_keep => k_is)
    (case ya_Learner_learn => k_is)
    (case yi_Learner_learn => k_is)
    (case yl_Learner_learn => k_is)
    (case yc_Learner_learn => k_is)
    (case yk_Learner_learn => k_is)
    (case ya_Learner_teach => k_is)
    (case yi_Learner_teach => k_is)
    (case yl_Learner_teach => k_is)
    (case yc_Learner_teach => k_is)
    (case yk_Learner_teach => k_is)
    (case ya_Learner_coder => k_is)
    (case yi_Learner_coder => k_is)
    (case yl_Learner_coder => k_is)
    (case yc_Learner_coder => k_is)
    (case yk_Learner_coder => k_is)
    (case ya_Learner_count => k_is)
    (case yi_Learner_count => k_is)
    (case yl_Learner_count => k_is)
    (case yc_Learner_count => k_is)
    (case yk_Learner_count => k_is)
    (case ya_Learner_log => k_is)
    (case yi_Learner_log => k_is)
    (case yl_Learner_log => k_is)
    (case yc_Learner_log => k_is)
    (case yk_Learner_log => k_is)
    (case ya_Learner_len => k_is)
    (case yi_Learner_len => k_is)
    (case yl_Learner_len => k_is)
    (case yc_Learner_len => k_is)
    (case yk_Learner_len => k_is)
    (case ya_Learner_knows => k_is)
    (case yi_Learner_knows => k_is)
    (case yl_Learner_knows => k_is)
    (case yc_Learner_knows => k_is)
    (case yk_Learner_knows => k_is)
    (case yd => k_is)
    (case kC_NoLoop => k_is)
    (case xC_NoLoop => k_exc)
    (case kC_NoKnown => k_is)
    (case xC_NoKnown => k_exc)
    (case kC_NoCoder => k_is)
    (case xC_NoCoder => k_exc)
    (case kC_NoCount => k_is)
    (case xC_NoCount => k_exc)
    (case kC_NoPlace => k_is)
    (case xC_NoPlace => k_exc)
    (case kC_NoWord => k_is)
    (case xC_NoWord => k_exc)
    (case bC_NoCoder => k_is)
    (case tC_NoCoder => k_is)
    (case bC_NoCount => k_is)
    (case tC_NoCount => k_is)
    (case bC_NoKnown => k_is)
    (case tC_NoKnown => k_is)
    (case bC_NoLoop => k_is)
    (case tC_NoLoop => k_is)
    (case bC_NoPlace => k_is)
    (case tC_NoPlace => k_is)
    (case bC_NoWord => k_is)
    (case tC_NoWord => k_is)
    (case bE => k_is)
    (case dE => k_is)
    (case tE => k_is)
    (case p_NoKnown => k_is)
    (case q_NoKnown => k_is)
    (case p_NoText => k_is)
    (case q_NoText => k_is)
    (case p_NoPairs => k_is)
    (case q_NoPairs => k_is)
    (case p_NoLoop => k_is)
    (case q_NoLoop => k_is)
    (case p_NoCoder => k_is)
    (case q_NoCoder => k_is)
    (case p_NoCount => k_is)
    (case q_NoCount => k_is)
    (case p_NotRound => k_is)
    (case q_NotRound => k_is)
    (case p_NoCounts => k_is)
    (case q_NoCounts => k_is)
    (case p_NoLog => k_is)
    (case q_NoLog => k_is)
    (case p_NoPlace => k_is)
    (case q_NoPlace => k_is)
    (case p_NoRow => k_is)
    (case q_NoRow => k_is)
    (case p_NoSign => k_is)
    (case q_NoSign => k_is)
    (case p_NoTree => k_is)
    (case q_NoTree => k_is)
    (case p_NoWord => k_is)
    (case q_NoWord => k_is)
    (case p_NotLike => k_is)
    (case q_NotLike => k_is)
    (case p_Nothing => k_is)
    (case q_Nothing => k_is)
    (case sE_NoWord => k_is)
    (case xg_NoWord => k_is)
    (case xk_NoWord => k_is)
    (case xd_NoWord => k_is)
    (case xa_NoWord => k_is)
    (case xm_NoWord => k_is)
    (case ve_NoWord => k_is)
    (case sS_NoWord => first | rfl | k_is)
    (case r_NoWord_NoKnown => k_is)
    (case r_NoWord_NoText => k_is)
    (case r_NoWord_NoPairs => k_is)
    (case r_NoWord_NoLoop => k_is)
    (case r_NoWord_NoCoder => k_is)
    (case r_NoWord_NoCount => k_is)
    (case r_NoWord_NotRound => k_is)
    (case r_NoWord_NoCounts => k_is)
    (case r_NoWord_NoLog => k_is)
    (case r_NoWord_NoPlace => k_is)
    (case r_NoWord_NoRow => k_is)
    (case r_NoWord_NoSign => k_is)
    (case r_NoWord_NoTree => k_is)
    (case r_NoWord_NotLike => k_is)
    (case r_NoWord_Nothing => k_is)
    (case xn => k_is)
    (case xt => k_is)
