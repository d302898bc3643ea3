import PyProof.Rows.All
import Wide.All
import OpenK.AllK
import Wide.FinOn
import HandS.ForMost
import HandS.Exc
import HandS.ExcValue
import PyProof.ReprRoads
import PyProof.ReprReads
import HandS.Codes
import HandS.Walk
import KE.GoesEnum
import HandS.Star
import HandS.TupAny
import HandS.IsInst
import HandS.FStr
import HandS.RaiseMore
import HandS.TryOnly
import HandS.ExcOwn
import HandS.WordsExc
import HandS.Flow
import HandS.More
import HandS.ExcIs
import HandS.Deep
import HandS.TupMul
import HandS.SetFor
import HandS.Wide
import KE.IntTextText
import PyProof.FitsInt
import HandS.Zip
import HandS.Set
import HandS.SetTxt0
import HandS.Conv
import KE.GoesEnumKw
import PyProof.Rows.CallKwBuiltin
import PyProof.WalkInts
import PyProof.WalksMore
import HandS.Text
import HandS.MakeKwOnly
import HandS.Defaults
import PyProof.Rows.SortShellAny
import PyProof.StrLawsRepr
import HandS.Call
import PySem.Challenge.RW_looplearn_k59_coders_as_texts
set_option Elab.async false
set_option linter.all false
section
set_option maxRecDepth 100000
set_option maxHeartbeats 2000000
/-! repr of lists and tuples at any depth, where nothing is guarded; defs that are called so. -/
namespace Lk
open PySem PySem.Spec PyProof.Rows L2
mutual
/-- as Dp, and a dict with nothing in it -/
inductive Dq (K : PySem.W.Frag) (H : Hp) : V → PyData → Prop
  | non : Dq K H .non .none
  | bl (b : Bool) : Dq K H (.bl b) (.bool b)
  | int (i : Int) : Dq K H (.int i) (.int i)
  | str (x : Str) : Dq K H (.str x) (.str x)
  | lst {a : Addr} {xs : List V} {ds : List PyData} (h : SqL K H a xs) (m : DqAll K H xs ds) : Dq K H (.ref a) (.list ds)
  | tup {a : Addr} {xs : List V} {ds : List PyData} (h : SqT K H a xs) (m : DqAll K H xs ds) : Dq K H (.ref a) (.tuple ds)
  | dct {a : Addr} (h : H a = some (.dK [])) : Dq K H (.ref a) (.dict [])
inductive DqAll (K : PySem.W.Frag) (H : Hp) : List V → List PyData → Prop
  | nil : DqAll K H [] []
  | cons {v : V} {vs : List V} {d : PyData} {ds : List PyData} (h : Dq K H v d) (m : DqAll K H vs ds) : DqAll K H (v :: vs) (d :: ds)
end
section
variable {X : Cx} {pins : List (Addr × Obj)} {σ : L2.St} {H : Hp} {s : Shared}
/-- what is read of data so told, and that it is shown -/
def Sh (X : Cx) (s : Shared) (u : Value) (d : PyData) : Prop :=
  ∃ as bs, PySem.Reads s.heap u d as ∧ ReadAtMost s.heap d.depth bs ∧ ReprK X.prog X.w bs s.heap d.depth u d.shown
def ShAll (X : Cx) (s : Shared) (us : List Value) (ds : List PyData) : Prop :=
  ∃ as bs, PySem.ReadsAll s.heap us ds as ∧ ReadAtMost s.heap (PyData.depthAll ds) bs ∧ ReprAllK X.prog X.w bs s.heap (PyData.depthAll ds) us (PyData.shownAll ds)
theorem sh_flat {u : Value} {d : PyData} {as : List Addr} (r : PySem.Reads s.heap u d as) (h : d.showable = true) (n : d.hasDict = false) (z : d.shown.length ≤ sizeLine) : Sh X s u d := by
  obtain ⟨bs, h1, h2⟩ := ReprK.of_reads (prog := X.prog) (w := X.w) r h (PyData.noDict_hsm n) z
  exact ⟨as, bs, r, h1, h2⟩
mutual
theorem Dq.shows (I : Inv X pins σ H s) : ∀ (d : PyData) (v : V) (u : Value), Dq X.K H v d → RelV v u → d.showable = true → d.shown.length ≤ sizeLine → Sh X s u d
  | .none, _, _, h, r, hs, z => by
    cases h
    cases r
    exact sh_flat .none hs (by simp only [PyData.hasDict]) z
  | .bool b, _, _, h, r, hs, z => by
    cases h
    cases r
    exact sh_flat (.bool b) hs (by simp only [PyData.hasDict]) z
  | .int i, _, _, h, r, hs, z => by
    cases h
    obtain ⟨t, rfl⟩ := r
    exact sh_flat (.int i t) hs (by simp only [PyData.hasDict]) z
  | .str x, _, _, h, r, hs, z => by
    cases h
    obtain ⟨t, rfl⟩ := r
    exact sh_flat (.str x t) hs (by simp only [PyData.hasDict]) z
  | .list ds, _, _, h, r, hs, z => by
    cases h with
    | lst hq m =>
      rename_i a xs
      cases r
      obtain ⟨its, rv, ⟨o, n, ho, hc, _, hd⟩, _⟩ := I.list hq
      have z2 : (listText (PyData.shownAll ds)).length ≤ sizeLine := by simpa only [PyData.shown] using z
      obtain ⟨as, bs, r2, hb, hk⟩ := DqAll.shows I ds xs its m rv (by simpa [PyData.showable] using hs) fun t ht => Nat.le_trans (listText_mem_le ht) z2
      have r3 : PySem.Reads s.heap (.ref a) (.list ds) (a :: as) := .list ho hc hd r2
      have out : a ∉ bs := not_mem_of_deeper (n := PyData.depthAll ds) r3 (by simp only [PyData.depth]; omega) hb
      refine ⟨_, a :: bs, r3, .cons r3 (n := PyData.depthAll ds) (by simp only [PyData.depth]; omega) hb, ?_⟩
      simp only [PyData.depth, PyData.shown]
      cases its with
      | nil =>
        cases r2
        simp only [PyData.shownAll, listText_nil]
        exact ReprK.listEmpty ho hc hd
      | cons y ys => exact ReprK.list ho hc hd out (by simpa using hk.length_eq) fun i y e => hk.item i y (by simpa using e)
  | .tuple ds, _, _, h, r, hs, z => by
    cases h with
    | tup hq m =>
      rename_i a xs
      cases r
      obtain ⟨its, rv, ⟨o, ho, hc, n, hd⟩, _⟩ := I.tuple hq
      have z2 : (tupleText (PyData.shownAll ds)).length ≤ sizeLine := by simpa only [PyData.shown] using z
      obtain ⟨as, bs, r2, hb, hk⟩ := DqAll.shows I ds xs its m rv (by simpa [PyData.showable] using hs) fun t ht => Nat.le_trans (tupleText_mem_le ht) z2
      have r3 : PySem.Reads s.heap (.ref a) (.tuple ds) as := .tuple ho hc hd r2
      have out : a ∉ bs := not_mem_of_deeper (n := PyData.depthAll ds) r3 (by simp only [PyData.depth]; omega) hb
      refine ⟨_, a :: bs, r3, .cons r3 (n := PyData.depthAll ds) (by simp only [PyData.depth]; omega) hb, ?_⟩
      simp only [PyData.depth, PyData.shown]
      exact ReprK.tuple ho hc hd out hk
  | .dict kvs, _, _, h, r, hs, z => by
    cases h with
    | dct hq =>
      rename_i a
      cases r
      obtain ⟨_, far, vs, kv, o, es, ep, ho, ex, hd, _, hp, _⟩ := dk_of I.hok hq
      cases kv
      have e0 : es.toList = [] := List.eq_nil_of_length_eq_zero (by rw [hp.length]; rfl)
      obtain ⟨el⟩ := es
      dsimp only at e0
      subst e0
      have r3 : PySem.Reads s.heap (.ref a) (.dict []) [a] := .dict (as := []) (bs := []) ho ex.1 hd .nil .nil
      refine ⟨_, [a], r3, .cons r3 (n := 0) (Nat.zero_le _) (fun _ q => nomatch q), ?_⟩
      have q := ReprK.dict (prog := X.prog) (w := X.w) (as := []) (d := PyData.depthKv []) ho ex.1 hd far (fun q => nomatch q) .nil
      simpa only [PyData.depth, PyData.shown, PyData.shownKv] using q
theorem DqAll.shows (I : Inv X pins σ H s) : ∀ (ds : List PyData) (vs : List V) (us : List Value), DqAll X.K H vs ds → Vals vs us → PyData.showableAll ds = true → (∀ t ∈ PyData.shownAll ds, t.length ≤ sizeLine) → ShAll X s us ds
  | [], _, _, h, r, _, _ => by
    cases h
    cases r
    exact ⟨[], [], .nil, (fun _ q => nomatch q), .nil⟩
  | d :: ds, _, _, h, r, hs, z => by
    cases h with
    | cons h1 h2 =>
      cases r with
      | cons r1 r2 =>
        have hs2 : d.showable = true ∧ PyData.showableAll ds = true := by simpa [PyData.showableAll] using hs
        obtain ⟨as1, bs1, p1, q1, k1⟩ := Dq.shows I d _ _ h1 r1 hs2.1 (z _ (by simp only [PyData.shownAll]; exact List.mem_cons_self))
        obtain ⟨as2, bs2, p2, q2, k2⟩ := DqAll.shows I ds _ _ h2 r2 hs2.2 fun t ht => z t (by simp only [PyData.shownAll]; exact List.mem_cons_of_mem _ ht)
        refine ⟨_, bs1 ++ bs2, .cons p1 p2, ?_, ?_⟩
        · simp only [PyData.depthAll]
          exact (q1.mono (Nat.le_max_left _ _)).append (q2.mono (Nat.le_max_right _ _))
        · simp only [PyData.depthAll, PyData.shownAll]
          exact .cons ((k1.more fun b hb => List.mem_append_left _ hb).level_le (Nat.le_max_left _ _)) (k2.more_le (fun b hb => List.mem_append_right bs1 hb) (Nat.le_max_right _ _))
end
/-- repr of data, where nothing is guarded -/
def rRep (K : PySem.W.Frag) : List V → Hp → VK → Prop := fun xs H Q => ∃ v d, xs = [v] ∧ Dq K H v d ∧ (∀ kvs, d ≠ .dict kvs) ∧ d.showable = true ∧ d.depth ≤ 64 ∧ d.shown.length ≤ sizeLine ∧ Q (.str d.shown) H
theorem call_rep (hg : X.A.guards = some []) (hu : X.A.units + 100 < cLine) : CallR X (.builtin "repr") (rRep X.K) := by
  intro pins s σ H xs us Q I ru h
  obtain ⟨v, d, rfl, hd, nd, hs, dp, z, q⟩ := h
  obtain ⟨u, rfl, r⟩ := vals1 ru
  clear ru
  cases hd with
  | non =>
    cases r
    simp only [PyData.shown] at q
    exact PySem.P.repr_of_none ⟨.str _, H, I.tok _, ⟨_, rfl⟩, q⟩
  | bl b =>
    cases r
    simp only [PyData.shown] at q
    exact PySem.P.repr_of_bool ⟨.str _, H, I.tok _, ⟨_, rfl⟩, q⟩
  | int i =>
    obtain ⟨t, rfl⟩ := r
    simp only [PyData.shown] at q
    exact PySem.P.repr_of_int (by simpa [PyData.showable] using hs) ⟨.str _, H, I.tok _, ⟨_, rfl⟩, q⟩
  | str x =>
    obtain ⟨t, rfl⟩ := r
    simp only [PyData.shown] at q z
    exact PySem.P.repr_of_str ⟨.str _, H, I.tok _, ⟨_, rfl⟩, q⟩ z
  | dct e => exact absurd rfl (nd [])
  | lst hq m =>
    rename_i a xs ds
    cases r
    obtain ⟨its, rv, ⟨o, n, ho, hc, _, hd⟩, _⟩ := I.list hq
    simp only [PyData.shown, PyData.depth] at q z dp
    obtain ⟨as, bs, r2, hb, hk⟩ := DqAll.shows I ds xs its m rv (by simpa [PyData.showable] using hs) fun t ht => Nat.le_trans (listText_mem_le ht) z
    have out : a ∉ bs := not_mem_of_deeper (n := PyData.depthAll ds) (PySem.Reads.list ho hc hd r2) (by simp only [PyData.depth]; omega) hb
    have ty : s.TypeIs (.ref a) "list" := ⟨o, ho, hc⟩
    refine call_repr_slot (by omega) ty PySem.F.slot_list_repr.toG ?_
    cases its with
    | nil =>
      cases r2
      simp only [PyData.shownAll, listText_nil] at q
      exact call_list_repr_empty ty ho hd ⟨_, _, rfl, ⟨.str _, H, I.tok _, ⟨_, rfl⟩, q⟩⟩
    | cons y ys =>
      refine call_list_reprK ho hc hd out (by simpa using hk.length_eq) (fun i y e => hk.item i y (by simpa using e)) hg (fun b _ => Clear.nil b) (by show X.A.units + 1 + _ < cLine; omega) (fun _ _ e => e) (fun h2 u tk k => ?_) z
      exact ⟨_, _, rfl, ⟨.str _, H, I.kept k, ⟨_, rfl⟩, q⟩⟩
  | tup hq m =>
    rename_i a xs ds
    cases r
    obtain ⟨its, rv, ⟨o, ho, hc, n, hd⟩, _⟩ := I.tuple hq
    simp only [PyData.shown, PyData.depth] at q z dp
    obtain ⟨as, bs, r2, hb, hk⟩ := DqAll.shows I ds xs its m rv (by simpa [PyData.showable] using hs) fun t ht => Nat.le_trans (tupleText_mem_le ht) z
    have out : a ∉ bs := not_mem_of_deeper (n := PyData.depthAll ds) (PySem.Reads.tuple ho hc hd r2) (by simp only [PyData.depth]; omega) hb
    have ty : s.TypeIs (.ref a) "tuple" := ⟨o, ho, hc⟩
    refine call_repr_slot (by omega) ty PySem.F.slot_tuple_repr ?_
    refine call_tuple_reprK ho hc hd out hk hg (fun b _ => Clear.nil b) (by show X.A.units + 1 + _ < cLine; omega) (fun _ _ e => e) (fun h2 u tk k => ?_) z
    exact ⟨_, _, rfl, ⟨.str _, H, I.kept k, ⟨_, rfl⟩, q⟩⟩
end
end Lk
end
section
set_option maxRecDepth 100000
set_option maxHeartbeats 2000000
/-! Defs that are called where nothing is guarded. -/
namespace Lk
open PySem PySem.Spec PyProof.Rows L2
structure FnG (P : Program) (w : World) (K : PySem.W.Frag) (mg : Str → Option Value) (base : Heap) (T : CXT) (k : Nat) (f : Addr) (fd : FuncData) (ps : List Str) (sp : Sp) : Prop where
  many : ∀ {vs H Q E}, sp vs H Q E → vs.length = ps.length
  go : ∀ {A : Around} {outer : List Env} {s : Shared} {H : Hp} {args : Args} {us : List Value} {vs : List V} {Q : VK} {E : XK}, A.guards = some [] → Room k A → Env0 P w K mg base A outer s H →
    BindsTo s fd args (ps.zip us) → Vals vs us → sp vs H Q E → codeAny (model P w) A (.call (.ref f) args) (CR T outer P w H s Q E) s
section
variable {P : Program} {w : World} {K : PySem.W.Frag} {mg : Str → Option Value} {base : Heap}
theorem fnG {x qual : Str} {st : Stmt} {f : Addr} {fd : FuncData} {N ps : List Str} {k : Nat} {sp : Sp} (F : Fun K x qual st f fd) (S : FnScope N ps (defScope st)) (many : ∀ {vs H Q E}, sp vs H Q E → vs.length = ps.length)
    (body : ∀ (cdv : Value) (A : Around) (outer : List Env) (s : Shared) (H : Hp) (vs : List V) (Q : VK) (E : XK), (A.deeper (envOfC qual (defScope st) s.heap.objs.size f cdv)).guards = some [] →
      Room k (A.deeper (envOfC qual (defScope st) s.heap.objs.size f cdv)) → sp vs H Q E →
      ∃ t, PSs (cxOf CX0 P w K mg base N qual (defScope st) f cdv A outer s H E).nox (defBody st) t ∧ t { nx := fun _ H2 => Q .non H2, rt := Q } (start N vs) H) : FnG P w K mg base CX0 (k + 1) f fd ps sp := by
  obtain ⟨oc, od, kV, doc, pm, an, cdv, ct, osl, rfl, lk, code⟩ := F.ex
  refine ⟨many, fun {A outer s H args us vs Q E} gA hr e0 hb r h => ?_⟩
  have len := many h
  have inK : K.In s.heap := e0.mod.kin.keeps fun b o q => (e0.bs b o q).1
  have free : s.heap.NoLimit := e0.mod.nolimit.keeps fun b o q => (e0.bs b o q).1
  refine codeAny_call_function hr.depth (inK _ _ lk) rfl S.co S.gen rfl (PySem.W.codeRec_of inK code) (hb _ _ _ _ (wpAny_newFunctionEnv_cells S.kind (fun ⟨n, v⟩ hy => ?_) fun env he s1 x1 => ?_))
  · exact (S.par n (List.of_mem_zip hy).1).imp id fun q => ⟨q, PySem.W.cellsFrom_some _ _ _ (.inl q)⟩
  · subst he
    obtain ⟨t, ht, q⟩ := body cdv A outer s H vs Q E gA (hr.deeper _) h
    have I0 : Inv (cxOf CX0 P w K mg base N qual (defScope st) f cdv A outer s H E) [] (start N vs) H s1 := inv_start S hr.hd e0 len r x1
    refine ⟨free.keeps x1.toInCall.keep, codeAny_func (wpAny_mono (ht.nox.run [] s1 (start N vs) H _ I0 q) (fun fl s2 z => ?_) fun _ _ z => z)⟩
    match fl, z with
    | .ret u, ⟨v, _, H2, J, rv, q2⟩ => exact ⟨v, H2, J.os, J.bare, J.base, J.hok, rv, q2⟩
    | .next, ⟨_, H2, J, q2⟩ => exact ⟨V.non, H2, J.os, J.bare, J.base, J.hok, (rfl : RelV .non Value.none), q2⟩
    | .brk, ⟨_, _, _, no⟩ => exact no.elim
    | .cont, ⟨_, _, _, no⟩ => exact no.elim
end
/-- a def that is called by its name where nothing is guarded -/
structure CalG (P : Program) (w : World) (K : PySem.W.Frag) (mg : Str → Option Value) (base : Heap) (k : Nat) (x : Str) (sp : Sp) : Prop where
  ex : ∃ (f : Addr) (fd : FuncData) (ps : List Str), FnG P w K mg base CX0 k f fd ps sp ∧ mg x = some (.ref f) ∧ PySem.W.keepIn K (.ref f) = true ∧ Binds K fd ps []
section
variable {X : Cx} {k j : Nat} {x : Str} {sp : Sp} {p pos : Pos} {e : Expr} {es : List Expr} {t : TA}
theorem pe_cG (c : CalG X.prog X.w X.K X.mg X.base k x sp) (gX : X.A.guards = some []) (hr : Room j X.A) (hk : k ≤ j) (hg : Gl X x) (ha : PA X (e :: es) t)
    (hdb : (x == ("__debug__" : Str)) = false := by decide) (he : starEach (e :: es) X.env = (false, eval e X.env) :: starEach es X.env := by rfl) (hpl : (backTo pos (starEach es X.env)).any (·.1) = false := by rfl) :
    PE X (.Call (.Name x p) (e :: es) [] pos) (tCall sp [] E0 t) := by
  obtain ⟨f, fd, ps, F, hm, kp, b⟩ := c.ex
  refine ⟨fun pins s σ H Q I h => wpAny_Call_Name_kw (ld_glob I hg hm ?_ hdb)⟩
  refine PySem.W.callWith_K (h₀ := X.base) I.ok.mod.kin kp (thn (ha.run pos pins s σ H _ I h) fun us s1 ⟨vs, H1, I1, r, q⟩ => ⟨I1.kIn, ?_⟩) he hpl
  dsimp only at q
  rw [List.append_nil] at q
  have hl : (us ++ []).length = ps.length := by rw [List.append_nil, ← r.length]; exact F.many q
  have b1 := b s1 us I1.kIn hl
  rw [List.append_nil] at b1
  refine wpAny_call (codeAny_mono (F.go gX (hr.mono hk) I1.env0 b1 r q) fun r2 s2 z => ?_)
  match r2, z with
  | .ok (.ret u), z => exact I1.after z
  | .ok .next, z => exact z.elim
  | .ok .brk, z => exact z.elim
  | .ok .cont, z => exact z.elim
  | .error _, z => exact z.elim
end
/-- the law's call -/
theorem lawG {P : Program} {w : World} {K : PySem.W.Frag} {mg mb : Str → Option Value} {k : Nat} {fa a : Addr} {fd : FuncData} {x : Str} {sp : Sp} {s1 : Shared} {vs : List Value} {ns : List Int}
    (inK : K.In s1.heap) (gl : s1.heap.Ns mainGlobals mg) (bl : s1.heap.Ns builtinsNs mb) (bb : ∀ x : Str, x ≠ "__name__" → mb x = bootBuiltins x) (free : s1.heap.NoLimit) (g0 : s1.gens = #[])
    (ha : s1.heap.get? a = some { cls := .type "list", data := .seq vs.toArray }) (hi : IntsAre vs ns) (hl : ns.length ≤ sizeLine) (hr : Room k callerA)
    (F : ∀ base : Heap, K.In base → base.Ns mainGlobals mg → FnG P w K mg base CX0 k fa fd [x] sp) (bind : ∀ (s : Shared) (u : Value), BindsTo s fd ⟨[u], []⟩ [(x, u)])
    (hsp : ∀ H : Hp, SqL K H a (ns.map V.int) → sp [.ref a] H (fun v _ => v = .bl true) fun _ _ _ => False) :
    codeAny (model P w) callerA (.call (.ref fa) ⟨[.ref a], []⟩) (fun r s2 => r = .ok (.ret (.bool true)) ∧ OldK s1.heap s2.heap ∧ s2.os = s1.os ∧ AllBare s2.gens) s1 := by
  have rv := vals_ints hi
  -- what is tracked: the script alone, as it was, or nothing
  have main : ∀ H : Hp, SqL K H a (ns.map V.int) → HOk P w H s1.heap → (∀ b u, H b = some u → b = a ∧ K.lookup a = none ∧ ∃ o xs, u = .frz o (.lst xs)) →
      codeAny (model P w) callerA (.call (.ref fa) ⟨[.ref a], []⟩) (fun r s2 => r = .ok (.ret (.bool true)) ∧ OldK s1.heap s2.heap ∧ s2.os = s1.os ∧ AllBare s2.gens) s1 := by
    intro H hS hok only
    have off : ∀ {b : Addr} {o : Obj} {es : Array DictEntry} {ep : Nat}, s1.heap.get? b = some o → o.data = .dict es ep → H b = none := fun {b o es ep} e d => by
      rcases q : H b with _ | u
      · rfl
      · obtain ⟨rfl, _, _⟩ := only b u q
        rw [ha] at e
        cases e
        cases (show Data.seq vs.toArray _ = Data.dict es ep from d)
    have hid : ∀ {b : Addr} {m : Str → Option Value}, s1.heap.Ns b m → (hidT s1.heap H).Ns b m := fun ⟨o, es, ep, e, d, r⟩ => ⟨o, es, ep, hidT_get e (off e d), d, r⟩
    have inB : K.In (hidT s1.heap H) := fun b o e => hidT_get (inK b o e) (by
      rcases q : H b with _ | u
      · rfl
      · obtain ⟨rfl, no, _⟩ := only b u q
        rw [no] at e
        cases e)
    have md : Mod K mg (hidT s1.heap H) := ⟨inB, hid gl, ⟨mb, hid bl, bb⟩, free.imp fun mc z => ⟨hid z.1, z.2⟩⟩
    have ev : Env0 P w K mg (hidT s1.heap H) callerA [] s1 H := ⟨rfl, md, fun _ _ e => of_hidT e, Nat.le_of_eq (hidT_size _ _), trivial, (fun _ z => nomatch z), hok, .of_eq g0⟩
    refine codeAny_mono ((F _ inB (hid gl)).go (us := [.ref a]) (vs := [.ref a]) rfl hr ev (bind s1 (.ref a)) (.cons rfl .nil) (hsp H hS)) fun r s2 z => ?_
    match r, z with
    | .ok (.ret u), ⟨v, H2, os, bare, un, hok2, rel, q⟩ =>
      cases (show v = V.bl true from q)
      cases (show u = Value.bool true from rel)
      refine ⟨rfl, OldK.of_keep fun b o e => ?_, os, bare⟩
      rcases q2 : H b with _ | u2
      · exact un.keep b o e q2 (fun z => nomatch z) (fun z => nomatch z)
      · obtain ⟨_, _, ob, xs, rfl⟩ := only b u2 q2
        obtain ⟨e1, _⟩ := hok b _ q2
        obtain ⟨e2, _⟩ := hok2 b _ (un.frzs b ob _ q2)
        rw [e] at e1
        cases e1
        exact e2
    | .ok .next, z => exact z.elim
    | .ok .brk, z => exact z.elim
    | .ok .cont, z => exact z.elim
    | .error _, z => exact z.elim
  rcases hk : K.lookup a with _ | o
  · refine main (upd (fun _ => none) a (.frz { cls := .type "list", data := .seq vs.toArray } (.lst (ns.map V.int)))) (.inl (.inr ⟨_, upd_same⟩)) (fun b u z => ?_) fun b u z => ?_
    · by_cases e : b = a
      · subst e
        rw [upd_same] at z
        cases z
        exact ⟨ha, by rw [List.length_map]; exact hl, vs, _, rv, ha⟩
      · rw [upd_ne e] at z
        cases z
    · by_cases e : b = a
      · subst e
        rw [upd_same] at z
        cases z
        exact ⟨rfl, hk, _, _, rfl⟩
      · rw [upd_ne e] at z
        cases z
  · have e := inK a o hk
    rw [ha] at e
    cases e
    refine main (fun _ => none) (.inr ⟨_, vs.toArray, _, hk, rfl, rfl, rfl, ?_, by simpa using rv⟩) (fun _ _ z => nomatch z) fun _ _ z => nomatch z
    rw [List.size_toArray, hi.length]
    exact hl
/-- what the head leaves, from the law's def -/
theorem walkG {l : PySem.W.OpenLaw} {n k : Nat} {q : Program} {loose : List Str} {XP : (Str → Option Value) → Heap → Prop} {YP : World → Heap → Prop} {d : DefRec} {K : Params → PySem.W.Frag} {sp : World → Sp} {x : Str}
    (hn : l.most = some n) (hn2 : n ≤ sizeLine) (hdf : d.params.defaults = []) (hr : Room k callerA) (hY : ∀ (w : World) (h : Heap), YP w h → (K w.params).In h)
    (F : ∀ (w : World) (mg : Str → Option Value) (fa : Addr) (h : Heap), (K w.params).In h → h.Ns mainGlobals mg → mg d.name = some (.ref fa) →
      ∃ fd : FuncData, (∀ (s : Shared) (u : Value), BindsTo s fd ⟨[u], []⟩ [(x, u)]) ∧ ∀ base : Heap, (K w.params).In base → base.Ns mainGlobals mg → FnG l.prog w (K w.params) mg base CX0 k fa fd [x] (sp w))
    (hsp : ∀ (w : World) (H : Hp) (a : Addr) (ns : List Int), ns.length ≤ n → SqL (K w.params) H a (ns.map V.int) → sp w [.ref a] H (fun v _ => v = .bl true) fun _ _ _ => False) :
    PySem.W.WalkO q loose XP YP l.row.toRowW d [] (fun f vs => PySem.call f vs) := by
  refine Att.attach_call hn hdf fun w s0 s1 mg mb fa o pm cd doc a vs ns G Y ho hd hcd hmg hobj hints hlen hg => ?_
  obtain ⟨fd, b, z⟩ := F w mg fa _ (hY w _ Y) G.T.g hmg
  exact lawG (hY w _ Y) G.T.g G.T.b G.T.builtins G.T.nolimit hg hobj hints (Nat.le_trans hlen hn2) hr z b fun H hS => hsp w H a ns hlen hS
end Lk
end
section
set_option maxRecDepth 100000
set_option maxHeartbeats 2000000
/-! enumerate of a tuple. -/
namespace Lk
open PySem PySem.Spec PyProof.Rows L2
/-- the tuple at a, its items in new pairs behind their numbers from c on -/
def IteT (K : PySem.W.Frag) (a : Addr) (c : Int) : It :=
  ⟨fun i H => ∃ (xs : List V) (x : V), SqT K H a xs ∧ xs[i]? = some x,
   fun i H v H2 => ∃ T x, v = .ref T ∧ H T = none ∧ H2 = upd H T (.tup [.int (c + (i : Int)), x]) ∧ ∀ xs, SqT K H a xs → xs[i]? = some x,
   fun i H => ∃ xs : List V, SqT K H a xs ∧ xs.length ≤ i⟩
theorem walk_enumT {K : PySem.W.Frag} {a : Addr} {c : Int} {xs : List V} : Walk (IteT K a c) xs.length (fun H => SqT K H a xs) (YPair (fun i => some (.int (c + (i : Int)))) (fun i => xs[i]?)) := by
  refine ⟨fun i _ hi q => ⟨xs, xs[i], q, by simp [hi]⟩, fun _ q => ⟨xs, q, Nat.le_refl _⟩, fun i H v H2 _ q ⟨T, x, h1, h2, h3, h4⟩ => ?_⟩
  exact ⟨T, .int (c + (i : Int)), x, h1, h2, h3, rfl, h4 xs q⟩
theorem turn_enumT {P : Program} {w : World} {K : PySem.W.Frag} {elts : List Expr} {kk : Nat} {tpos : Pos} {c : Int} (a e it : Addr) :
    Turn P w K (.Tuple elts kk tpos) (IteT K a c) [e, it] e (fun i h => (∃ old, IsEnum h e it (c + (i : Int)) old) ∧ h.IsTupleIter it a i ∧ e ≠ it) where
  mem := by simp
  obj := fun i h st b hb => by
    obtain ⟨⟨old, he⟩, ⟨o, ho, hc, hd⟩, _⟩ := st
    rcases List.mem_cons.mp hb with z | z
    · rw [z]
      exact ⟨_, he, fun v q => nomatch q⟩
    · rw [List.mem_singleton.mp z]
      exact ⟨o, ho, fun v q => by rw [hd] at q; cases q⟩
  keep := fun i h h2 st k => ⟨st.1.imp fun old he => k e (by simp) _ he, st.2.1.at fun o q => k it (by simp) o q, st.2.2⟩
  item := by
    intro X hP hw hK hc i pins s σ H E I hf st hg
    subst hP hw hK
    obtain ⟨⟨old, he⟩, hit, hne⟩ := st
    obtain ⟨xs, x, hq, hx⟩ := hg
    obtain ⟨its, rv, tp, hz⟩ := I.tuple hq
    obtain ⟨u, hu, ru⟩ := rv.get hx
    have hel : e < s.heap.objs.size := Heap.lt_size he
    have hil : it < s.heap.objs.size := by obtain ⟨_, q, _⟩ := hit; exact Heap.lt_size q
    have tp2 : s.heap.IsTuple a its.toArray := tp
    obtain ⟨o, ho, oc, _⟩ := id tp
    have ea : e ≠ a := fun z => by
      rw [← z, show s.heap.get? e = some _ from he] at ho
      cases ho
      exact absurd (Value.type.inj oc) (by decide)
    have ia : it ≠ a := fun z => by
      obtain ⟨o2, ho2, oc2, _⟩ := id hit
      rw [← z, ho2] at ho
      cases ho
      rw [oc2] at oc
      exact absurd (Value.type.inj oc) (by decide)
    have hi : i < its.toArray.size := by
      rw [List.size_toArray]
      exact (List.getElem?_eq_some_iff.mp hu).1
    refine wpAny_pyNext_enum_itemC (Draws.tuple (show X.A.in1.handled = none from I.ok.hd hc) it a (Ne.symm ia) its.toArray) he ⟨hit, tp2⟩ hi hne (fun z => ?_) fun y h1 tk hy ho1 hs1 hT hsz hk => ?_
    · rcases List.mem_cons.mp z with z | z
      · exact hne z
      · exact ea (List.mem_singleton.mp z)
    · have yu : y = u := by
        have q : its.toArray[i]? = some y := hy
        rw [List.getElem?_toArray, hu] at q
        exact (Option.some.inj q).symm
      subst yu
      refine ⟨_, rfl, wpAny_letOwnedTupleGo_enum (s := { s with heap := h1, toks := tk + 1 }) ho1 fun h2 he2 sb => ?_⟩
      have sb2 : Heap.SameBut e h1 h2 := sb
      have hT2 : h2.get? s.heap.objs.size = some { cls := .type "tuple", data := .seq #[.int (c + (i : Int)) tk, y] } := (sb2.2 _ (Nat.ne_of_gt hel)).trans hT
      have new : ObjOk X.prog X.w (upd H s.heap.objs.size (.tup [.int (c + (i : Int)), x])) h2 s.heap.objs.size (.tup [.int (c + (i : Int)), x]) :=
        ⟨by show 2 ≤ sizeLine; decide, [.int (c + (i : Int)) tk, y], .cons ⟨_, rfl⟩ (.cons ru .nil), ⟨_, hT2, rfl, _, rfl⟩⟩
      have I1 : Inv X pins σ (upd H s.heap.objs.size (.tup [.int (c + (i : Int)), x])) { s with heap := h2, toks := tk + 1 } :=
        I.turnedNew (ch := [e, it]) (fun b ob hb q => (sb2.2 b (fun z => hb (by simp [z]))).trans (hk b ob (fun z => hb (by simp [z])) (fun z => hb (by simp [z])) q)) hf (Nat.le_refl _) new
      refine ⟨.ref s.heap.objs.size, _, I1, rfl, ⟨_, x, rfl, I.hok.fresh (Nat.le_refl _), rfl, fun ys hy => by rw [I.tuple_inj hy hq]; exact hx⟩, ⟨⟨y, ?_⟩, hs1.1.at fun o q => (sb2.2 it (Ne.symm hne)).trans q, hne⟩, fun b hb => ?_⟩
      · rw [show c + ((i + 1 : Nat) : Int) = c + (i : Int) + 1 by omega]
        exact he2
      · have lt : b < s.heap.objs.size := by
          rcases List.mem_cons.mp hb with z | z
          · rw [z]; exact hel
          · rw [List.mem_singleton.mp z]; exact hil
        rw [upd_ne (Nat.ne_of_lt lt)]
        exact (hf b hb).1
  done := by
    intro X hP hw hK hc i pins s σ H E I hf st hg
    subst hP hw hK
    obtain ⟨⟨old, he⟩, hit, hne⟩ := st
    obtain ⟨xs, hq, hx⟩ := hg
    obtain ⟨its, rv, tp, hz⟩ := I.tuple hq
    obtain ⟨f0, f1, f2, f3, f4, f5⟩ := hf it (by simp)
    have len := rv.length
    have hT : s.TypeIs (.ref e) "enumerate" := ⟨_, he, rfl⟩
    have last : its.toArray[i]? = none := by
      rw [List.getElem?_toArray, List.getElem?_eq_none (by omega)]
    unfold pyNext
    refine wpAny_bind (wpAny_attempt (wpAny_callSpecial?_slot (name := Str.ofString "__next__") hT PySem.F.slot_enumerate_next
      (wpAny_call_entry PySem.F.slot_enumerate_next hT PySem.F.entry_enumerate_next ?_ (PySem.F.args_enumerate_next_1 _))))
    show wpAny _ _ (field (.ref e) 2 >>= _) _ _ _
    refine wpAny_bind (wpAny_field he rfl (x := .ref it) rfl (wpAny_bind (wpAny_nextOf_tuple_end (I.ok.hd hc) hit (show s.heap.IsTuple a its.toArray from tp) last fun h1 y kept ⟨o, ho, oc⟩ => ?_)))
    refine wpAny_bind (wpAny_isInstance (T := "StopIteration") (b := true) ⟨o, ho, oc⟩ isSubtype_stop (wpAny_pure ⟨rfl, ?_⟩))
    exact I.turned (t' := s.toks) (fun b o hb q => kept b o hb q) f0 f1 f3 f4 f5
  self := fun A i s Q E st h => by
    obtain ⟨⟨_, he⟩, _⟩ := st
    exact wpAny_pyIter_enum he h
set_option maxHeartbeats 4000000 in
/-- enumerate(v), v told by how it begins -/
theorem meets_enum1 {v : Value} {o : Obj} {G : Heap → Prop} (B : Begins v o G) : Meets (Builtin.«enumerate.__new__» ⟨[.type "enumerate", v], []⟩) (fun _ R s => G s.heap ∧
    R (.ok (.ret (.ref (s.heap.push o).objs.size))) { s with heap := (s.heap.push o).push { cls := .type "enumerate", data := .fields #[.none, .bool false, .ref s.heap.objs.size, rawInt 0, .none, .none] } }) :=
  .of_wp fun prog w A R ⟨hp, g, d, tk, os⟩ ⟨h1, h⟩ => by
    have sub := sub_enumerate
    have iter : ∀ {A2 : Around} {E2 : Value → Shared → Prop} {Q2 : Value → Shared → Prop}, Q2 (.ref hp.objs.size) ⟨hp.push o, g, d, tk, os⟩ → wpAny (model prog w) A2 (pyIter v) Q2 E2 ⟨hp, g, d, tk, os⟩ := fun q => B.iter prog w _ _ ⟨hp, g, d, tk, os⟩ _ h1 q
    wp_walk using iter
    refine wpAny_stack_any fun st => wpAny_pure ?_
    split
    · rename_i c _ _ _ _ _
      by_cases z : (c == Value.type "enumerate") = true
      · rw [z]
        wp_walk using iter
        exact ⟨_, rfl, h⟩
      · rw [Bool.eq_false_iff.mpr z]
        wp_walk using iter
        exact ⟨_, rfl, h⟩
    · wp_walk using iter
      exact ⟨_, rfl, h⟩
theorem enum1 {prog : Program} {w : World} {A : Around} {E : Value → Shared → Prop} {s : Shared} {v : Value} {o : Obj} {G : Heap → Prop} {Q : Value → Shared → Prop} (B : Begins v o G) (h1 : G s.heap)
    (h : ∀ h2, IsEnum h2 (s.heap.objs.size + 1) s.heap.objs.size 0 .none → h2.get? s.heap.objs.size = some o → (∀ b x, s.heap.get? b = some x → h2.get? b = some x) → Q (.ref (s.heap.objs.size + 1)) { s with heap := h2 }) :
    wpAny (model prog w) A (call (.type "enumerate") [v]) Q E s := by
  have z : (s.heap.push o).objs.size = s.heap.objs.size + 1 := Heap.size_push ..
  have he : IsEnum ((s.heap.push o).push { cls := .type "enumerate", data := .fields #[.none, .bool false, .ref s.heap.objs.size, rawInt 0, .none, .none] }) (s.heap.objs.size + 1) s.heap.objs.size 0 .none := by
    have q := Heap.get?_push_size (s.heap.push o) (o := { cls := .type "enumerate", data := .fields #[.none, .bool false, .ref s.heap.objs.size, rawInt 0, .none, .none] }) rfl
    rwa [z] at q
  refine callType_new PySem.F.called_enumerate (by decide) (PySem.F.typeCall_enumerate_1 _) (PySem.F.newCall_enumerate_1 _) (fun obj => PySem.F.args_object_init_2 obj _) PySem.F.entry_enumerate_new (meets_enum1 B) ⟨h1, ?_⟩
  show _ ∧ _
  rw [z]
  exact ⟨⟨_, he, rfl⟩, h _ he (Heap.get?_push_of_some _ (Heap.get?_push_size _ B.free)) fun b x e => Heap.get?_push_of_some _ (Heap.get?_push_of_some _ e)⟩
def iEnumT (K : PySem.W.Frag) (ta : TA) : TI := fun σ H R => ta σ H fun vs H1 => ∃ a xs, vs = [.ref a] ∧ SqT K H1 a xs ∧ R (IteT K a 0) H1
theorem pi_enumT {X : Cx} {e : Expr} {ta : TA} {p pos tpos : Pos} {elts : List Expr} {kk : Nat} (hg : Gl X "enumerate") (hm : X.mg "enumerate" = none) (ha : PA X [e] ta) (hs : starEach [e] X.env = [(false, eval e X.env)] := by rfl) :
    PI X (.Tuple elts kk tpos) (.Call (.Name "enumerate" p) [e] [] pos) (iEnumT X.K ta) := by
  refine ⟨fun pins s σ H R I h => Call_ (ld_blt I hg hm boot_enumerate (PyProof.Rows.callWith_type1 (thn (ha.run pos pins s σ H _ I h) fun us s1 ⟨vs, H1, I1, r1, a, xs, ex, hq, q⟩ => ?_) hs rfl))⟩
  subst ex
  cases r1 with
  | cons r rr =>
    cases rr
    cases r
    obtain ⟨its, rv, tp, hz⟩ := I1.tuple hq
    refine enum1 (begins_tuple a its.toArray) tp fun h2 he hit hk => wpAny_pyIter_enum he ?_
    have I2 : Inv X pins σ H1 { s1 with heap := h2 } := I1.kept (t' := s1.toks) hk
    refine ⟨s1.heap.objs.size + 1, [s1.heap.objs.size + 1, s1.heap.objs.size], _, _, H1, rfl, I2, turn_enumT a (s1.heap.objs.size + 1) s1.heap.objs.size, ⟨⟨.none, he⟩, ⟨_, hit, rfl, rfl⟩, Nat.succ_ne_self _⟩, fun b hb => ?_, q⟩
    have hle : s1.heap.objs.size ≤ b := by
      rcases List.mem_cons.mp hb with z | z
      · rw [z]; exact Nat.le_add_right _ _
      · rw [List.mem_singleton.mp z]; exact Nat.le_refl _
    exact I1.fpOk hle (I1.hok.fresh hle)
end Lk
end
section
/-! Coders, their steps, last goings, rings, rounds: mathematics. -/
namespace Lk
abbrev Cd := Nat × List Nat
def COk (c : Cd) : Prop := c.1 < c.2.length
def len (c : Cd) (i : Nat) : Nat := c.2.getD i 0
def nx (c : Cd) : Cd := ((c.1 + (len c c.1 + 1)) % c.2.length, c.2.set c.1 (len c c.1 + 1))
def it : Nat → Cd → Cd
  | 0, c => c
  | n + 1, c => it n (nx c)
def go (c : Cd) (i : Nat) : Nat := (i + len c i) % c.2.length
def gon (c : Cd) : Nat → Nat → Nat
  | 0, i => i
  | n + 1, i => gon c n (go c i)
theorem nx_len {c : Cd} : (nx c).2.length = c.2.length := List.length_set
theorem it_len : ∀ (n : Nat) {c : Cd}, (it n c).2.length = c.2.length
  | 0, _ => rfl
  | n + 1, c => (it_len n).trans nx_len
theorem nx_ok {c : Cd} (h : COk c) : COk (nx c) := by
  have h0 : 0 < c.2.length := Nat.lt_of_le_of_lt (Nat.zero_le _) h
  show _ % _ < (nx c).2.length
  rw [nx_len]
  exact Nat.mod_lt _ h0
theorem it_ok : ∀ (n : Nat) {c : Cd}, COk c → COk (it n c)
  | 0, _, h => h
  | n + 1, _, h => it_ok n (nx_ok h)
theorem it_add : ∀ (n m : Nat) (c : Cd), it (n + m) c = it m (it n c)
  | 0, m, c => by rw [Nat.zero_add]; rfl
  | n + 1, m, c => by
    rw [show n + 1 + m = (n + m) + 1 by omega]
    exact it_add n m (nx c)
theorem it_succ (n : Nat) (c : Cd) : it (n + 1) c = nx (it n c) := it_add n 1 c
theorem gon_add (c : Cd) : ∀ (n m i : Nat), gon c (n + m) i = gon c m (gon c n i)
  | 0, m, i => by rw [Nat.zero_add]; rfl
  | n + 1, m, i => by
    rw [show n + 1 + m = (n + m) + 1 by omega]
    exact gon_add c n m (go c i)
theorem gon_succ (c : Cd) (n i : Nat) : gon c (n + 1) i = go c (gon c n i) := gon_add c n 1 i
theorem len_nx_same {c : Cd} (h : COk c) : len (nx c) c.1 = len c c.1 + 1 := by
  show (c.2.set c.1 _).getD c.1 0 = _
  rw [List.getD_eq_getElem?_getD, List.getElem?_set_self h]
  rfl
theorem len_nx_ne {c : Cd} {i : Nat} (h : i ≠ c.1) : len (nx c) i = len c i := by
  show (c.2.set c.1 _).getD i 0 = c.2.getD i 0
  rw [List.getD_eq_getElem?_getD, List.getD_eq_getElem?_getD, List.getElem?_set_ne (Ne.symm h)]
theorem go_nx_ne {c : Cd} {i : Nat} (h : i ≠ c.1) : go (nx c) i = go c i := by
  unfold go
  rw [len_nx_ne h, nx_len]
theorem go_nx_same {c : Cd} (h : COk c) : go (nx c) c.1 = (nx c).1 := by
  unfold go
  rw [len_nx_same h, nx_len]
  rfl
/-- last goings lead from i to the coder's own place -/
def Rch (c : Cd) (i : Nat) : Prop := ∃ k, gon c k i = c.1
def Free (c : Cd) : Prop := ∀ i, i < c.2.length → Rch c i
theorem rch_nx {c : Cd} (h : COk c) {i : Nat} : Rch c i → Rch (nx c) i := by
  rintro ⟨k, e⟩
  induction k generalizing i with
  | zero =>
    refine ⟨1, ?_⟩
    show go (nx c) i = _
    rw [show i = c.1 from e]
    exact go_nx_same h
  | succ k ih =>
    by_cases g : i = c.1
    · refine ⟨1, ?_⟩
      show go (nx c) i = _
      rw [g]
      exact go_nx_same h
    · obtain ⟨m, q⟩ := ih e
      refine ⟨m + 1, ?_⟩
      show gon (nx c) m (go (nx c) i) = _
      rw [go_nx_ne g]
      exact q
theorem rch_it : ∀ (n : Nat) {c : Cd}, COk c → ∀ {i}, Rch c i → Rch (it n c) i
  | 0, _, _, _, r => r
  | n + 1, _, h, _, r => rch_it n (nx_ok h) (rch_nx h r)
theorem free_nx {c : Cd} (h : COk c) (f : Free c) : Free (nx c) := fun i hi => rch_nx h (f i (by rw [nx_len] at hi; exact hi))
theorem free_it : ∀ (n : Nat) {c : Cd}, COk c → Free c → Free (it n c)
  | 0, _, _, f => f
  | n + 1, _, h, f => free_it n (nx_ok h) (free_nx h f)
/-- where the coder has been is led to where it is -/
theorem rch_been {c : Cd} (h : COk c) {n t : Nat} (ht : t ≤ n) : Rch (it n c) (it t c).1 := by
  obtain ⟨m, rfl⟩ := Nat.exists_eq_add_of_le ht
  rw [it_add]
  exact rch_it m (it_ok t h) ⟨0, rfl⟩
theorem len_mono1 {c : Cd} (i : Nat) (h : COk c) : len c i ≤ len (nx c) i := by
  by_cases g : i = c.1
  · rw [g, len_nx_same h]; omega
  · rw [len_nx_ne g]; exact Nat.le_refl _
theorem len_mono : ∀ (n : Nat) {c : Cd} (i : Nat), COk c → len c i ≤ len (it n c) i
  | 0, _, _, _ => Nat.le_refl _
  | n + 1, _, i, h => Nat.le_trans (len_mono1 i h) (len_mono n i (nx_ok h))
/-- each length that a place came to was a step -/
theorem step_of : ∀ (n : Nat) {c : Cd} (i v : Nat), COk c → len c i < v → v ≤ len (it n c) i → ∃ t, t < n ∧ (it t c).1 = i ∧ (it (t + 1) c).1 = (i + v) % c.2.length
  | 0, _, _, _, _, h1, h2 => absurd (Nat.lt_of_lt_of_le h1 h2) (Nat.lt_irrefl _)
  | n + 1, c, i, v, h, h1, h2 => by
    by_cases g : v ≤ len (nx c) i
    · have gi : i = c.1 := by
        refine Classical.byContradiction fun z => ?_
        rw [len_nx_ne z] at g
        omega
      refine ⟨0, Nat.succ_pos _, gi.symm, ?_⟩
      show (nx c).1 = _
      rw [gi, len_nx_same h] at g
      have e : v = len c c.1 + 1 := by rw [gi] at h1; omega
      rw [gi, e]
      rfl
    · obtain ⟨t, a, b, d⟩ := step_of n i v (nx_ok h) (by omega) h2
      refine ⟨t + 1, by omega, b, ?_⟩
      rw [nx_len] at d
      exact d
theorem sum_set : ∀ (l : List Nat) (i v : Nat), i < l.length → (l.set i v).sum + l.getD i 0 = l.sum + v
  | a :: r, 0, v, _ => by
    show v + r.sum + a = a + r.sum + v
    omega
  | a :: r, i + 1, v, h => by
    have ih := sum_set r i v (by simpa using h)
    show a + (r.set i v).sum + r.getD i 0 = a + r.sum + v
    omega
theorem sum_nx {c : Cd} (h : COk c) : (nx c).2.sum = c.2.sum + 1 := by
  have z := sum_set c.2 c.1 (len c c.1 + 1) h
  have e : c.2.getD c.1 0 = len c c.1 := rfl
  show (c.2.set c.1 _).sum = _
  omega
theorem sum_it : ∀ (n : Nat) {c : Cd}, COk c → (it n c).2.sum = c.2.sum + n
  | 0, _, _ => rfl
  | n + 1, c, h => by
    show (it n (nx c)).2.sum = _
    rw [sum_it n (nx_ok h), sum_nx h]
    omega
theorem sum_le : ∀ {a b : List Nat}, a.length = b.length → (∀ i, i < b.length → a.getD i 0 ≤ b.getD i 0) → a.sum ≤ b.sum
  | [], [], _, _ => Nat.le_refl _
  | x :: a, y :: b, hl, h => by
    have h0 : x ≤ y := h 0 (by simp)
    have h1 : a.sum ≤ b.sum := sum_le (by simpa using hl) fun i hi => h (i + 1) (by simpa using hi)
    show x + a.sum ≤ y + b.sum
    omega
theorem sum_map_add (k : Nat) : ∀ l : List Nat, (l.map (· + k)).sum = l.sum + l.length * k
  | [] => by simp
  | a :: r => by
    have ih := sum_map_add k r
    show a + k + (r.map (· + k)).sum = a + r.sum + (r.length + 1) * k
    rw [ih, Nat.add_mul]
    omega
theorem getD_map_add (k : Nat) (l : List Nat) {i : Nat} (h : i < l.length) : (l.map (· + k)).getD i 0 = l.getD i 0 + k := by
  rw [List.getD_eq_getElem?_getD, List.getD_eq_getElem?_getD, List.getElem?_map, List.getElem?_eq_getElem h]
  rfl
/-- among p lengths in a row one leads to q -/
theorem some_to {p : Nat} (i a q : Nat) (hq : q < p) : ∃ v, a < v ∧ v ≤ a + p ∧ (i + v) % p = q := by
  have hp : 0 < p := by omega
  have hr := Nat.mod_lt (i + a + 1) hp
  by_cases g : (i + a + 1) % p ≤ q
  · refine ⟨a + 1 + (q - (i + a + 1) % p), by omega, by omega, ?_⟩
    rw [show i + (a + 1 + (q - (i + a + 1) % p)) = (i + a + 1) + (q - (i + a + 1) % p) by omega, Nat.add_mod, Nat.mod_eq_of_lt (show q - (i + a + 1) % p < p by omega),
      show (i + a + 1) % p + (q - (i + a + 1) % p) = q by omega, Nat.mod_eq_of_lt hq]
  · refine ⟨a + 1 + (p + q - (i + a + 1) % p), by omega, by omega, ?_⟩
    rw [show i + (a + 1 + (p + q - (i + a + 1) % p)) = (i + a + 1) + (p + q - (i + a + 1) % p) by omega, Nat.add_mod, Nat.mod_eq_of_lt (show p + q - (i + a + 1) % p < p by omega),
      show (i + a + 1) % p + (p + q - (i + a + 1) % p) = q + p by omega, Nat.add_mod_right, Nat.mod_eq_of_lt hq]
/-- behind so many steps every place has been come to -/
theorem been_all {c : Cd} (h : COk c) {n : Nat} (hn : (c.2.length - 1) * (c.2.length - 1) + 1 ≤ n) {q : Nat} (hq : q < c.2.length) : ∃ t, t ≤ n ∧ (it t c).1 = q := by
  refine Classical.byContradiction fun no => ?_
  have no' : ∀ t, t ≤ n → (it t c).1 ≠ q := fun t ht e => no ⟨t, ht, e⟩
  have lim : ∀ i, len (it n c) i < len c i + c.2.length := fun i => by
    refine Classical.byContradiction fun g => ?_
    obtain ⟨v, v1, v2, v3⟩ := some_to i (len c i) q hq
    obtain ⟨t, t1, _, t3⟩ := step_of n i v h v1 (by omega)
    exact no' (t + 1) (by omega) (t3.trans v3)
  have stay : len (it n c) q ≤ len c q := by
    refine Classical.byContradiction fun g => ?_
    obtain ⟨t, t1, t2, _⟩ := step_of n q (len c q + 1) h (by omega) (by omega)
    exact no' t (by omega) t2
  have hs := sum_it n h
  have hB : (it n c).2.sum ≤ ((c.2.map (· + (c.2.length - 1))).set q (len c q)).sum := by
    refine sum_le (by rw [it_len, List.length_set, List.length_map]) fun i hi => ?_
    rw [List.length_set, List.length_map] at hi
    by_cases g : i = q
    · rw [g, List.getD_eq_getElem?_getD (l := List.set _ _ _), List.getElem?_set_self (by rw [List.length_map]; exact hq)]
      exact stay
    · rw [List.getD_eq_getElem?_getD (l := List.set _ _ _), List.getElem?_set_ne (Ne.symm g), ← List.getD_eq_getElem?_getD, getD_map_add _ _ hi]
      have z := lim i
      show len (it n c) i ≤ len c i + (c.2.length - 1)
      omega
  have e1 := sum_set (c.2.map (· + (c.2.length - 1))) q (len c q) (by rw [List.length_map]; exact hq)
  rw [getD_map_add _ _ hq, sum_map_add] at e1
  have e2 : c.2.getD q 0 = len c q := rfl
  have e3 : c.2.length * (c.2.length - 1) = (c.2.length - 1) * (c.2.length - 1) + (c.2.length - 1) := by
    obtain ⟨m, hm⟩ : ∃ m, c.2.length = m + 1 := ⟨c.2.length - 1, by omega⟩
    rw [hm, Nat.add_sub_cancel, Nat.add_mul, Nat.one_mul]
  omega
theorem free_late {c : Cd} (h : COk c) {n : Nat} (hn : (c.2.length - 1) * (c.2.length - 1) + 1 ≤ n) : Free (it n c) := fun i hi => by
  rw [it_len] at hi
  obtain ⟨t, ht, e⟩ := been_all h hn hi
  rw [← e]
  exact rch_been h ht
end Lk
end
section
/-! Rounds come again; rings. -/
namespace Lk
def S : Nat → (Nat → Nat) → Nat
  | 0, _ => 0
  | n + 1, f => S n f + f n
theorem S_congr : ∀ (p : Nat) {f g : Nat → Nat}, (∀ i, i < p → f i = g i) → S p f = S p g
  | 0, _, _, _ => rfl
  | n + 1, f, g, h => by
    show S n f + f n = S n g + g n
    rw [S_congr n fun i hi => h i (by omega), h n (by omega)]
theorem S_upd : ∀ (p : Nat) {f g : Nat → Nat} (j : Nat), j < p → (∀ i, i < p → i ≠ j → f i = g i) → S p f + g j = S p g + f j
  | n + 1, f, g, j, hj, h => by
    show S n f + f n + g j = S n g + g n + f j
    by_cases e : j = n
    · subst e
      rw [S_congr j (f := f) (g := g) fun i hi => h i (by omega) (by omega)]
      omega
    · have ih := S_upd n j (by omega) fun i hi => h i (by omega)
      have e2 := h n (by omega) (Ne.symm e)
      omega
theorem S_le : ∀ (p : Nat) {f : Nat → Nat}, (∀ i, i < p → f i ≤ 1) → S p f ≤ p
  | 0, _, _ => Nat.le_refl _
  | n + 1, f, h => by
    have ih := S_le n fun i hi => h i (by omega)
    have z := h n (by omega)
    show S n f + f n ≤ n + 1
    omega
theorem S_one : ∀ (p : Nat) {f : Nat → Nat}, (∀ i, i < p → f i ≤ 1) → S p f = p → ∀ i, i < p → f i = 1
  | n + 1, f, h, e, i, hi => by
    have ih := S_le n fun i hi => h i (by omega)
    have z := h n (by omega)
    have e' : S n f + f n = n + 1 := e
    by_cases g : i = n
    · rw [g]; omega
    · exact S_one n (fun i hi => h i (by omega)) (by omega) i (by omega)
theorem S_add : ∀ (p : Nat) (f g : Nat → Nat), S p (fun i => f i + g i) = S p f + S p g
  | 0, _, _ => rfl
  | n + 1, f, g => by
    show S n (fun i => f i + g i) + (f n + g n) = S n f + f n + (S n g + g n)
    rw [S_add n]
    omega
theorem S_zero : ∀ (p : Nat) {f : Nat → Nat}, (∀ i, i < p → f i = 0) → S p f = 0
  | 0, _, _ => rfl
  | n + 1, f, h => by
    show S n f + f n = 0
    rw [S_zero n fun i hi => h i (by omega), h n (by omega)]
theorem mod_ne {p m d : Nat} (h : (m + d) % p = m % p) (h0 : 0 < d) : p ≤ d := by
  have z := Nat.sub_mod_eq_zero_of_mod_eq h
  rw [Nat.add_sub_cancel_left] at z
  exact Nat.le_of_dvd h0 (Nat.dvd_of_mod_eq_zero z)
/-- how many of the k lengths behind a lead from i to x -/
def cw (p i x a : Nat) : Nat → Nat
  | 0 => 0
  | k + 1 => cw p i x a k + if (i + (a + k + 1)) % p = x then 1 else 0
theorem cw_pos {p i x a : Nat} : ∀ {k : Nat}, 0 < cw p i x a k → ∃ v, v < k ∧ (i + (a + v + 1)) % p = x
  | 0, h => absurd h (Nat.lt_irrefl _)
  | k + 1, h => by
    by_cases g : (i + (a + k + 1)) % p = x
    · exact ⟨k, Nat.lt_succ_self _, g⟩
    · have h' : 0 < cw p i x a k + if (i + (a + k + 1)) % p = x then 1 else 0 := h
      rw [if_neg g] at h'
      obtain ⟨v, a1, a2⟩ := cw_pos (k := k) h'
      exact ⟨v, by omega, a2⟩
theorem cw_of {p i x a v : Nat} : ∀ {k : Nat}, v < k → (i + (a + v + 1)) % p = x → 0 < cw p i x a k
  | k + 1, h, e => by
    show 0 < cw p i x a k + if (i + (a + k + 1)) % p = x then 1 else 0
    by_cases g : v = k
    · rw [← g, if_pos e]; omega
    · have z := cw_of (k := k) (by omega) e
      omega
theorem cw_le {p i x a : Nat} : ∀ {k : Nat}, k ≤ p → cw p i x a k ≤ 1
  | 0, _ => Nat.zero_le _
  | k + 1, h => by
    have ih := cw_le (p := p) (i := i) (x := x) (a := a) (k := k) (by omega)
    show cw p i x a k + (if (i + (a + k + 1)) % p = x then 1 else 0) ≤ 1
    by_cases g : (i + (a + k + 1)) % p = x
    · rw [if_pos g]
      have z : cw p i x a k = 0 := by
        refine Nat.eq_zero_of_not_pos fun q => ?_
        obtain ⟨v, hv, e⟩ := cw_pos q
        have w := mod_ne (p := p) (m := i + (a + v + 1)) (d := k - v) (by rw [show i + (a + v + 1) + (k - v) = i + (a + k + 1) by omega, g, e]) (by omega)
        omega
      omega
    · rw [if_neg g]; omega
/-- who is led to x by its last going and has given one to x has given all -/
theorem cw_last {p i x a k : Nat} (hk : k ≤ p) (h : (i + a) % p = x) (h1 : cw p i x a k = 1) : k = p := by
  obtain ⟨v, hv, e⟩ := cw_pos (p := p) (i := i) (x := x) (a := a) (k := k) (by omega)
  have w := mod_ne (p := p) (m := i + a) (d := v + 1) (by rw [show i + a + (v + 1) = i + (a + v + 1) by omega, e, h]) (by omega)
  omega
def ind (b : Prop) [Decidable b] : Nat := if b then 1 else 0
/-- what comes to a place, what goes from it -/
theorem flow : ∀ (n : Nat) {c : Cd}, COk c → ∀ x, x < c.2.length →
    S c.2.length (fun i => cw c.2.length i x (len c i) (len (it n c) i - len c i)) + ind (x = c.1) = (len (it n c) x - len c x) + ind (x = (it n c).1)
  | 0, c, _, x, _ => by
    rw [S_zero c.2.length fun i _ => by show cw _ i x _ (len c i - len c i) = 0; rw [Nat.sub_self]; rfl]
    show 0 + _ = (len c x - len c x) + _
    rw [Nat.sub_self]
    rfl
  | n + 1, c, h, x, hx => by
    have ih := flow n h x hx
    have ho : COk (it n c) := it_ok n h
    rw [it_succ]
    have hj : (it n c).1 < c.2.length := by have z := ho; unfold COk at z; rw [it_len] at z; exact z
    have m := len_mono n (it n c).1 h
    have e1 := S_upd c.2.length (f := fun i => cw c.2.length i x (len c i) (len (nx (it n c)) i - len c i)) (g := fun i => cw c.2.length i x (len c i) (len (it n c) i - len c i)) (it n c).1 hj fun i _ hne => by
      show cw _ i x _ (len (nx (it n c)) i - len c i) = _
      rw [len_nx_ne hne]
    have e2 : cw c.2.length (it n c).1 x (len c (it n c).1) (len (nx (it n c)) (it n c).1 - len c (it n c).1) = cw c.2.length (it n c).1 x (len c (it n c).1) (len (it n c) (it n c).1 - len c (it n c).1) + ind (x = (nx (it n c)).1) := by
      rw [len_nx_same ho, show len (it n c) (it n c).1 + 1 - len c (it n c).1 = (len (it n c) (it n c).1 - len c (it n c).1) + 1 by omega]
      show cw _ _ _ _ _ + _ = _
      congr 1
      have e : (nx (it n c)).1 = ((it n c).1 + (len c (it n c).1 + (len (it n c) (it n c).1 - len c (it n c).1) + 1)) % c.2.length := by
        show ((it n c).1 + (len (it n c) (it n c).1 + 1)) % (it n c).2.length = _
        rw [it_len]
        congr 1
        omega
      rw [e]
      unfold ind
      by_cases g : ((it n c).1 + (len c (it n c).1 + (len (it n c) (it n c).1 - len c (it n c).1) + 1)) % c.2.length = x
      · rw [if_pos g, if_pos g.symm]
      · rw [if_neg g, if_neg (Ne.symm g)]
    have e3 : len (nx (it n c)) x - len c x = (len (it n c) x - len c x) + ind (x = (it n c).1) := by
      unfold ind
      by_cases g : x = (it n c).1
      · rw [if_pos g, g, len_nx_same ho]
        omega
      · rw [if_neg g, len_nx_ne g]
        omega
    rw [e3]
    omega
/-- no place has begun more than p words -/
def Bd (c : Cd) (n : Nat) : Prop := ∀ i, i < c.2.length → len (it n c) i ≤ len c i + c.2.length
theorem cw_bd {c : Cd} {n : Nat} (b : Bd c n) (x : Nat) : ∀ i, i < c.2.length → cw c.2.length i x (len c i) (len (it n c) i - len c i) ≤ 1 := fun i hi => cw_le (by have z := b i hi; omega)
theorem home_of {c : Cd} (h : COk c) {n : Nat} (b : Bd c n) (e : len (it n c) (it n c).1 = len c (it n c).1 + c.2.length) : (it n c).1 = c.1 := by
  refine Classical.byContradiction fun g => ?_
  have hj : (it n c).1 < c.2.length := by have z := it_ok n h; unfold COk at z; rw [it_len] at z; exact z
  have f := flow n h (it n c).1 hj
  have z := S_le _ (cw_bd b (it n c).1)
  unfold ind at f
  rw [if_neg g, if_pos rfl, e] at f
  omega
theorem full_of {c : Cd} (h : COk c) {n : Nat} (b : Bd c n) (e : (it n c).1 = c.1) {x : Nat} (hx : x < c.2.length) (ex : len (it n c) x = len c x + c.2.length) {i : Nat} (hi : i < c.2.length) (hg : go c i = x) : len (it n c) i = len c i + c.2.length := by
  have f := flow n h x hx
  rw [e, ex] at f
  have z := S_one _ (cw_bd b x) (by omega) i hi
  have m := len_mono n i h
  have w := cw_last (by have z := b i hi; omega) hg z
  omega
theorem all_full {c : Cd} (h : COk c) (fr : Free c) {n : Nat} (b : Bd c n) (e : (it n c).1 = c.1) (eh : len (it n c) c.1 = len c c.1 + c.2.length) : ∀ i, i < c.2.length → len (it n c) i = len c i + c.2.length := by
  have hp : 0 < c.2.length := Nat.lt_of_le_of_lt (Nat.zero_le _) h
  have key : ∀ k i, i < c.2.length → gon c k i = c.1 → len (it n c) i = len c i + c.2.length := by
    intro k
    induction k with
    | zero =>
      intro i _ q
      rw [show i = c.1 from q]
      exact eh
    | succ k ih =>
      intro i hi q
      have hgo : go c i < c.2.length := Nat.mod_lt _ hp
      exact full_of h b e hgo (ih (go c i) hgo q) hi rfl
  intro i hi
  obtain ⟨k, q⟩ := fr i hi
  exact key k i hi q
theorem S_getD : ∀ (l : List Nat), S l.length (fun i => l.getD i 0) = l.sum := by
  intro l
  have key : ∀ (n : Nat), n ≤ l.length → S n (fun i => l.getD i 0) = (l.take n).sum := by
    intro n
    induction n with
    | zero => intro _; rfl
    | succ n ih =>
      intro hn
      show S n _ + l.getD n 0 = _
      rw [ih (by omega), List.take_add_one, List.getD_eq_getElem?_getD, List.getElem?_eq_getElem (by omega), List.sum_append]
      simp
  rw [key _ (Nat.le_refl _), List.take_length]
theorem S_const (k : Nat) : ∀ p, S p (fun _ => k) = p * k
  | 0 => by simp [S]
  | n + 1 => by
    show S n _ + k = _
    rw [S_const k n, Nat.add_mul, Nat.one_mul]
theorem S_mono : ∀ (p : Nat) {f g : Nat → Nat}, (∀ i, i < p → f i ≤ g i) → S p f ≤ S p g
  | 0, _, _, _ => Nat.le_refl _
  | n + 1, f, g, h => by
    have ih := S_mono n fun i hi => h i (by omega)
    have z := h n (by omega)
    show S n f + f n ≤ S n g + g n
    omega
theorem S_eq : ∀ (p : Nat) {f g : Nat → Nat}, (∀ i, i < p → f i ≤ g i) → S p f = S p g → ∀ i, i < p → f i = g i
  | n + 1, f, g, h, e, i, hi => by
    have ih := S_mono n (f := f) (g := g) fun i hi => h i (by omega)
    have z := h n (by omega)
    have e' : S n f + f n = S n g + g n := e
    by_cases w : i = n
    · rw [w]; omega
    · exact S_eq n (fun i hi => h i (by omega)) (by omega) i (by omega)
theorem sum_S {c : Cd} (n : Nat) : (it n c).2.sum = S c.2.length (fun i => len (it n c) i) := by
  rw [← S_getD, it_len]
  rfl
/-- ahead of p * p steps none has begun more than p -/
theorem bd_all {c : Cd} (h : COk c) (fr : Free c) : ∀ n, n ≤ c.2.length * c.2.length → Bd c n
  | 0, _ => fun i _ => by show len c i ≤ _; omega
  | n + 1, hn => by
    have b := bd_all h fr n (by omega)
    have ho := it_ok n h
    intro i hi
    rw [it_succ]
    by_cases g : i = (it n c).1
    · rw [g, len_nx_same ho]
      refine Classical.byContradiction fun z => ?_
      have bj := b i hi
      rw [g] at bj
      have e : len (it n c) (it n c).1 = len c (it n c).1 + c.2.length := by omega
      have e0 := home_of h b e
      have af := all_full h fr b e0 (by rw [e0] at e; exact e)
      have s1 := sum_it n h
      rw [sum_S, S_congr _ af, S_add, S_const] at s1
      have s2 : S c.2.length (len c) = c.2.sum := S_getD c.2
      omega
    · rw [len_nx_ne g]
      exact b i hi
theorem it_round {c : Cd} (h : COk c) (fr : Free c) : it (c.2.length * c.2.length) c = (c.1, c.2.map (· + c.2.length)) := by
  have b := bd_all h fr _ (Nat.le_refl _)
  have s1 := sum_it (c.2.length * c.2.length) h
  have s2 : S c.2.length (len c) = c.2.sum := S_getD c.2
  have all : ∀ i, i < c.2.length → len (it (c.2.length * c.2.length) c) i = len c i + c.2.length := by
    refine S_eq c.2.length (f := fun i => len (it (c.2.length * c.2.length) c) i) (g := fun i => len c i + c.2.length) b ?_
    rw [S_add, S_const, ← sum_S]
    omega
  have hj : (it (c.2.length * c.2.length) c).1 < c.2.length := by have z := it_ok (c.2.length * c.2.length) h; unfold COk at z; rw [it_len] at z; exact z
  have e1 := home_of h b (all _ hj)
  refine Prod.ext e1 ?_
  refine List.ext_getElem? fun i => ?_
  by_cases hi : i < c.2.length
  · have z := all i hi
    unfold len at z
    rw [List.getD_eq_getElem?_getD, List.getD_eq_getElem?_getD, List.getElem?_eq_getElem (by rw [it_len]; exact hi), List.getElem?_eq_getElem hi] at z
    rw [List.getElem?_eq_getElem (by rw [it_len]; exact hi), List.getElem?_map, List.getElem?_eq_getElem hi]
    exact congrArg some z
  · rw [List.getElem?_eq_none (by rw [it_len]; omega), List.getElem?_eq_none (by rw [List.length_map]; omega)]
/-- who comes again is free -/
theorem free_again {c : Cd} (h : COk c) (e : it (c.2.length * c.2.length) c = (c.1, c.2.map (· + c.2.length))) : Free c := by
  have hp : 0 < c.2.length := Nat.lt_of_le_of_lt (Nat.zero_le _) h
  have lenE : ∀ i, i < c.2.length → len (it (c.2.length * c.2.length) c) i = len c i + c.2.length := fun i hi => by
    rw [e]
    exact getD_map_add _ _ hi
  have fr : Free (it (c.2.length * c.2.length) c) := fun i hi => by
    rw [it_len] at hi
    obtain ⟨t, t1, t2, _⟩ := step_of (c.2.length * c.2.length) i (len c i + 1) h (by omega) (by rw [lenE i hi]; omega)
    rw [← t2]
    exact rch_been h (by omega)
  have goE : ∀ i, i < c.2.length → go (it (c.2.length * c.2.length) c) i = go c i := fun i hi => by
    unfold go
    rw [lenE i hi, it_len, ← Nat.add_assoc, Nat.add_mod_right]
  have gonE : ∀ k i, i < c.2.length → gon (it (c.2.length * c.2.length) c) k i = gon c k i := by
    intro k
    induction k with
    | zero => intro i _; rfl
    | succ k ih =>
      intro i hi
      show gon _ k (go _ i) = gon c k (go c i)
      rw [goE i hi]
      exact ih _ (Nat.mod_lt _ hp)
  intro i hi
  obtain ⟨k, q⟩ := fr i (by rw [it_len]; exact hi)
  rw [gonE k i hi] at q
  exact ⟨k, by rw [q, e]⟩
end Lk
end
section
/-! Rings of last goings. -/
namespace Lk
theorem go_lt {c : Cd} (h : COk c) (i : Nat) : go c i < c.2.length := Nat.mod_lt _ (Nat.lt_of_le_of_lt (Nat.zero_le _) h)
theorem gon_lt {c : Cd} (h : COk c) {i : Nat} (hi : i < c.2.length) : ∀ k, gon c k i < c.2.length
  | 0 => hi
  | k + 1 => by rw [gon_succ]; exact go_lt h _
/-- k goings from a lead round it, past places that are greater and not the coder's own -/
structure RingK (c : Cd) (a k : Nat) : Prop where
  pos : 0 < k
  home : ∀ j, j < k → gon c j a ≠ c.1
  least : ∀ j, 0 < j → j < k → a < gon c j a
  back : gon c k a = a
def ringL (c : Cd) (a k : Nat) : List Nat := (List.range k).map fun j => gon c j a
def RingAt (c : Cd) (a : Nat) : Prop := ∃ k, RingK c a k
theorem ringK_never {c : Cd} {a k : Nat} (r : RingK c a k) : ∀ m, gon c m a ≠ c.1 := by
  intro m
  induction m using Nat.strongRecOn with
  | ind m ih =>
    by_cases g : m < k
    · exact r.home m g
    · have e : m = k + (m - k) := by omega
      rw [e, gon_add, r.back]
      exact ih (m - k) (by have := r.pos; omega)
theorem ringK_inj {c : Cd} {a k j : Nat} (r : RingK c a k) (s : RingK c a j) : k = j := by
  have key : ∀ {k j : Nat}, RingK c a k → RingK c a j → ¬ k < j := fun r s g => by
    have z := s.least _ r.pos g
    rw [r.back] at z
    omega
  have h1 := key r s
  have h2 := key s r
  omega
theorem ringL_nodup {c : Cd} {a k : Nat} (r : RingK c a k) : (ringL c a k).Nodup := by
  unfold ringL
  refine List.pairwise_map.mpr (List.Pairwise.imp_of_mem (R := fun i j => i < j) (fun {i j} hi hj hl e => ?_) List.pairwise_lt_range)
  rw [List.mem_range] at hi hj
  have z : gon c (i + (k - j)) a = a := by
    rw [gon_add, e, ← gon_add, show j + (k - j) = k by omega]
    exact r.back
  have w := r.least (i + (k - j)) (by omega) (by omega)
  omega
theorem nodup_below {l : List Nat} {p : Nat} (n : l.Nodup) (h : ∀ x ∈ l, x < p) : l.length ≤ p := by
  have z := List.Nodup.length_le_of_subset n (l₂ := List.range p) fun x hx => List.mem_range.mpr (h x hx)
  rw [List.length_range] at z
  exact z
theorem free_noring {c : Cd} (fr : Free c) {a : Nat} (ha : a < c.2.length) : ¬ RingAt c a := fun ⟨_, r⟩ => by
  obtain ⟨m, q⟩ := fr a ha
  exact ringK_never r m q
/-- the least number with a property -/
theorem least_of {Q : Nat → Prop} {n : Nat} (h : Q n) : ∃ m, Q m ∧ ∀ j, j < m → ¬ Q j := by
  induction n using Nat.strongRecOn with
  | ind n ih =>
    by_cases g : ∃ j, j < n ∧ Q j
    · obtain ⟨j, hj, q⟩ := g
      exact ih j hj q
    · exact ⟨n, h, fun j hj q => g ⟨j, hj, q⟩⟩
theorem repeats {p : Nat} {f : Nat → Nat} (h : ∀ m, f m < p) : ∃ j k, j < k ∧ f j = f k := by
  refine Classical.byContradiction fun no => ?_
  have nd : ((List.range (p + 1)).map f).Nodup :=
    List.pairwise_map.mpr (List.Pairwise.imp (R := fun i j => i < j) (fun {i j} hl e => no ⟨i, j, hl, e⟩) List.pairwise_lt_range)
  have z := nodup_below nd (p := p) fun x hx => by
    obtain ⟨m, _, e⟩ := List.mem_map.mp hx
    rw [← e]
    exact h m
  rw [List.length_map, List.length_range] at z
  omega
theorem ring_of {c : Cd} (h : COk c) {i : Nat} (hi : i < c.2.length) (no : ∀ m, gon c m i ≠ c.1) : ∃ a, a < c.2.length ∧ RingAt c a := by
  obtain ⟨j, k, hjk, e⟩ := repeats (f := fun m => gon c m i) fun m => gon_lt h hi m
  have per : gon c (k - j) (gon c j i) = gon c j i := by
    rw [← gon_add, show j + (k - j) = k by omega]
    exact e.symm
  obtain ⟨v, ⟨m0, e0⟩, hv⟩ := least_of (Q := fun v => ∃ m, gon c m (gon c j i) = v) ⟨0, rfl⟩
  have low : ∀ m, v ≤ gon c m v := fun m => by
    refine Nat.le_of_not_lt fun z => hv _ z ⟨m0 + m, ?_⟩
    rw [gon_add, e0]
  have hper : gon c (k - j) v = v := by
    rw [← e0, ← gon_add, Nat.add_comm, gon_add, per]
  obtain ⟨d, ⟨d0, d1⟩, hd⟩ := least_of (Q := fun d => 0 < d ∧ gon c d v = v) ⟨(by omega : 0 < k - j), hper⟩
  have hvlt : v < c.2.length := by rw [← e0]; exact gon_lt h (gon_lt h hi j) m0
  refine ⟨v, hvlt, d, d0, fun m _ => ?_, fun m m0 md => ?_, d1⟩
  · rw [← e0, ← gon_add, ← gon_add]
    exact no _
  · have z := low m
    have w : gon c m v ≠ v := fun z => hd m md ⟨m0, z⟩
    omega
theorem noring_free {c : Cd} (h : COk c) (no : ∀ a, a < c.2.length → ¬ RingAt c a) : Free c := fun i hi => by
  refine Classical.byContradiction fun z => ?_
  obtain ⟨a, ha, r⟩ := ring_of h hi fun m e => z ⟨m, e⟩
  exact no a ha r
/-- a walk from a, as far as it is told -/
structure PathK (c : Cd) (a : Nat) (k : Nat) : Prop where
  pos : 0 < k
  home : ∀ j, j < k → gon c j a ≠ c.1
  least : ∀ j, 0 < j → j < k → a < gon c j a
  nd : (ringL c a k).Nodup
theorem path_one {c : Cd} {a : Nat} (h : a ≠ c.1) : PathK c a 1 :=
  ⟨Nat.one_pos, fun j hj => by rw [show j = 0 by omega]; exact h, fun j h0 h1 => absurd h1 (by omega), List.pairwise_singleton _ _⟩
theorem ringL_succ {c : Cd} {a k : Nat} : ringL c a (k + 1) = ringL c a k ++ [gon c k a] := by
  unfold ringL
  rw [List.range_succ, List.map_append]
  rfl
theorem path_more {c : Cd} {a k : Nat} (r : PathK c a k) (h1 : a < gon c k a) (h2 : gon c k a ≠ c.1) (h3 : gon c k a ∉ ringL c a k) : PathK c a (k + 1) := by
  refine ⟨Nat.succ_pos _, fun j hj => ?_, fun j h0 hj => ?_, ?_⟩
  · by_cases g : j < k
    · exact r.home j g
    · rw [show j = k by omega]; exact h2
  · by_cases g : j < k
    · exact r.least j h0 g
    · rw [show j = k by omega]; exact h1
  · rw [ringL_succ]
    refine List.nodup_append.mpr ⟨r.nd, List.pairwise_singleton _ _, fun x hx y hy e => ?_⟩
    rw [List.mem_singleton] at hy
    exact h3 (by rw [← hy, ← e]; exact hx)
theorem path_len {c : Cd} (h : COk c) {a k : Nat} (ha : a < c.2.length) (r : PathK c a k) : k ≤ c.2.length := by
  have z := nodup_below r.nd (p := c.2.length) fun x hx => by
    obtain ⟨m, _, e⟩ := List.mem_map.mp hx
    rw [← e]
    exact gon_lt h ha m
  unfold ringL at z
  rw [List.length_map, List.length_range] at z
  exact z
/-- the walk ended: it is a ring just where it came back -/
theorem path_ring {c : Cd} {a k : Nat} (r : PathK c a k) (e : gon c k a = a) : RingK c a k := ⟨r.pos, r.home, r.least, e⟩
theorem path_none {c : Cd} {a k : Nat} (r : PathK c a k) (hend : ¬ (a < gon c k a ∧ gon c k a ≠ c.1 ∧ gon c k a ∉ ringL c a k)) (e : gon c k a ≠ a) : ¬ RingAt c a := fun ⟨d, s⟩ => by
  have hkd : k < d := by
    refine Classical.byContradiction fun g => ?_
    by_cases g2 : d < k
    · have z := r.least d s.pos g2
      rw [s.back] at z
      omega
    · have : d = k := by omega
      rw [← this, s.back] at e
      exact e rfl
  refine hend ⟨s.least k r.pos hkd, s.home k hkd, fun hm => ?_⟩
  have nd := ringL_nodup s
  obtain ⟨j, hj, ej⟩ := List.mem_map.mp hm
  rw [List.mem_range] at hj
  have z : gon c (j + (d - k)) a = a := by
    rw [gon_add, ej, ← gon_add, show k + (d - k) = d by omega]
    exact s.back
  have w := s.least (j + (d - k)) (by omega) (by omega)
  omega
/-- what ring_from tells -/
def RingFrom (c : Cd) (a : Nat) (r : Option (List Nat)) : Prop := (∃ k, RingK c a k ∧ r = some (ringL c a k)) ∨ (¬ RingAt c a ∧ r = none)
/-- what ring tells -/
def RingOf (c : Cd) (r : Option (List Nat)) : Prop := (∃ a k, a < c.2.length ∧ RingK c a k ∧ (∀ b, b < a → ¬ RingAt c b) ∧ r = some (ringL c a k)) ∨ ((∀ a, a < c.2.length → ¬ RingAt c a) ∧ r = none)
theorem ringOf_free {c : Cd} (h : COk c) {r : Option (List Nat)} (q : RingOf c r) : r = none ↔ Free c := by
  rcases q with ⟨a, k, ha, rk, _, rfl⟩ | ⟨no, rfl⟩
  · exact ⟨fun z => (by cases z), fun fr => absurd ⟨k, rk⟩ (free_noring fr ha)⟩
  · exact ⟨fun _ => noring_free h no, fun _ => rfl⟩
/-- how many steps a coder takes at least till it is free -/
def Ahead (c : Cd) (n : Nat) : Prop := Free (it n c) ∧ ∀ m, m < n → ¬ Free (it m c)
theorem ahead_le {c : Cd} (h : COk c) {n : Nat} (a : Ahead c n) : n ≤ (c.2.length - 1) * (c.2.length - 1) + 1 :=
  Nat.le_of_not_lt fun z => a.2 _ z (free_late h (Nat.le_refl _))
theorem ahead_is {c : Cd} (h : COk c) : ∃ n, Ahead c n := least_of (free_late h (Nat.le_refl _))
theorem ahead_one {c : Cd} {n m : Nat} (a : Ahead c n) (b : Ahead c m) : n = m := by
  have h1 : ¬ n < m := fun z => b.2 _ z a.1
  have h2 : ¬ m < n := fun z => a.2 _ z b.1
  omega
end Lk
end
section
/-! Far steps, words. -/
namespace Lk
theorem it_rounds {c : Cd} (h : COk c) (fr : Free c) : ∀ R, it (R * (c.2.length * c.2.length)) c = (c.1, c.2.map (· + R * c.2.length))
  | 0 => by
    rw [Nat.zero_mul]
    refine Prod.ext rfl ?_
    show c.2 = _
    rw [show (fun n : Nat => n + 0 * c.2.length) = id from funext fun n => by simp, List.map_id]
  | R + 1 => by
    have e1 : it ((R + 1) * (c.2.length * c.2.length)) c = it (c.2.length * c.2.length) (it (R * (c.2.length * c.2.length)) c) := by
      rw [Nat.add_mul, Nat.one_mul, it_add]
    have h2 := it_ok (R * (c.2.length * c.2.length)) h
    have f2 := free_it (R * (c.2.length * c.2.length)) h fr
    have r := it_round h2 f2
    rw [it_len] at r
    rw [e1, r, it_rounds h fr R]
    refine Prod.ext rfl ?_
    show (c.2.map _).map _ = _
    rw [List.map_map]
    refine List.map_congr_left fun n _ => ?_
    show n + R * c.2.length + c.2.length = n + (R + 1) * c.2.length
    rw [Nat.add_mul, Nat.one_mul, Nat.add_assoc]
/-- as many whole rounds as may be taken at once -/
def rnds (p n : Nat) : Nat := (n - ((p - 1) * (p - 1) + 1)) / (p * p)
theorem rnds_le (p n : Nat) : rnds p n * (p * p) ≤ n := Nat.le_trans (Nat.div_mul_le_self _ _) (Nat.sub_le _ _)
theorem rnds_left (p n : Nat) (hp : 0 < p) : n - rnds p n * (p * p) < (p - 1) * (p - 1) + 1 + p * p := by
  have hpp : 0 < p * p := Nat.mul_pos hp hp
  have a := Nat.div_add_mod (n - ((p - 1) * (p - 1) + 1)) (p * p)
  have b := Nat.mod_lt (n - ((p - 1) * (p - 1) + 1)) hpp
  unfold rnds
  rw [Nat.mul_comm (p * p)] at a
  omega
theorem far {c : Cd} (h : COk c) (n : Nat) : it n c = ((it (n - rnds c.2.length n * (c.2.length * c.2.length)) c).1, (it (n - rnds c.2.length n * (c.2.length * c.2.length)) c).2.map (· + rnds c.2.length n * c.2.length)) := by
  have hle := rnds_le c.2.length n
  have e : n = (n - rnds c.2.length n * (c.2.length * c.2.length)) + rnds c.2.length n * (c.2.length * c.2.length) := by omega
  by_cases g : rnds c.2.length n = 0
  · rw [g, Nat.zero_mul, Nat.zero_mul, Nat.sub_zero]
    refine Prod.ext rfl ?_
    show _ = List.map _ _
    rw [show (fun n : Nat => n + 0) = id from funext fun n => by simp, List.map_id]
  · have late : (c.2.length - 1) * (c.2.length - 1) + 1 ≤ n - rnds c.2.length n * (c.2.length * c.2.length) := by
      have z := Nat.div_mul_le_self (n - ((c.2.length - 1) * (c.2.length - 1) + 1)) (c.2.length * c.2.length)
      have y : 0 < n - ((c.2.length - 1) * (c.2.length - 1) + 1) := by
        refine Nat.pos_of_ne_zero fun q => g ?_
        unfold rnds
        rw [q, Nat.zero_div]
      unfold rnds
      omega
    have fr := free_late h late
    have r := it_rounds (it_ok (n - rnds c.2.length n * (c.2.length * c.2.length)) h) fr (rnds c.2.length n)
    rw [it_len] at r
    have e2 : it n c = it (rnds c.2.length n * (c.2.length * c.2.length)) (it (n - rnds c.2.length n * (c.2.length * c.2.length)) c) := by
      rw [← it_add, ← e]
    rw [e2, r]
/-- the word of a step -/
def wd (c : Cd) : Nat × Nat := (c.1, len c c.1 + 1)
def wds (n : Nat) (c : Cd) : List (Nat × Nat) := (List.range n).map fun t => wd (it t c)
theorem wds_len (n : Nat) (c : Cd) : (wds n c).length = n := by
  unfold wds
  rw [List.length_map, List.length_range]
theorem wds_succ (n : Nat) (c : Cd) : wds (n + 1) c = wds n c ++ [wd (it n c)] := by
  unfold wds
  rw [List.range_succ, List.map_append]
  rfl
end Lk
end
section
set_option maxRecDepth 100000
set_option maxHeartbeats 2000000
/-! Things as data; heaps; calls by name. -/
namespace Lk
open PySem PySem.Spec PyProof.Rows L2
mutual
/-- v is this data, all of it made in the run -/
inductive Th (H : Hp) : V → PyData → Prop
  | non : Th H .non .none
  | bl (b : Bool) : Th H (.bl b) (.bool b)
  | int (i : Int) : Th H (.int i) (.int i)
  | str (x : Str) : Th H (.str x) (.str x)
  | lst {a : Addr} {xs : List V} {ds : List PyData} (e : H a = some (.lst xs)) (m : ThAll H xs ds) : Th H (.ref a) (.list ds)
  | tup {a : Addr} {xs : List V} {ds : List PyData} (e : H a = some (.tup xs)) (m : ThAll H xs ds) : Th H (.ref a) (.tuple ds)
  | dct {a : Addr} (e : H a = some (.dK [])) : Th H (.ref a) (.dict [])
inductive ThAll (H : Hp) : List V → List PyData → Prop
  | nil : ThAll H [] []
  | cons {v : V} {vs : List V} {d : PyData} {ds : List PyData} (h : Th H v d) (m : ThAll H vs ds) : ThAll H (v :: vs) (d :: ds)
end
/-- what stands at addresses of P is as it was -/
def Keep (P : Addr → Prop) (H H2 : Hp) : Prop := ∀ b o, P b → H b = some o → H2 b = some o
mutual
theorem Th.same {H H2 : Hp} (s : Same H H2) : ∀ (d : PyData) {v : V}, Th H v d → Th H2 v d
  | .none, _, h => by cases h; exact .non
  | .bool b, _, h => by cases h; exact .bl b
  | .int i, _, h => by cases h; exact .int i
  | .str x, _, h => by cases h; exact .str x
  | .list ds, _, h => by
    cases h with
    | lst e m => exact .lst (s _ _ e) (ThAll.same s ds m)
  | .tuple ds, _, h => by
    cases h with
    | tup e m => exact .tup (s _ _ e) (ThAll.same s ds m)
  | .dict kvs, _, h => by
    cases h with
    | dct e => exact .dct (s _ _ e)
theorem ThAll.same {H H2 : Hp} (s : Same H H2) : ∀ (ds : List PyData) {vs : List V}, ThAll H vs ds → ThAll H2 vs ds
  | [], _, h => by cases h; exact .nil
  | d :: ds, _, h => by
    cases h with
    | cons a b => exact .cons (Th.same s d a) (ThAll.same s ds b)
end
mutual
theorem Th.dq {K : PySem.W.Frag} {H : Hp} : ∀ (d : PyData) {v : V}, Th H v d → Dq K H v d
  | .none, _, h => by cases h; exact .non
  | .bool b, _, h => by cases h; exact .bl b
  | .int i, _, h => by cases h; exact .int i
  | .str x, _, h => by cases h; exact .str x
  | .list ds, _, h => by
    cases h with
    | lst e m => exact .lst (SqL.of e) (ThAll.dq ds m)
  | .tuple ds, _, h => by
    cases h with
    | tup e m => exact .tup (SqT.of e) (ThAll.dq ds m)
  | .dict kvs, _, h => by
    cases h with
    | dct e => exact .dct e
theorem ThAll.dq {K : PySem.W.Frag} {H : Hp} : ∀ (ds : List PyData) {vs : List V}, ThAll H vs ds → DqAll K H vs ds
  | [], _, h => by cases h; exact .nil
  | d :: ds, _, h => by
    cases h with
    | cons a b => exact .cons (Th.dq d a) (ThAll.dq ds b)
end
theorem ThAll.length {H : Hp} : ∀ {vs : List V} {ds : List PyData}, ThAll H vs ds → vs.length = ds.length
  | _, _, .nil => rfl
  | _, _, .cons _ m => by rw [List.length_cons, List.length_cons, m.length]
theorem ThAll.get {H : Hp} : ∀ {vs : List V} {ds : List PyData}, ThAll H vs ds → ∀ {i : Nat} {v : V}, vs[i]? = some v → ∃ d, ds[i]? = some d ∧ Th H v d
  | _, _, .nil, i, v, h => by simp at h
  | _, _, .cons a m, 0, v, h => by
    cases h
    exact ⟨_, rfl, a⟩
  | _, _, .cons a m, i + 1, v, h => m.get (i := i) (by simpa using h)
theorem ThAll.get2 {H : Hp} : ∀ {vs : List V} {ds : List PyData}, ThAll H vs ds → ∀ {i : Nat} {d : PyData}, ds[i]? = some d → ∃ v, vs[i]? = some v ∧ Th H v d
  | _, _, .nil, i, v, h => by simp at h
  | _, _, .cons a m, 0, v, h => by
    cases h
    exact ⟨_, rfl, a⟩
  | _, _, .cons a m, i + 1, v, h => m.get2 (i := i) (by simpa using h)
theorem ThAll.append {H : Hp} : ∀ {vs us : List V} {ds es : List PyData}, ThAll H vs ds → ThAll H us es → ThAll H (vs ++ us) (ds ++ es)
  | _, _, _, _, .nil, h => h
  | _, _, _, _, .cons a m, h => .cons a (m.append h)
theorem ThAll.ints {H : Hp} : ∀ ns : List Int, ThAll H (ns.map V.int) (ns.map PyData.int)
  | [] => .nil
  | n :: ns => .cons (.int n) (.ints ns)
def tyN : PyData → String
  | .none => "NoneType"
  | .bool _ => "bool"
  | .int _ => "int"
  | .str _ => "str"
  | .list _ => "list"
  | .tuple _ => "tuple"
  | .dict _ => "dict"
theorem Th.ty {K : PySem.W.Frag} {H : Hp} {v : V} {d : PyData} (h : Th H v d) : TyX K H v (.type (tyN d)) := by
  cases h with
  | non => exact .base .non
  | bl b => exact .base (.bl b)
  | int i => exact .base (.int i)
  | str x => exact .base (.str x)
  | lst e m => exact .base (.lst e)
  | tup e m => exact .base (.tup e)
  | dct e => exact .base (.dK e)
def isT : PyData → Bool
  | .tuple _ => true
  | _ => false
def isL : PyData → Bool
  | .list _ => true
  | _ => false
def isI : PyData → Bool
  | .int _ => true
  | .bool _ => true
  | _ => false
def isB : PyData → Bool
  | .bool _ => true
  | _ => false
theorem kit_tuple {K : PySem.W.Frag} (d : PyData) : PySem.W.kitOne K (.type (tyN d)) (.type "tuple") = some (isT d) := kit_ty (by cases d <;> (simp only [tyN, isT]; decide +kernel))
theorem kit_list {K : PySem.W.Frag} (d : PyData) : PySem.W.kitOne K (.type (tyN d)) (.type "list") = some (isL d) := kit_ty (by cases d <;> (simp only [tyN, isL]; decide +kernel))
theorem kit_int {K : PySem.W.Frag} (d : PyData) : PySem.W.kitOne K (.type (tyN d)) (.type "int") = some (isI d) := kit_ty (by cases d <;> (simp only [tyN, isI]; decide +kernel))
theorem kit_bool {K : PySem.W.Frag} (d : PyData) : PySem.W.kitOne K (.type (tyN d)) (.type "bool") = some (isB d) := kit_ty (by cases d <;> (simp only [tyN, isB]; decide +kernel))
/-! ### heaps -/
/-- all but what stands at a is as it was -/
def SameBut (a : Addr) (H H' : Hp) : Prop := ∀ b o, b ≠ a → H b = some o → H' b = some o
theorem SameBut.trans {a : Addr} {H H1 H2 : Hp} (x : SameBut a H H1) (y : SameBut a H1 H2) : SameBut a H H2 := fun b o n e => y b o n (x b o n e)
theorem SameBut.refl {a : Addr} {H : Hp} : SameBut a H H := fun _ _ _ e => e
theorem sameBut_upd {a : Addr} {H : Hp} {o : HO} : SameBut a H (upd H a o) := fun b u n e => by rw [upd_ne n]; exact e
theorem same_new {p : Addr} {H : Hp} {o : HO} (h : H p = none) : Same H (upd H p o) := fun b u e => by rw [upd_ne (ne_of_none e h)]; exact e
theorem same_push {H H1 : Hp} {D : Addr} {o : HO} (s : Same H H1) (hD : H D = none) : Same H (upd H1 D o) := fun b u e => by
  rw [upd_ne (ne_of_none e hD)]
  exact s b u e
theorem Same.but {a : Addr} {H H' : Hp} (h : Same H H') : SameBut a H H' := fun b o _ e => h b o e
/-! ### a def that may raise, by its name -/
structure CalX (P : Program) (w : World) (K : PySem.W.Frag) (mg : Str → Option Value) (base : Heap) (k : Nat) (x : Str) (sp : Sp) : Prop where
  ex : ∃ (f : Addr) (fd : FuncData) (ps : List Str), FnOk P w K mg base (L2.CX P w) k f fd ps sp ∧ mg x = some (.ref f) ∧ PySem.W.keepIn K (.ref f) = true ∧ Binds K fd ps []
section
variable {X : Cx} {k j : Nat} {x : Str} {sp : Sp} {p pos : Pos} {e : Expr} {es : List Expr} {t : TA} {W : WX}
/-- .. what it raises is taken around -/
theorem pe_cX (c : CalX X.prog X.w X.K X.mg X.base k x sp) (tk : Takes X W) (hr : Room j X.A) (hk : k ≤ j) (hg : Gl X x) (ha : PA X (e :: es) t)
    (hdb : (x == ("__debug__" : Str)) = false := by decide) (he : starEach (e :: es) X.env = (false, eval e X.env) :: starEach es X.env := by rfl) (hpl : (backTo pos (starEach es X.env)).any (·.1) = false := by rfl) :
    PE X (.Call (.Name x p) (e :: es) [] pos) (tCallS sp (WE W) t) := by
  obtain ⟨f, fd, ps, F, hm, kp, b⟩ := c.ex
  exact pe_callS F (hr.mono hk) hg hm kp b (fun σ => passAt tk σ) ha hdb he hpl
/-- .. where it raises nothing -/
theorem pe_c0 (c : CalX X.prog X.w X.K X.mg X.base k x sp) (hr : Room j X.A) (hk : k ≤ j) (hg : Gl X x) (ha : PA X (e :: es) t)
    (hdb : (x == ("__debug__" : Str)) = false := by decide) (he : starEach (e :: es) X.env = (false, eval e X.env) :: starEach es X.env := by rfl) (hpl : (backTo pos (starEach es X.env)).any (·.1) = false := by rfl) :
    PE X (.Call (.Name x p) (e :: es) [] pos) (tCall sp [] E0 t) := by
  obtain ⟨f, fd, ps, F, hm, kp, b⟩ := c.ex
  exact pe_call F (hr.mono hk) hg hm kp b .nil passL ha hdb he hpl
end
/-- a class of the program's own over ValueError, as the top has written it -/
structure ErrC (K : PySem.W.Frag) (mg : Str → Option Value) (x : Str) (C : Addr) : Prop where
  g : mg x = some (.ref C)
  k : PySem.W.keepIn K (.ref C) = true
  x : PySem.W.excIn K C [.type "ValueError", .type "Exception", .type "BaseException", .type "object"] "ValueError.__new__" = true
  b : PySem.W.subIn K (.ref C) (.type "BaseException") = some true
  t : PySem.W.typeIn K (.ref C) = some (.type "type")
/-! ### rules that name the written part, for use within a comprehension -/
def rLenS (K : PySem.W.Frag) : List V → Hp → VK → Prop := fun xs H Q => ∃ p ys, xs = [.ref p] ∧ (SqL K H p ys ∨ SqT K H p ys) ∧ Q (.int ((ys.length : Nat) : Int)) H
theorem call_lenK {X : Cx} {K : PySem.W.Frag} (h : X.K = K) : CallR X (.builtin "len") (rLenS K) := by
  subst h
  exact call_len_seq
theorem ix_tupK {X : Cx} {K : PySem.W.Frag} (h : X.K = K) : IxR X (rIxT K) := by
  subst h
  exact ix_tup
theorem ix_listK {X : Cx} {K : PySem.W.Frag} (h : X.K = K) : IxR X (rIxL K) := by
  subst h
  exact ix_list
/-- a comprehension that gathers truths, its list at D -/
theorem snoc_bl {H4 : Hp} {D : Addr} {bs : List Bool} {i : Nat} {b : Bool} (e : H4 D = some (.lst ((bs.take i).map V.bl))) (hb : bs[i]? = some b) (hl : bs.length ≤ 100000) :
    ∃ acc, H4 D = some (.lst acc) ∧ acc.length < sizeLine ∧ upd H4 D (.lst (acc ++ [V.bl b])) D = some (.lst ((bs.take (i + 1)).map V.bl)) ∧ acc = (bs.take i).map V.bl := by
  refine ⟨_, e, ?_, ?_, rfl⟩
  · rw [List.length_map, List.length_take]
    exact Nat.lt_of_le_of_lt (show min i bs.length ≤ 100000 by omega) (by decide)
  · rw [upd_same, List.take_add_one, hb, List.map_append]
    rfl
/-- a comprehension that gathers, its list at D -/
theorem snoc_map {α : Type} {f : α → V} {H4 : Hp} {D : Addr} {l : List α} {i : Nat} {x : α} (e : H4 D = some (.lst ((l.take i).map f))) (hx : l[i]? = some x) (hl : l.length ≤ 1000000) :
    ∃ acc, H4 D = some (.lst acc) ∧ acc.length < sizeLine ∧ upd H4 D (.lst (acc ++ [f x])) D = some (.lst ((l.take (i + 1)).map f)) := by
  refine ⟨_, e, ?_, ?_⟩
  · rw [List.length_map, List.length_take]
    exact Nat.lt_of_le_of_lt (show min i l.length ≤ 1000000 by omega) (by decide)
  · rw [upd_same, List.take_add_one, hx, List.map_append]
    rfl
theorem cut_to {xs : List V} {n : Nat} (h : n ≤ xs.length) : cutV xs none (some (n : Int)) = xs.take n := by
  unfold cutV
  rw [HT.sIx_none, HT.sIx_nat]
  show (xs.drop 0).take (min n xs.length - 0) = _
  rw [List.drop_zero, Nat.sub_zero, Nat.min_eq_left h]
theorem cut_from {xs : List V} {n : Nat} : cutV xs (some (n : Int)) none = xs.drop n := by
  unfold cutV
  rw [HT.sIx_none, HT.sIx_nat]
  by_cases h : n ≤ xs.length
  · rw [Nat.min_eq_left h]
    exact List.take_of_length_le (by rw [List.length_drop]; omega)
  · rw [Nat.min_eq_right (by omega), List.drop_length, List.drop_eq_nil_of_le (by omega)]
    exact List.take_nil
end Lk
end
section
set_option maxRecDepth 100000
set_option maxHeartbeats 2000000
/-! kinds, is_coder of anything, next_coder. -/
namespace Lk
open PySem PySem.Spec PyProof.Rows L2
abbrev vN (n : Nat) : V := .int (n : Int)
abbrev dN (n : Nat) : PyData := .int (n : Int)
def isW : PyData → Bool
  | .int _ => true
  | _ => false
def inR : PyData → Int → Int → Bool
  | .int i, a, b => decide (a ≤ i) && decide (i ≤ b)
  | _, _, _ => false
def natD : PyData → Bool
  | .int i => decide (0 ≤ i)
  | _ => false
def isCd : PyData → Bool
  | .tuple [p, .tuple ls] => (decide (1 ≤ ls.length) && decide (ls.length ≤ 12)) && (inR p 0 ((ls.length : Int) - 1) && ls.all natD)
  | _ => false
section
variable {P : Program} {w : World} {K : PySem.W.Frag} {mg : Str → Option Value} {base : Heap}
def spWhole : Sp := fun vs H Q _ => ∃ v d, vs = [v] ∧ Th H v d ∧ Q (.bl (isW d)) H
def spWithin : Sp := fun vs H Q _ => ∃ v d a b, vs = [v, .int a, .int b] ∧ Th H v d ∧ Q (.bl (inR d a b)) H
/-- which bounds are asked -/
def Asked (a b : Int) : Prop := a = 0 ∧ b = 2000 ∨ a = 0 ∧ b = 10 ^ 18 ∨ a = 1 ∧ b = 12 ∨ a = 1 ∧ b = 6 ∨ a = 1 ∧ b = 10 ^ 18 ∨ a = 0 ∧ b = 10 ^ 36
def spCount (C : Addr) : Sp := fun vs H Q E => ∃ v d a b, vs = [v, .int a, .int b] ∧ Asked a b ∧ Th H v d ∧ (inR d a b = true → Q .non H) ∧ (inR d a b = false → E (.ref C) none H)
/-! ### coders -/
/-- the coder c stands at v -/
def Cat (H : Hp) (v : V) (c : Cd) : Prop := ∃ a b, v = .ref a ∧ H a = some (.tup [.int (c.1 : Int), .ref b]) ∧ H b = some (.tup (c.2.map vN))
theorem Cat.same {H H2 : Hp} {v : V} {c : Cd} (s : Same H H2) (h : Cat H v c) : Cat H2 v c := by
  obtain ⟨a, b, e, h1, h2⟩ := h
  exact ⟨a, b, e, s _ _ h1, s _ _ h2⟩
def cdD (c : Cd) : PyData := .tuple [.int (c.1 : Int), .tuple (c.2.map dN)]
def CdOk (c : Cd) : Prop := COk c ∧ c.2.length ≤ 12
theorem CdOk.pos {c : Cd} (h : CdOk c) : 0 < c.2.length := Nat.lt_of_le_of_lt (Nat.zero_le _) h.1
theorem ints_nat {H : Hp} : ∀ ls : List Nat, ThAll H (ls.map vN) (ls.map dN)
  | [] => .nil
  | n :: ls => .cons (.int n) (ints_nat ls)
theorem nat_ints {H : Hp} : ∀ {vs : List V} {ls : List Nat}, ThAll H vs (ls.map dN) → vs = ls.map vN
  | _, [], h => by cases h; rfl
  | _, n :: ls, h => by
    cases h with
    | cons a m =>
      cases a
      rw [nat_ints m]
      rfl
theorem Cat.th {H : Hp} {v : V} {c : Cd} (h : Cat H v c) : Th H v (cdD c) := by
  obtain ⟨a, b, rfl, h1, h2⟩ := h
  exact .tup h1 (.cons (.int _) (.cons (.tup h2 (ints_nat c.2)) .nil))
theorem Th.cat {H : Hp} {v : V} {c : Cd} (h : Th H v (cdD c)) : Cat H v c := by
  unfold cdD at h
  cases h with
  | tup e m =>
    cases m with
    | cons a m =>
      cases m with
      | cons b m =>
        cases m
        cases a
        cases b with
        | tup e2 m2 =>
          rw [nat_ints m2] at e2
          exact ⟨_, _, rfl, e, e2⟩
theorem nats_of : ∀ {ds : List PyData}, ds.all natD = true → ∃ ls : List Nat, ds = ls.map dN
  | [], _ => ⟨[], rfl⟩
  | d :: ds, h => by
    rw [List.all_cons, Bool.and_eq_true] at h
    obtain ⟨ls, rfl⟩ := nats_of h.2
    cases d with
    | int i =>
      have z : 0 ≤ i := of_decide_eq_true h.1
      exact ⟨i.toNat :: ls, by rw [List.map_cons]; show _ = PyData.int _ :: _; rw [Int.toNat_of_nonneg z]⟩
    | _ => cases h.1
theorem isCd_of {d : PyData} (h : isCd d = true) : ∃ c, d = cdD c ∧ CdOk c := by
  unfold isCd at h
  split at h
  · rename_i p ls
    rw [Bool.and_eq_true, Bool.and_eq_true, Bool.and_eq_true, decide_eq_true_eq, decide_eq_true_eq] at h
    obtain ⟨⟨h1, h2⟩, h3, h4⟩ := h
    obtain ⟨ns, rfl⟩ := nats_of h4
    rw [List.length_map] at h1 h2 h3
    cases p with
    | int i =>
      have z : (decide (0 ≤ i) && decide (i ≤ (ns.length : Int) - 1)) = true := h3
      rw [Bool.and_eq_true, decide_eq_true_eq, decide_eq_true_eq] at z
      exact ⟨(i.toNat, ns), by unfold cdD; rw [Int.toNat_of_nonneg z.1], by show i.toNat < ns.length; omega, h2⟩
    | _ => cases h3
  · cases h
theorem natD_all : ∀ ls : List Nat, (ls.map dN).all natD = true
  | [] => rfl
  | n :: ls => by
    rw [List.map_cons, List.all_cons, natD_all ls, Bool.and_true]
    exact decide_eq_true (show (0 : Int) ≤ (n : Int) by omega)
theorem isCd_cdD {c : Cd} (h : CdOk c) : isCd (cdD c) = true := by
  have h1 : c.1 < c.2.length := h.1
  have h2 := h.2
  show ((decide (1 ≤ _) && decide (_ ≤ 12)) && (inR (.int (c.1 : Int)) 0 _ && List.all _ natD)) = true
  rw [List.length_map, natD_all, Bool.and_true, decide_eq_true (show 1 ≤ c.2.length by omega), decide_eq_true h2]
  show ((true && true) && (decide ((0 : Int) ≤ (c.1 : Int)) && decide ((c.1 : Int) ≤ (c.2.length : Int) - 1))) = true
  rw [decide_eq_true (by omega), decide_eq_true (by omega)]
  rfl
def spIsCoder : Sp := fun vs H Q _ => ∃ v d, vs = [v] ∧ Th H v d ∧ ∀ H', Same H H' → Q (.bl (isCd d)) H'
theorem isCd_two {ds : List PyData} (h : ds.length ≠ 2) : isCd (.tuple ds) = false := by
  unfold isCd
  split
  · rename_i e
    cases e
    exact absurd rfl h
  · rfl
theorem isCd_no {p l : PyData} (h : isT l = false) : isCd (.tuple [p, l]) = false := by
  cases l <;> first | rfl | (cases h)
end
end Lk
end
section
set_option maxRecDepth 100000
set_option maxHeartbeats 2000000
/-! refuse_no_coder, next_coder, step, words_of, behind. -/
namespace Lk
open PySem PySem.Spec PyProof.Rows L2
/-- a slice of a tuple, new or not -/
def rCut (K : PySem.W.Frag) : V → Option Int → Option Int → Hp → VK → Prop := fun x lo hi H Q => ∃ a xs, x = .ref a ∧ SqT K H a xs ∧ ∀ b H', Same H H' → SqT K H' b (cutV xs lo hi) → (H' b = none ∨ H' b = some (.tup (cutV xs lo hi)) ∨ True) → Q (.ref b) H'
theorem sl_cut {X : Cx} : SlR X (rCut X.K) := by
  intro pins s σ H x v vl vu lo hi sl Q I rx hs pl pu h
  obtain ⟨a, xs, rfl, hx, q⟩ := h
  refine sl_tupA pins s σ H _ v vl vu _ _ sl Q I rx hs pl pu ⟨a, xs, rfl, hx, fun z => ?_, fun z p hp => ?_⟩
  · refine q a H (Same.refl H) ?_ (.inr (.inr trivial))
    have e : cutV xs lo hi = xs := by
      unfold cutV
      rw [z.1, z.2, List.drop_zero, Nat.sub_zero, List.take_length]
    rw [e]
    exact hx
  · exact q p _ (same_new hp) (.inl (.inl upd_same)) (.inr (.inr trivial))
theorem set_cut (l : List Nat) (i v : Nat) (h : i < l.length) : l.take i ++ v :: l.drop (i + 1) = l.set i v := by
  rw [List.set_eq_take_append_cons_drop, if_pos h]
theorem nat_at {l : List Nat} {i : Nat} (h : i < l.length) : (l.map vN)[i]? = some (V.int ((l.getD i 0 : Nat) : Int)) := by
  rw [List.getElem?_map, List.getD_eq_getElem?_getD, List.getElem?_eq_getElem h]
  rfl
/-- no list, no dict in it -/
def noL : PyData → Bool
  | .list _ => false
  | .dict _ => false
  | .tuple ds => noLs ds
  | _ => true
where noLs : List PyData → Bool
  | [] => true
  | d :: ds => noL d && noLs ds
mutual
theorem Th.but {H H2 : Hp} {W : Addr} {ws : List V} (hW : H W = some (.lst ws)) (s : SameBut W H H2) : ∀ (d : PyData) {v : V}, noL d = true → Th H v d → Th H2 v d
  | .none, _, _, h => by cases h; exact .non
  | .bool b, _, _, h => by cases h; exact .bl b
  | .int i, _, _, h => by cases h; exact .int i
  | .str x, _, _, h => by cases h; exact .str x
  | .list ds, _, n, _ => by cases n
  | .tuple ds, _, n, h => by
    cases h with
    | tup e m => exact .tup (s _ _ (fun z => by rw [z, hW] at e; cases e) e) (ThAll.but hW s ds n m)
  | .dict kvs, _, n, h => by cases n
theorem ThAll.but {H H2 : Hp} {W : Addr} {ws : List V} (hW : H W = some (.lst ws)) (s : SameBut W H H2) : ∀ (ds : List PyData) {vs : List V}, noL.noLs ds = true → ThAll H vs ds → ThAll H2 vs ds
  | [], _, _, h => by cases h; exact .nil
  | d :: ds, _, n, h => by
    have n2 : (noL d && noL.noLs ds) = true := n
    rw [Bool.and_eq_true] at n2
    cases h with
    | cons a b => exact .cons (Th.but hW s d n2.1 a) (ThAll.but hW s ds n2.2 b)
end
theorem noLs_append {ds es : List PyData} (a : noL.noLs ds = true) (b : noL.noLs es = true) : noL.noLs (ds ++ es) = true := by
  induction ds with
  | nil => exact b
  | cons d ds ih =>
    have n2 : (noL d && noL.noLs ds) = true := a
    rw [Bool.and_eq_true] at n2
    show (noL d && noL.noLs (ds ++ es)) = true
    rw [n2.1, ih n2.2]
    rfl
theorem noLs_map {α : Type} {f : α → PyData} (h : ∀ x, noL (f x) = true) : ∀ l : List α, noL.noLs (l.map f) = true
  | [] => rfl
  | x :: l => by
    show (noL (f x) && noL.noLs (l.map f)) = true
    rw [h, noLs_map h l]
    rfl
theorem noL_cdD (c : Cd) : noL (cdD c) = true := by
  show (true && (noL.noLs _ && true)) = true
  rw [noLs_map (f := dN) (fun _ => rfl) c.2]
  rfl
theorem Cat.but {H H2 : Hp} {W : Addr} {ws : List V} {v : V} {c : Cd} (hW : H W = some (.lst ws)) (s : SameBut W H H2) (h : Cat H v c) : Cat H2 v c := (Th.but hW s (cdD c) (noL_cdD c) h.th).cat
def dW (w : Nat × Nat) : PyData := .tuple [dN w.1, dN w.2]
theorem noL_dW (w : Nat × Nat) : noL (dW w) = true := rfl
section
variable {P : Program} {w : World} {K : PySem.W.Frag} {mg : Str → Option Value} {base : Heap}
def spRefCoder (C : Addr) : Sp := fun vs H Q E => ∃ v d, vs = [v] ∧ Th H v d ∧ (isCd d = true → ∀ H', Same H H' → Q .non H') ∧ (isCd d = false → ∀ H', Same H H' → E (.ref C) none H')
/-- the lengths with one word more at a place -/
def spLonger : Sp := fun vs H Q _ => ∃ (b : Addr) (ls : List Nat) (p : Nat), vs = [.ref b, .int (p : Int)] ∧ H b = some (.tup (ls.map vN)) ∧ p < ls.length ∧ ls.length ≤ 12 ∧ ∀ b' H', Same H H' → H' b' = some (.tup ((ls.set p (ls.getD p 0 + 1)).map vN)) → Q (.ref b') H'
/-- so many rounds later: the lengths are as much more -/
def spLater : Sp := fun vs H Q _ => ∃ v c m, vs = [v, .int ((m : Nat) : Int)] ∧ Cat H v c ∧ CdOk c ∧ ∀ v' H', Same H H' → Cat H' v' (c.1, c.2.map (· + m * c.2.length)) → Q v' H'
def spTill : Sp := fun vs H Q _ => ∃ p : Nat, vs = [.int (p : Int)] ∧ 1 ≤ p ∧ p ≤ 12 ∧ Q (.int (((p - 1) * (p - 1) + 1 : Nat) : Int)) H
def spNext : Sp := fun vs H Q _ => ∃ v c, vs = [v] ∧ Cat H v c ∧ CdOk c ∧ ∀ v' H', Same H H' → Cat H' v' (nx c) → Q v' H'
end
end Lk
end
section
set_option maxRecDepth 100000
set_option maxHeartbeats 2000000
namespace Lk
open PySem PySem.Spec PyProof.Rows L2
theorem it_cdOk {c : Cd} (n : Nat) (h : CdOk c) : CdOk (it n c) := ⟨it_ok n h.1, by rw [it_len]; exact h.2⟩
theorem nx_cdOk {c : Cd} (h : CdOk c) : CdOk (nx c) := it_cdOk 1 h
theorem dW_at {H : Hp} {t : Addr} {a b : Nat} (e : H t = some (.tup [.int (a : Int), .int (b : Int)])) : Th H (.ref t) (dW (a, b)) := .tup e (.cons (.int _) (.cons (.int _) .nil))
section
variable {P : Program} {w : World} {K : PySem.W.Frag} {mg : Str → Option Value} {base : Heap}
/-- NoCoder, then NoCount of a number beyond m; else what is told of the coder and the number -/
def spOf (C1 C2 : Addr) (m : Nat) (told : Cd → Nat → VK → Hp → Prop) : Sp := fun vs H Q E => ∃ v u d e, vs = [v, u] ∧ Th H v d ∧ Th H u e ∧ (isCd d = false → ∀ H', Same H H' → E (.ref C1) none H') ∧
  (isCd d = true → inR e 0 m = false → ∀ H', Same H H' → E (.ref C2) none H') ∧ (∀ c (n : Nat), d = cdD c → CdOk c → e = .int n → n ≤ m → told c n Q H)
def toldWords (c : Cd) (n : Nat) (Q : VK) (H : Hp) : Prop := ∀ p H' ws, H p = none → Same H H' → H' p = some (.lst ws) → ThAll H' ws ((wds n c).map dW) → Q (.ref p) H'
def toldCoder (c : Cd) (n : Nat) (Q : VK) (H : Hp) : Prop := ∀ v H', Same H H' → Cat H' v (it n c) → Q v H'
theorem count_of {e : PyData} {m : Nat} (h : inR e 0 m = true) : ∃ n : Nat, e = .int n ∧ n ≤ m := by
  cases e with
  | int i =>
    have z : (decide ((0 : Int) ≤ i) && decide (i ≤ (m : Int))) = true := h
    rw [Bool.and_eq_true, decide_eq_true_eq, decide_eq_true_eq] at z
    exact ⟨i.toNat, by rw [Int.toNat_of_nonneg z.1], by omega⟩
  | _ => cases h
end
end Lk
end
section
set_option maxRecDepth 100000
set_option maxHeartbeats 2000000
/-! last_goings, ring_from, ring. -/
namespace Lk
open PySem PySem.Spec PyProof.Rows L2
def gos (c : Cd) : List Nat := (List.range c.2.length).map (go c)
theorem gos_len (c : Cd) : (gos c).length = c.2.length := by
  unfold gos
  rw [List.length_map, List.length_range]
theorem gos_at {c : Cd} {i : Nat} (h : i < c.2.length) : (gos c)[i]? = some (go c i) := by
  unfold gos
  rw [List.getElem?_map, List.getElem?_range h]
  rfl
theorem inV_nat (k : Nat) : ∀ l : List Nat, inV (vN k) (l.map vN) = decide (k ∈ l)
  | [] => rfl
  | x :: l => by
    show ((x : Int) == (k : Int) || inV (vN k) (l.map vN)) = _
    rw [inV_nat k l]
    by_cases e : k = x
    · rw [e, decide_eq_true List.mem_cons_self, beq_self_eq_true, Bool.true_or]
    · have e2 : ((x : Int) == (k : Int)) = false := beq_eq_false_iff_ne.mpr fun z => e (by omega)
      rw [e2, Bool.false_or]
      by_cases m : k ∈ l
      · rw [decide_eq_true m, decide_eq_true (List.mem_cons_of_mem _ m)]
      · rw [decide_eq_false m, decide_eq_false fun z => (List.mem_cons.mp z).elim e m]
theorem flat_nat : ∀ l : List Nat, (l.map vN).all flatV = true
  | [] => rfl
  | x :: l => by
    rw [List.map_cons, List.all_cons, flat_nat l]
    rfl
section
variable {P : Program} {w : World} {K : PySem.W.Frag} {mg : Str → Option Value} {base : Heap}
def spLast : Sp := fun vs H Q _ => ∃ v c, vs = [v] ∧ Cat H v c ∧ CdOk c ∧ ∀ p H', H p = none → Same H H' → H' p = some (.lst ((gos c).map vN)) → Q (.ref p) H'
/-- a list of places, new, or None -/
def ListV (H H' : Hp) (v : V) : Option (List Nat) → Prop
  | none => v = .non
  | some l => ∃ p, v = .ref p ∧ H p = none ∧ H' p = some (.lst (l.map vN))
def spRingFrom : Sp := fun vs H Q _ => ∃ (v : V) (c : Cd) (a : Nat), vs = [v, .int (a : Int)] ∧ Cat H v c ∧ CdOk c ∧ a < c.2.length ∧ ∀ r v' H', RingFrom c a r → Same H H' → ListV H H' v' r → Q v' H'
theorem ringL_one (c : Cd) (a : Nat) : ringL c a 1 = [a] := rfl
theorem ringL_len (c : Cd) (a k : Nat) : (ringL c a k).length = k := by
  unfold ringL
  rw [List.length_map, List.length_range]
end
end Lk
end
section
set_option maxRecDepth 100000
set_option maxHeartbeats 2000000
/-! ring, in_round, enter_round, ahead, round_of. -/
namespace Lk
open PySem PySem.Spec PyProof.Rows L2
theorem bl_iff {b : Bool} {A : Prop} (h : b = true ↔ A) : ∀ {a : Bool}, (a = true ↔ A) → a = b := fun {a} g => by
  cases a with
  | true => exact (h.mpr (g.mp rfl)).symm
  | false =>
    cases b with
    | false => rfl
    | true => exact absurd (g.mpr (h.mp rfl)) Bool.false_ne_true
theorem cdD_inj {x y : Cd} (e : cdD x = cdD y) : x = y := by
  unfold cdD at e
  injection e with e
  injection e with e1 e
  injection e with e2 _
  injection e1 with e1
  injection e2 with e2
  refine Prod.ext (by omega) ?_
  refine List.map_inj_right (f := dN) (fun a b h => ?_) |>.mp e2
  injection h with h
  omega
theorem dW_of {H : Hp} {v : V} {x : Nat × Nat} (h : Th H v (dW x)) : ∃ t, v = .ref t ∧ H t = some (.tup [.int (x.1 : Int), .int (x.2 : Int)]) := by
  cases h with
  | tup e m =>
    cases m with
    | cons a m =>
      cases m with
      | cons b m =>
        cases m
        cases a
        cases b
        exact ⟨_, rfl, e⟩
theorem ListV.at {H H1 H2 : Hp} {v : V} {r : Option (List Nat)} (s : Same H1 H2) (h : ListV H H1 v r) : ListV H H2 v r := by
  cases r with
  | none => exact h
  | some l =>
    obtain ⟨p, e, n, q⟩ := h
    exact ⟨p, e, n, s _ _ q⟩
theorem ListV.from {H H1 H2 : Hp} {v : V} {r : Option (List Nat)} (s : Same H H1) (h : ListV H1 H2 v r) : ListV H H2 v r := by
  cases r with
  | none => exact h
  | some l =>
    obtain ⟨p, e, n, q⟩ := h
    exact ⟨p, e, s.free n, q⟩
section
variable {P : Program} {w : World} {K : PySem.W.Frag} {mg : Str → Option Value} {base : Heap}
/-- NoCoder of what is none; else what is told of the coder -/
def spOne (C : Addr) (told : Cd → VK → Hp → Prop) : Sp := fun vs H Q E => ∃ v d, vs = [v] ∧ Th H v d ∧ (isCd d = false → ∀ H', Same H H' → E (.ref C) none H') ∧ (∀ c, d = cdD c → CdOk c → told c Q H)
def toldRing (c : Cd) (Q : VK) (H : Hp) : Prop := ∀ r v H', RingOf c r → Same H H' → ListV H H' v r → Q v H'
def toldIn (c : Cd) (Q : VK) (H : Hp) : Prop := ∀ b H', (b = true ↔ Free c) → Same H H' → Q (.bl b) H'
def toldEnter (c : Cd) (Q : VK) (H : Hp) : Prop := ∀ n v p H', Ahead c n → Same H H' → Cat H' v (it n c) → H' p = some (.tup [.int (n : Int), v]) → Q (.ref p) H'
def toldAhead (c : Cd) (Q : VK) (H : Hp) : Prop := ∀ (n : Nat) H', Ahead c n → Same H H' → Q (.int (n : Int)) H'
def toldRound (c : Cd) (Q : VK) (H : Hp) : Prop := ∀ n p H' ws, Ahead c n → H p = none → Same H H' → H' p = some (.lst ws) → ThAll H' ws ((wds (c.2.length * c.2.length) (it n c)).map fun x => dW (x.1, x.2 % c.2.length)) → Q (.ref p) H'
end
end Lk
end
section
namespace Lk
open PySem PySem.Spec PyProof.Rows L2
def top (i : Nat) : Stmt := PySem.Challenge.pw_looplearn_k59_coders_as_texts.main.body.getD i (.Pass ⟨0, 0, 0, 0⟩)
abbrev s_is_whole : Stmt := top 5
abbrev s_is_within : Stmt := top 6
abbrev s_is_coder : Stmt := top 9
abbrev s_refuse_no_coder : Stmt := top 10
abbrev s_with_blanks : Stmt := top 13
abbrev s_read_number : Stmt := top 14
abbrev s_show_coder : Stmt := top 15
abbrev s_read_coder : Stmt := top 16
abbrev s_law_pail : Stmt := top 18
abbrev s_law_dip : Stmt := top 19
abbrev s_law_same : Stmt := top 20
abbrev s_law_coder : Stmt := top 21
abbrev s_law_written : Stmt := top 22
abbrev s_law : Stmt := top 23
end Lk
end
section
set_option maxRecDepth 100000
set_option maxHeartbeats 2000000
namespace Lk
open PySem PySem.Spec PyProof.Rows L2
section
variable {P : Program} {w : World} {K : PySem.W.Frag} {mg : Str → Option Value} {base : Heap}
theorem sc_whole : FnScope ["thing"] ["thing"] (defScope s_is_whole) := ⟨rfl, rfl, rfl, by decide +kernel, rfl, by decide +kernel, by decide +kernel⟩
theorem ok_whole {f : Addr} {fd : FuncData} (F : Fun K "is_whole" "is_whole" s_is_whole f fd) (mi : mg "isinstance" = none) (mn : mg "int" = none) (mb : mg "bool" = none) : FnOk P w K mg base CX0 1 f fd ["thing"] spWhole := by
  refine F.ok sc_whole (fun vs H Q E h => ?_) (fun cdv A outer s H vs Q E hr h => ?_)
  · obtain ⟨v, d, rfl, _⟩ := h
    rfl
  · obtain ⟨v, d, rfl, hv, q⟩ := h
    refine ⟨_, pss_one (ps_ret (pe_and (pe_callB call_isi (by rfl) mi (by decide +kernel) (pa_cons (pv 0) (pa_cons (pe_bltn (v := .ty "int") (by rfl) mn (by decide +kernel) rfl) pa_nil)))
      (pe_one (pe_not (pe_callB call_isi (by rfl) mi (by decide +kernel) (pa_cons (pv 0) (pa_cons (pe_bltn (v := .ty "bool") (by rfl) mb (by decide +kernel) rfl) pa_nil))))))), ?_⟩
    refine ⟨_, rfl, v, .ty "int", _, _, isI d, rfl, .ty _, hv.ty, kit_int d, _, rfl, ?_⟩
    cases hI : isI d with
    | false =>
      have e : isW d = false := by cases d <;> first | rfl | (cases hI)
      rw [e] at q
      exact q
    | true =>
      refine ⟨_, rfl, v, .ty "bool", _, _, isB d, rfl, .ty _, hv.ty, kit_bool d, _, rfl, ?_⟩
      have e : isW d = !isB d := by cases d <;> first | rfl | (cases hI)
      rw [e] at q
      exact q
end
end Lk
end
section
set_option maxRecDepth 100000
set_option maxHeartbeats 2000000
namespace Lk
open PySem PySem.Spec PyProof.Rows L2
section
variable {P : Program} {w : World} {K : PySem.W.Frag} {mg : Str → Option Value} {base : Heap}
theorem sc_within : FnScope ["thing", "least", "most"] ["thing", "least", "most"] (defScope s_is_within) := ⟨rfl, rfl, rfl, by decide +kernel, rfl, by decide +kernel, by decide +kernel⟩
theorem ok_within {f : Addr} {fd : FuncData} (F : Fun K "is_within" "is_within" s_is_within f fd) (cw : C8.Cal P w K mg base 1 "is_whole" spWhole []) : FnOk P w K mg base CX0 2 f fd ["thing", "least", "most"] spWithin := by
  refine F.ok sc_within (fun vs H Q E h => ?_) (fun cdv A outer s H vs Q E hr h => ?_)
  · obtain ⟨v, d, a, b, rfl, _⟩ := h
    rfl
  · obtain ⟨v, d, a, b, rfl, hv, q⟩ := h
    refine ⟨_, pss_one (by exact (ps_ret (pe_and (C8.pe_c cw hr (Nat.le_refl _) rfl (pa_cons (pv 0) pa_nil)) (pe_one (pe_chain op_le op_le (pv 1) (pv 0) (pv 2)))))), ?_⟩
    refine ⟨_, rfl, v, d, rfl, hv, _, rfl, ?_⟩
    cases hv with
    | int i =>
      refine ⟨_, rfl, _, rfl, _, _, rfl, rfl, _, rfl, ?_⟩
      have e : inR (.int i) a b = (decide (a ≤ i) && decide (i ≤ b)) := rfl
      rw [e] at q
      refine ite2 (fun g => ?_) (fun g => ?_)
      · refine ⟨_, rfl, _, _, rfl, rfl, ?_⟩
        rw [g, Bool.true_and] at q
        exact q
      · rw [Bool.eq_false_iff.mpr g, Bool.false_and] at q
        exact q
    | _ => exact q
end
end Lk
end
section
set_option maxRecDepth 100000
set_option maxHeartbeats 2000000
namespace Lk
open PySem PySem.Spec PyProof.Rows L2
section
variable {P : Program} {w : World} {K : PySem.W.Frag} {mg : Str → Option Value} {base : Heap}
abbrev nIC : List Str := ["thing", "place", "lengths", "length"]
theorem sc_isCoder : FnScope nIC ["thing"] (defScope s_is_coder) := ⟨rfl, rfl, rfl, by decide +kernel, rfl, by decide +kernel, by decide +kernel⟩
theorem ok_isCoder {f : Addr} {fd : FuncData} (F : Fun K "is_coder" "is_coder" s_is_coder f fd) (cw : C8.Cal P w K mg base 1 "is_whole" spWhole []) (ci : C8.Cal P w K mg base 2 "is_within" spWithin [])
    (mi : mg "isinstance" = none) (mt : mg "tuple" = none) (ml : mg "len" = none) (ma : mg "all" = none) {tp : Tok} (mp : mg "MOST_PLACES" = some (.int 12 tp)) : FnOk P w K mg base CX0 3 f fd ["thing"] spIsCoder := by
  refine F.ok sc_isCoder (fun vs H Q E h => ?_) (fun cdv A outer s H vs Q E hr h => ?_)
  · obtain ⟨v, d, rfl, _⟩ := h
    rfl
  · obtain ⟨v, d, rfl, hv, q⟩ := h
    have nd := sc_isCoder.nd
    refine ⟨_, pss_cons (by exact (ps_if (PW.pt (pw_or (pt_not (pt_val (pe_callB call_isi (by rfl) mi (by decide +kernel) (pa_cons (pv 0) (pa_cons (pe_bltn (v := .ty "tuple") (by rfl) mt (by decide +kernel) rfl) pa_nil)))))
        (pw_or1 (pt_cmpR op_ne (pe_callB call_len_seq (by rfl) ml PySem.boot_len (pa_cons (pv 0) pa_nil)) pe_int (nomark _))))) (pss_one (ps_ret pe_bl)) pss_nil))
      (pss_cons (by exact (ps_asg (pv 0) (pg_tup rfl (pgs_cons (pg_name (i := 1) nd rfl (Or.inl rfl)) (pgs_cons (pg_name (i := 2) nd rfl (Or.inl rfl)) pgs_nil)))))
      (pss_cons (by exact (ps_if (PW.pt (pw_or (pt_not (pt_val (pe_callB call_isi (by rfl) mi (by decide +kernel) (pa_cons (pv 2) (pa_cons (pe_bltn (v := .ty "tuple") (by rfl) mt (by decide +kernel) rfl) pa_nil)))))
        (pw_or1 (pt_not (pt_chain op_le op_le pe_int (pe_callB call_len_seq (by rfl) ml PySem.boot_len (pa_cons (pv 2) pa_nil)) (pe_glob (v := .int 12) rfl mp ⟨_, rfl⟩)))))) (pss_one (ps_ret pe_bl)) pss_nil))
      (pss_cons (by exact (ps_if (pt_not (pt_val (C8.pe_c ci hr (by decide) rfl (pa_cons (pv 1) (pa_cons pe_int (pa_cons (pe_op op_sub (pe_callB call_len_seq (by rfl) ml PySem.boot_len (pa_cons (pv 2) pa_nil)) pe_int) pa_nil)))))) (pss_one (ps_ret pe_bl)) pss_nil))
      (pss_one (by exact (ps_ret (pe_callB (cr_all rfl) (by rfl) ma (by decide +kernel) (pa_cons (pe_lc (own := [("length", 3)]) (g := gName 3) (tt := tYes) rfl nd (pi_tup (pv 2)) (blkOk_by (N := nIC) (sc := defScope s_is_coder) (by decide +kernel))
          (fun _ _ _ _ _ => pg_name (i := 3) nd rfl (Or.inl rfl)) (fun _ _ _ _ _ => pts_nil) (fun _ _ _ _ _ => pe_and (C8.pe_c cw hr (by decide) rfl (pa_cons (pv 3) pa_nil)) (pe_one (pe_cmpR op_ge (pv 3) pe_int (nomark _))))) pa_nil)))))))), ?_⟩
    refine ⟨_, rfl, v, .ty "tuple", _, _, isT d, rfl, .ty _, hv.ty, kit_tuple d, _, rfl, ?_⟩
    cases hT : isT d with
    | false =>
      have e : isCd d = false := by cases d <;> first | rfl | (cases hT)
      rw [e] at q
      exact q H (Same.refl H)
    | true =>
      cases hv with
      | tup ea ma =>
        rename_i a xs ds
        refine ⟨_, rfl, a, xs, rfl, .inr (SqT.of ea), rfl, _, rfl, ite2 (fun g => ?_) (fun g => ?_)⟩
        · have z : xs.length ≠ 2 := fun z => by
            rw [z] at g
            cases g
          have e : isCd (.tuple ds) = false := isCd_two fun z2 => z (by rw [ma.length, z2])
          rw [e] at q
          exact q H (Same.refl H)
        · have z : xs.length = 2 := Classical.byContradiction fun z => g (by
            rw [Bool.not_eq_true', decide_eq_false_iff_not]
            intro y
            exact z (by have := V.int.inj y; omega))
          cases ma with
          | nil => cases z
          | cons hp m1 =>
            rename_i xp xs1 dp ds1
            cases m1 with
            | nil => cases z
            | cons hl m2 =>
              rename_i xl xs2 dl ds2
              cases m2 with
              | cons _ m3 => exact absurd z (by simp only [List.length_cons]; omega)
              | nil =>
                refine ⟨_, rfl, a, [xp, xl], rfl, SqT.of ea, rfl, _, _, rfl, _, _, rfl, rfl, ?_⟩
                refine ⟨_, rfl, xl, .ty "tuple", _, _, isT dl, rfl, .ty _, hl.ty, kit_tuple dl, _, rfl, ?_⟩
                cases hT2 : isT dl with
                | false =>
                  rw [isCd_no hT2] at q
                  exact q H (Same.refl H)
                | true =>
                  cases hl with
                  | tup eb mb =>
                    rename_i b ls dls
                    have hll := mb.length
                    refine ⟨_, rfl, b, ls, rfl, .inr (SqT.of eb), _, _, rfl, rfl, _, rfl, ?_⟩
                    have eC : isCd (.tuple [dp, .tuple dls]) = ((decide (1 ≤ dls.length) && decide (dls.length ≤ 12)) && (inR dp 0 ((dls.length : Int) - 1) && dls.all natD)) := rfl
                    rw [eC, ← hll] at q
                    refine ite2 (fun g1 => ?_) (fun g1 => ?_)
                    · have g1' : 1 ≤ ls.length := by have y := of_decide_eq_true g1; omega
                      refine ⟨_, _, rfl, rfl, _, rfl, ?_⟩
                      rw [decide_eq_true g1', Bool.true_and] at q
                      have e12 : decide ((ls.length : Int) ≤ 12) = decide (ls.length ≤ 12) := by
                        by_cases c : ls.length ≤ 12
                        · rw [decide_eq_true c, decide_eq_true (by omega)]
                        · rw [decide_eq_false c, decide_eq_false (by omega)]
                      rw [e12]
                      cases c12 : decide (ls.length ≤ 12) with
                      | false =>
                        rw [c12, Bool.false_and] at q
                        exact q H (Same.refl H)
                      | true =>
                        rw [c12, Bool.true_and] at q
                        have c12' := of_decide_eq_true c12
                        refine ⟨_, rfl, _, rfl, b, ls, rfl, .inr (SqT.of eb), _, _, rfl, rfl, xp, dp, 0, _, rfl, hp, _, rfl, ?_⟩
                        cases ci : inR dp 0 ((ls.length : Int) - 1) with
                        | false =>
                          rw [ci, Bool.false_and] at q
                          exact q H (Same.refl H)
                        | true =>
                          rw [ci, Bool.true_and] at q
                          refine ⟨_, rfl, b, rfl, ⟨ls, SqT.of eb⟩, fun D nD => ?_⟩
                          have ml2 : (dls.map natD).length ≤ 100000 := by rw [List.length_map, ← hll]; omega
                          refine lc_it walk_tup (fun i H3 => Same H H3 ∧ H3 D = some (.lst (((dls.map natD).take i).map V.bl))) ⟨same_new nD, upd_same⟩ (fun i H3 _ p => SqT.of (p.1 _ _ eb)) ?_ ?_
                          · rintro i x H3 H4 hi ⟨s3, e3⟩ ⟨rfl, hx⟩
                            obtain ⟨dx, hdx, tx⟩ := mb.get hx
                            have hc : (dls.map natD)[i]? = some (natD dx) := by rw [List.getElem?_map, hdx]; rfl
                            refine ⟨rfl, _, rfl, x, dx, rfl, Th.same s3 dx tx, _, rfl, ?_⟩
                            have fin : ∀ y : Bool, y = natD dx → ∃ acc, H4 D = some (HO.lst acc) ∧ acc.length < sizeLine ∧ Same H (upd H4 D (HO.lst (acc ++ [V.bl y]))) ∧ upd H4 D (HO.lst (acc ++ [V.bl y])) D = some (HO.lst (((dls.map natD).take (i + 1)).map V.bl)) := by
                              rintro y rfl
                              obtain ⟨acc, a1, a2, a3, a4⟩ := snoc_bl (H4 := H4) (D := D) e3 hc ml2
                              exact ⟨acc, a1, a2, same_push s3 nD, a3⟩
                            cases tx with
                            | int n => exact ⟨_, rfl, _, _, rfl, rfl, fin _ rfl⟩
                            | _ => exact fin _ rfl
                          · rintro H3 ⟨s3, e3⟩
                            rw [show ls.length = (dls.map natD).length by rw [List.length_map, hll], List.take_length] at e3
                            refine ⟨D, _, rfl, SqL.of e3, ?_⟩
                            rw [List.all_map]
                            exact q H3 s3
                    · have g1' : ¬ 1 ≤ ls.length := fun y => g1 (decide_eq_true (by omega))
                      refine ⟨_, rfl, ?_⟩
                      rw [decide_eq_false g1', Bool.false_and, Bool.false_and] at q
                      exact q H (Same.refl H)
                  | _ => cases hT2
      | _ => cases hT
end
end Lk
end
section
set_option maxRecDepth 100000
set_option maxHeartbeats 2000000
namespace Lk
open PySem PySem.Spec PyProof.Rows L2
section
variable {P : Program} {w : World} {K : PySem.W.Frag} {mg : Str → Option Value} {base : Heap}
theorem sc_refCoder : FnScope ["coder"] ["coder"] (defScope s_refuse_no_coder) := ⟨rfl, rfl, rfl, by decide +kernel, rfl, by decide +kernel, by decide +kernel⟩
theorem ok_refCoder {f C : Addr} {fd : FuncData} (F : Fun K "refuse_no_coder" "refuse_no_coder" s_refuse_no_coder f fd) (cl : C8.Cal P w K mg base 3 "is_coder" spIsCoder []) (T : ErrC K mg "NoCoder" C) {tp : Tok} (mp : mg "MOST_PLACES" = some (.int 12 tp)) : FnOk P w K mg base (L2.CX P w) 4 f fd ["coder"] (spRefCoder C) := by
  refine F.okX sc_refCoder (fun vs H Q E h => ?_) (fun cdv A outer s H vs Q E hr h => ?_)
  · obtain ⟨v, d, rfl, _⟩ := h
    rfl
  · obtain ⟨v, d, rfl, hv, q0, q1⟩ := h
    refine ⟨_, pss_one (by exact (ps_if (pt_not (pt_val (C8.pe_c cl hr (Nat.le_refl _) rfl (pa_cons (pv 0) pa_nil))))
      (pss_one (ps_raise rfl (takes_of rfl rfl rfl rfl) (SkE.pmk_own1 PySem.F.excBase_ValueError T.x T.g T.k (raises_own T.b T.t) rfl
        (pe_joined (.cons pe_str (.cons (pe_fmt (pe_glob (v := .int 12) rfl mp ⟨_, rfl⟩)) (.cons pe_str .nil))))))) pss_nil)), ?_⟩
    refine ⟨_, rfl, v, d, rfl, hv, fun H1 s1 => ⟨_, rfl, ?_⟩⟩
    cases e : isCd d with
    | true => exact q0 e H1 s1
    | false =>
      refine ⟨_, rfl, (by decide +kernel), .inr ⟨12, rfl, (by decide +kernel), _, rfl, (by decide +kernel), _, rfl, (by decide +kernel), ?_⟩⟩
      exact q1 e H1 s1
end
end Lk
end
section
set_option maxRecDepth 100000
set_option maxHeartbeats 2000000
/-! A caught error that a name keeps behind its suite; isinstance of it. -/
namespace Lk
open PySem PySem.Spec PyProof.Rows L2
/-- an error's object of the class cls, its own dict at d, caught before -/
def ExT (cls : Value) (d : Option Addr) (a : Addr) : HO := .ext fun h => ∃ (oe : Obj) (vs : Array Value), h.get? a = some oe ∧ Zc cls d oe ∧ oe.data = .fields vs
theorem exT_ok {P : Program} {w : World} {H : Hp} {h : Heap} {a : Addr} {cls : Value} {d : Option Addr} {oe : Obj} {vs : Array Value} (e : h.get? a = some oe) (z : Zc cls d oe) (hd : oe.data = .fields vs) : ObjOk P w H h a (ExT cls d a) :=
  ⟨⟨oe, vs, e, z, hd⟩, ⟨oe, e⟩, fun _ _ ⟨o, v, q, r⟩ k => ⟨o, v, k o q, r⟩⟩
section
variable {X : Cx} {pins : List (Addr × Obj)} {σ : L2.St} {H : Hp} {s : Shared}
/-- what is pinned and was made since the entry may be tracked -/
theorem tracked {a : Addr} {oe : Obj} {o : HO} (I : Inv X ((a, oe) :: pins) σ H s) (h0 : X.s_0.heap.get? a = none) (hp : ∀ p ∈ X.pn ++ pins, p.1 ≠ a) (new : ObjOk X.prog X.w (upd H a o) s.heap a o) : Inv X pins σ (upd H a o) s := by
  obtain ⟨ha, hn, nL, nF, nc⟩ := I.pin (a, oe) (List.mem_append.mpr (.inr List.mem_cons_self))
  refine ⟨I.ok, I.os, I.bare, ⟨I.base.keep, I.base.slot, fun b u e n hx => ?_, I.base.there, fun b xs e => ?_, fun b u xs e => ?_, fun b ps e => ?_⟩, I.loc, I.cell, ?_, fun x c e => ?_, fun p h => ?_, I.hok.laidN (fun _ _ e => e) hn new, I.len⟩
  · rw [upd_ne (fun z => by rw [z, h0] at e; cases e)]
    exact I.base.free b u e n hx
  · rw [upd_ne (ne_of_none (I.base.tups b xs e) hn)]
    exact I.base.tups b xs e
  · rw [upd_ne (ne_of_none (I.base.frzs b u xs e) hn)]
    exact I.base.frzs b u xs e
  · obtain ⟨m, q⟩ := I.base.tbls b ps e
    exact ⟨m, by rw [upd_ne (ne_of_none q hn)]; exact q⟩
  · rw [upd_ne nL.symm]
    exact I.free
  · rw [upd_ne (fun z => ?_)]
    · exact I.freeC x c e
    · obtain ⟨v, o', q1, q2⟩ := I.cell x c e
      have q3 : s.heap.get? a = some o' := by rw [← z]; exact q1
      rw [show s.heap.get? a = some oe from ha] at q3
      cases q3
      exact nc v q2
  · have hm : p ∈ X.pn ++ ((a, oe) :: pins) := by
      rcases List.mem_append.mp h with h | h
      · exact List.mem_append.mpr (.inl h)
      · exact List.mem_append.mpr (.inr (List.mem_cons_of_mem _ h))
    obtain ⟨q1, q2, q3⟩ := I.pin p hm
    exact ⟨q1, by rw [upd_ne (hp p h)]; exact q2, q3⟩
theorem unsuiteP {a : Addr} {q : Addr × Obj} (I : Inv (X.suite a (q :: (X.pn ++ pins))) [] σ H s) (ok : X.Ok) : Inv X (q :: pins) σ H s :=
  ⟨ok, I.os, I.bare, I.base, I.loc, I.cell, I.free, I.freeC, fun p hp => I.pin p (by
    rw [List.append_nil]
    show p ∈ q :: (X.pn ++ pins)
    rcases List.mem_append.mp hp with h | h
    · exact List.mem_cons_of_mem _ (List.mem_append.mpr (.inl h))
    · rcases List.mem_cons.mp h with e | h
      · rw [e]; exact List.mem_cons_self
      · exact List.mem_cons_of_mem _ (List.mem_append.mpr (.inr h))), I.hok, I.len⟩
end
/-- the wish of a clause that takes whatever comes, and behind which the error is kept -/
def wKeep (K : PySem.W.Frag) (c : Value) (i : Nat) (ts : Addr → Value → Option Addr → TS) (D : Ends) : WX := fun cls d σ H =>
  PySem.W.exmOne K cls c = some true ∧ ∀ a, H a = none → ts a cls d { nx := fun σ' H' => H' a = none → D.nx (σ'.set i none) (upd H' a (ExT cls d a)), rt := fun _ _ => False, bk := fun _ _ => False, ct := fun _ _ => False } (σ.set i (some (.ref a))) H
section
variable {X : Cx} {x n : Str} {c : Value} {i : Nat} {body suite : List Stmt} {b₀ : Stmt} {np pos pos' : Pos} {tb : WX → TS} {ts : Addr → Value → Option Addr → TS}
/-- what is known of an error that came down: its object where it landed, that it is new, that the frame's state stands -/
structure Down (X : Cx) (pins : List (Addr × Obj)) (a : Addr) (cls : Value) (d : Option Addr) (σ : L2.St) (H : Hp) (s : Shared) : Prop where
  st : Inv X pins σ H s
  ob : ∃ oe vs, s.heap.get? a = some oe ∧ Zc cls d oe ∧ oe.data = .fields vs
  nH : H a = none
  n0 : X.s_0.heap.get? a = none
  nP : ∀ p ∈ X.pn ++ pins, p.1 ≠ a
  nL : a ≠ X.env.locals
  nF : a ∉ X.fs
theorem down {pins : List (Addr × Obj)} {a : Addr} {B : Heap} {cls : Value} {d : Option Addr} {σ : L2.St} {H : Hp} {sI s' : Shared} {h : Heap} (hs : X.stack = X.env :: X.outer) (hf : X.env.frame = some X.env.locals) (hex : X.ex = [])
    (J : Inv X pins σ H sI) (nb : ∀ b o, sI.heap.get? b = some o → b ∉ frs X.stack → B.get? b = some o) (up : sI.heap.UpToSlots h) (os : s'.os = sI.os) (ag : AllBare s'.gens) (na : H a = none)
    (fl : HandSPX.FlyingZ B (X.env :: X.outer) a (Zc cls d) h) : Down X pins a cls d σ H { s' with heap := h } := by
  obtain ⟨oe, vs, he, hz, hd⟩ := fl.there
  have off : a ∉ frs (X.env :: X.outer) := fun hm => by
    obtain ⟨_, o, e, q⟩ := fl.2.2.1.mem hm
    have z : oe = o := Option.some.inj (he.symm.trans e)
    exact q vs (by rw [← z]; exact hd)
  have gone : sI.heap.get? a = none := by
    rcases e : sI.heap.get? a with _ | o
    · rfl
    · have z := nb a o e (by rw [hs]; exact off)
      rw [fl.2.1] at z
      cases z
  refine ⟨J.landed nb fl.1 up os ag, ⟨oe, vs, he, hz, hd⟩, na, ?_, fun p hp z => ?_, fun z => off ?_, fun hm => off ?_⟩
  · rcases e : X.s_0.heap.get? a with _ | o
    · rfl
    · obtain ⟨u, z⟩ := J.base.there a o e (by rw [hex]; exact fun z => nomatch z)
      rw [gone] at z
      cases z
  · have q := (J.pin p hp).1
    rw [z, gone] at q
    cases q
  · exact List.mem_filterMap.mpr ⟨X.env, List.mem_cons_self, by rw [hf, z]⟩
  · obtain ⟨e, he, q⟩ := List.mem_filterMap.mp hm
    exact List.mem_filterMap.mpr ⟨e, List.mem_cons_of_mem _ he, q⟩
/-- a body that ran through a try ran -/
theorem through {pins : List (Addr × Obj)} {xe : Value → Shared → Prop} {D : Ends} {s1 : Shared} (ok : X.Ok) : ∀ {f : Flow}, SP (X.tr (X.pn ++ pins) xe) [] D f s1 → SP X pins D f s1
  | .next, ⟨σ, H, J, q⟩ => ⟨σ, H, J.ofTry ok, q⟩
  | .brk, ⟨σ, H, J, q⟩ => ⟨σ, H, J.ofTry ok, q⟩
  | .cont, ⟨σ, H, J, q⟩ => ⟨σ, H, J.ofTry ok, q⟩
  | .ret _, ⟨v, σ, H, J, r, q⟩ => ⟨v, σ, H, J.ofTry ok, r, q⟩
/-- the suite runs, its name goes, the error is tracked from then on -/
theorem kept {pins : List (Addr × Obj)} {a : Addr} {cls : Value} {d : Option Addr} {σ : L2.St} {H : Hp} {s : Shared} {D : Ends} (ok : X.Ok) (hN : X.N.Nodup) (hi : X.N[i]? = some n) (hln : X.env.kindOf n = some .local)
    (hsu : ∀ (oe : Obj) (pn : List (Addr × Obj)), Zc cls d oe → (∃ vs, oe.data = .fields vs) → PSs (X.suite a ((a, oe) :: pn)) (b₀ :: suite) (ts a cls d)) (W : Down X pins a cls d σ H s)
    (h : ts a cls d { nx := fun σ' H' => H' a = none → D.nx (σ'.set i none) (upd H' a (ExT cls d a)), rt := fun _ _ => False, bk := fun _ _ => False, ct := fun _ _ => False } (σ.set i (some (.ref a))) H)
    {R : Flow → Shared → Prop} {E1 E2 : Value → Shared → Prop} (hR : ∀ s6, wpAny (model X.prog X.w) X.A (do bindName X.env n .none; unbindBehindTheSuite X.env n pos') (fun _ s7 => SP X pins D .next s7) X.xe s6 → R .next s6) :
    wpAny (model X.prog X.w) (X.A.mark (some (.ref a))) (storeName X.env n (.ref a)) (fun _ s5 => wpAny (model X.prog X.w) (X.A.mark (some (.ref a))) (execs (b₀ :: suite) X.env) R E2 s5) E1 s := by
  obtain ⟨oe, vs, he, hz, hd⟩ := W.ob
  have S := W.st.suite he hd W.nH W.nL W.nF
  refine store_ok (X := X.suite a ((a, oe) :: (X.pn ++ pins))) (v := .ref a) S hN hi (.inl hln) rfl (fun s5 S5 => ?_) (.inr hln)
  refine wpAny_mono ((hsu oe (X.pn ++ pins) hz ⟨_, hd⟩).run [] s5 _ H _ S5 h) (fun f s6 z => ?_) fun _ _ z => z.elim
  match f, z with
  | .next, ⟨σ6, H6, S6, q6⟩ =>
    refine hR s6 (gone_ok (unsuiteP S6 ok) hN hi hln fun s7 J7 => ?_)
    obtain ⟨p1, p2, _⟩ := J7.pin (a, oe) (List.mem_append.mpr (.inr List.mem_cons_self))
    exact ⟨_, _, tracked J7 W.n0 W.nP (exT_ok p1 hz hd), q6 p2⟩
  | .brk, ⟨_, _, _, q⟩ => exact q.elim
  | .cont, ⟨_, _, _, q⟩ => exact q.elim
  | .ret _, ⟨_, _, _, _, _, q⟩ => exact q.elim
theorem ps_try_keep (hs : X.stack = X.env :: X.outer) (hf : X.env.frame = some X.env.locals) (hex : X.ex = []) (hN : X.N.Nodup) (hi : X.N[i]? = some n) (hln : X.env.kindOf n = some .local) (hc : Names X x c)
    (hb : ∀ (W : WX) (pn : List (Addr × Obj)) (xe : Value → Shared → Prop), Takes (X.tr pn xe) W → PassesOwn (model X.prog X.w) X.A X.env xe → PSs (X.tr pn xe) body (tb W))
    (hsu : ∀ (a : Addr) (oe : Obj) (cls : Value) (d : Option Addr) (pn : List (Addr × Obj)), Zc cls d oe → (∃ vs, oe.data = .fields vs) → PSs (X.suite a ((a, oe) :: pn)) (b₀ :: suite) (ts a cls d)) :
    PS X (.Try body [.ExceptHandler (some (.Name x np)) (some n) (b₀ :: suite) pos'] [] [] pos) (fun D σ H => tb (wKeep X.K c i ts D) D σ H) := by
  refine ⟨fun pins s σ H D I h => wpAny_Try_except ?_⟩
  have hfr : X.A.frames = some (X.env :: X.outer) := I.ok.frames.trans (by rw [hs])
  refine wpAny_mono ((hb (wKeep X.K c i ts D) (X.pn ++ pins) _ (fun u s' xx => ?_) PassesOwn.looking).run [] s σ H D (I.toTry _) h) (fun f s1 z => ?_) (fun _ _ z => z)
  rotate_left
  · have z' := through I.ok z
    match f, z' with
    | .next, ⟨_, _, J, q⟩ => exact wpAny_execs_nil ⟨_, _, J, q⟩
    | .brk, z' => exact z'
    | .cont, z' => exact z'
    | .ret _, z' => exact z'
  · obtain ⟨a, B, sI, _, σ', H', cls, d, rfl, J', nb, up, sky, na, os, ag, hex1, hyes⟩ := xx
    have J : Inv X pins σ' H' sI := J'.ofTry I.ok
    rw [show (X.tr (X.pn ++ pins) _).stack = X.env :: X.outer from hs] at sky
    refine Sky.land Zc.steady hfr hf sky fun h3 fl3 up3 => ?_
    have W3 := down hs hf hex J nb (up.trans up3) os ag na fl3
    obtain ⟨oe, vs, he, hz, hd⟩ := W3.ob
    have S3 := W3.st.suite he hd na W3.nL W3.nF
    refine wpAny_handleBy_cons (codeAny_handlers_test ?_) fun q => nomatch q
    have look : PySem.W.Looks (model X.prog X.w) h3 (typeOf (.ref a)) cls := fun A Q E s k q => wpAny_typeOf_ref (k _ _ he) (by rw [hz.1]; exact q)
    have name : ∀ {Q : Value → Shared → Prop} {E : Value → Shared → Prop}, Q c { s' with heap := h3 } → wpAny (model X.prog X.w) (X.A.mark (some (.ref a))) (eval (.Name x np) X.env) Q E { s' with heap := h3 } := fun q => by
      rcases hc with ⟨k1, k2, k3 | ⟨k3, k4, k5⟩⟩
      · exact ld_glob S3 k1 k3 q k2
      · exact ld_blt S3 k1 k3 k4 q k5 k2
    refine name ((PySem.W.exm_one W3.st.kIn look hex1).here (codeAny_handlers_suite_as (HandSPX.lands_againZ fl3 fun h4 fl4 up4 => ?_)))
    exact kept I.ok hN hi hln (hsu a · cls d ·) (down hs hf hex J nb ((up.trans up3).trans up4) os ag na fl4) (hyes a na) (fun _ z => z)
end
/-! ### isinstance of such -/
section
variable {X : Cx}
/-- the class of such an error is known to be read rightly -/
theorem exT_at {pins : List (Addr × Obj)} {σ : L2.St} {H : Hp} {s : Shared} {a D : Addr} (I : Inv X pins σ H s) (ha : H a = some (ExT (.ref D) none a)) : ∃ oe, PySem.W.InstAt s.heap a oe D none := by
  obtain ⟨⟨oe, vs, he, hz, hd⟩, _⟩ := I.hok a _ ha
  refine ⟨oe, ?_⟩
  obtain ⟨oc, od, oda, osl⟩ := oe
  obtain ⟨h1, h2⟩ := hz
  dsimp only at h1 h2 hd
  subst h1 h2 hd
  exact ⟨he, rfl, rfl, trivial⟩
def rIsX (K : PySem.W.Frag) : List V → Hp → VK → Prop := fun xs H Q => ∃ (a D : Addr) (c : V) (u : Value) (b : Bool), xs = [.ref a, c] ∧ ExcC K D ∧ H a = some (ExT (.ref D) none a) ∧ ClsV c u ∧ PySem.W.kitOne K (.ref D) u = some b ∧ Q (.bl b) H
theorem call_isX : CallR X (.builtin "isinstance") (rIsX X.K) := by
  intro pins s σ H xs us Q I r h
  obtain ⟨a, D, c, u, b, rfl, C, ha, k, e, q⟩ := h
  obtain ⟨u1, u2, rfl, r1, r2⟩ := vals2 r
  have e2 := k.eq r2
  subst e2
  cases (show u1 = Value.ref a from r1)
  obtain ⟨oe, J⟩ := exT_at I ha
  exact PySem.W.kia_one (PySem.W.handS_kitx_exc C.hg C.hk C.hs C.hd C.ha C.hn C.ht C.hm) I.kIn J e (fun z => nomatch z) fun tk => ⟨.bl b, H, I.tok tk, rfl, q⟩
def rIsXT (K : PySem.W.Frag) : List V → Hp → VK → Prop := fun xs H Q => ∃ (a D tp : Addr) (cs : List V) (us : List Value) (b : Bool), xs = [.ref a, .ref tp] ∧ ExcC K D ∧ H a = some (ExT (.ref D) none a) ∧ H tp = some (.tup cs) ∧ Paired ClsV cs us ∧ PySem.W.kitAny K (.ref D) us = some b ∧ Q (.bl b) H
theorem call_isXT : CallR X (.builtin "isinstance") (rIsXT X.K) := by
  intro pins s σ H xs us Q I r h
  obtain ⟨a, D, tp, cs, ws, b, rfl, C, ha, hT, k, e, q⟩ := h
  obtain ⟨u1, u2, rfl, r1, r2⟩ := vals2 r
  cases (show u2 = Value.ref tp from r2)
  cases (show u1 = Value.ref a from r1)
  obtain ⟨oe, J⟩ := exT_at I ha
  obtain ⟨_, its, rv, o, h1, h2, n, h3⟩ := (show ObjOk X.prog X.w H s.heap tp (.tup cs) from I.hok tp _ hT)
  have e3 := ClsV.all k rv
  subst e3
  obtain ⟨oc, od, dt, sl⟩ := o
  simp only at h2 h3
  subst h2 h3
  exact PySem.W.kia_tup (PySem.W.handS_kitx_exc C.hg C.hk C.hs C.hd C.ha C.hn C.ht C.hm) I.kIn J h1 e (fun z => nomatch z) fun tk => ⟨.bl b, H, I.tok tk, rfl, q⟩
end
end Lk
end
section
set_option maxRecDepth 100000
set_option maxHeartbeats 2000000
/-! is_ring of anything, befores, before: what is told. -/
namespace Lk
open PySem PySem.Spec PyProof.Rows L2
theorem depthAll_ints : ∀ l : List Nat, PyData.depthAll (l.map dN) = 0
  | [] => by simp [PyData.depthAll]
  | n :: l => by simp [PyData.depthAll, PyData.depth, depthAll_ints l]
theorem layAll_ints : ∀ l : List Nat, PyData.canLayAll0 (l.map dN) = true
  | [] => by simp [PyData.canLayAll0]
  | n :: l => by simp [PyData.canLayAll0, PyData.canLay0, layAll_ints l]
theorem shaped_ints (l : List Nat) : SeqAt.shaped (.list (l.map dN)) = true := by
  unfold SeqAt.shaped
  rw [Bool.and_eq_true]
  refine ⟨by simp [PyData.canLay0, layAll_ints l], decide_eq_true ?_⟩
  simp only [PyData.depth, depthAll_ints]
  decide
theorem shaped_none : SeqAt.shaped .none = true := by
  unfold SeqAt.shaped
  rw [Bool.and_eq_true]
  exact ⟨by simp [PyData.canLay0], decide_eq_true (by simp [PyData.depth])⟩
theorem eqv_list_none (ds : List PyData) : PyData.eqv (.list ds) .none = false := by simp [PyData.eqv]
theorem eqv_ints (l m : List Nat) : PyData.eqv (.list (l.map dN)) (.list (m.map dN)) = decide (l = m) := by
  have key : ∀ l m : List Nat, PyData.eqvAll (l.map dN) (m.map dN) = decide (l = m) := by
    intro l
    induction l with
    | nil => intro m; cases m <;> simp [PyData.eqvAll]
    | cons a l ih =>
      intro m
      cases m with
      | nil => simp [PyData.eqvAll]
      | cons b m =>
        simp only [List.map_cons, PyData.eqvAll, PyData.eqv, ih]
        by_cases e : a = b
        · subst e
          simp
        · have e2 : ¬ ((a : Int) = (b : Int)) := by omega
          simp [e, e2]
  simp only [PyData.eqv, key]
mutual
/-- data without dicts, as the hand layer tells it -/
theorem Th.dp {K : PySem.W.Frag} {H : Hp} : ∀ (d : PyData) {v : V}, d.canLay0 = true → Th H v d → Dp K H v d
  | .none, _, _, h => by cases h; exact .non
  | .bool b, _, _, h => by cases h; exact .bl b
  | .int i, _, _, h => by cases h; exact .int i
  | .str x, _, _, h => by cases h; exact .str x
  | .list ds, _, n, h => by
    cases h with
    | lst e m => exact .lst (SqL.of e) (ThAll.dp ds (by simpa [PyData.canLay0] using n) m)
  | .tuple ds, _, n, h => by
    cases h with
    | tup e m => exact .tup (SqT.of e) (ThAll.dp ds (by simpa [PyData.canLay0] using n) m)
  | .dict kvs, _, n, _ => by simp [PyData.canLay0] at n
theorem ThAll.dp {K : PySem.W.Frag} {H : Hp} : ∀ (ds : List PyData) {vs : List V}, PyData.canLayAll0 ds = true → ThAll H vs ds → DpAll K H vs ds
  | [], _, _, h => by cases h; exact .nil
  | d :: ds, _, n, h => by
    have n2 : d.canLay0 = true ∧ PyData.canLayAll0 ds = true := by simpa [PyData.canLayAll0] using n
    cases h with
    | cons a b => exact .cons (Th.dp d n2.1 a) (ThAll.dp ds n2.2 b)
end
theorem dp_ints {K : PySem.W.Frag} {H : Hp} {p : Addr} {l : List Nat} (e : H p = some (.lst (l.map vN))) : Dp K H (.ref p) (.list (l.map dN)) :=
  .lst (SqL.of e) (ThAll.dp _ (layAll_ints l) (ints_nat l))
def ringD (c : Cd) (e : PyData) : Prop := ∃ a k, a < c.2.length ∧ RingK c a k ∧ e = .list ((ringL c a k).map dN)
def spIsRing (C : Addr) : Sp := fun vs H Q E => ∃ v u d e, vs = [v, u] ∧ Th H v d ∧ Th H u e ∧ (∀ ds, e = .list ds → ds.length ≤ 100000) ∧ (isCd d = false → ∀ H', Same H H' → E (.ref C) none H') ∧
  (∀ c, d = cdD c → CdOk c → ∀ b H', (b = true ↔ ringD c e) → Same H H' → Q (.bl b) H')
/-- the coder ahead of whose step at k its word wasn't known -/
def prv (c : Cd) (k : Nat) : Cd := (k, c.2.set k (len c k - 1))
def bef (c : Cd) : List Nat := (List.range c.2.length).filter fun i => decide (go c i = c.1) && decide (0 < len c i)
theorem bef_le (c : Cd) : (bef c).length ≤ c.2.length := by
  unfold bef
  exact Nat.le_trans (List.length_filter_le _ _) (by rw [List.length_range]; exact Nat.le_refl _)
theorem bef_mem {c : Cd} {k : Nat} : k ∈ bef c ↔ k < c.2.length ∧ go c k = c.1 ∧ 0 < len c k := by
  unfold bef
  rw [List.mem_filter, List.mem_range, Bool.and_eq_true, decide_eq_true_eq, decide_eq_true_eq]
theorem prv_ok {c : Cd} (h : CdOk c) {k : Nat} (hk : k < c.2.length) : CdOk (prv c k) := by
  refine ⟨?_, ?_⟩
  · show k < (c.2.set k _).length
    rw [List.length_set]
    exact hk
  · show (c.2.set k _).length ≤ 12
    rw [List.length_set]
    exact h.2
def spTaken : Sp := fun vs H Q _ => ∃ (v : V) (c : Cd) (k : Nat), vs = [v, .int (k : Int)] ∧ Cat H v c ∧ CdOk c ∧ k < c.2.length ∧ 0 < len c k ∧ ∀ v' H', Same H H' → Cat H' v' (prv c k) → Q v' H'
def toldBefores (c : Cd) (Q : VK) (H : Hp) : Prop := ∀ p H' ws, H p = none → Same H H' → H' p = some (.lst ws) → ThAll H' ws ((bef c).map fun k => cdD (prv c k)) → Q (.ref p) H'
/-- the first of these that is free, or None -/
def BefV (c : Cd) (H' : Hp) (v : V) : Prop := (v = .non ∧ ∀ k, k ∈ bef c → ¬ Free (prv c k)) ∨ ∃ (i k : Nat), (bef c)[i]? = some k ∧ Free (prv c k) ∧ (∀ (j m : Nat), j < i → (bef c)[j]? = some m → ¬ Free (prv c m)) ∧ Cat H' v (prv c k)
def spBefore (C1 C2 : Addr) : Sp := fun vs H Q E => ∃ v d, vs = [v] ∧ Th H v d ∧ (isCd d = false → ∀ H', Same H H' → E (.ref C1) none H') ∧
  (∀ c, d = cdD c → CdOk c → (¬ Free c → ∀ H', Same H H' → E (.ref C2) none H') ∧ (Free c → ∀ v' H', Same H H' → BefV c H' v' → Q v' H'))
end Lk
end
section
set_option maxRecDepth 100000
set_option maxHeartbeats 4000000
/-! tuple * int, of any small number. -/
namespace Lk
open PySem PySem.Spec PyProof.Rows L2
theorem tup_mul_one (l : Addr) (items : Array Value) (n : Nat) (dd : Option Addr) (sl : Array (Option Value)) (u : Tok) :
    Meets (Builtin.«tuple.__mul__» ⟨[.ref l, .int 1 u], []⟩) (fun _ R s => s.heap.get? l = some { cls := .type "tuple", dict := dd, data := .seq items n, slots := sl } ∧ R (.ok (.ret (Value.ref l))) s) :=
  .of_wp fun prog w A R s h => by
    obtain ⟨hp, g, d, tk, os⟩ := s
    obtain ⟨hl, h⟩ := h
    have f1 := AutoSeq1.idx_int
    wp_walk using wpAny_loadPart' hl
    repeat (first
      | (refine wpAny_ite_false (decide_eq_false (by decide)) ?_; wp_walk using wpAny_loadPart' hl)
      | (refine wpAny_ite_true (decide_eq_true (by simp)) ?_; wp_walk using wpAny_loadPart' hl))
    exact ⟨_, rfl, h⟩
theorem tup_mul_none (l : Addr) (items : Array Value) (n : Nat) (dd : Option Addr) (sl : Array (Option Value)) (x : Int) (u : Tok) (h0 : x ≤ 0) (hb : -(2 ^ 63) ≤ x) (hi : items.isEmpty = false) :
    Meets (Builtin.«tuple.__mul__» ⟨[.ref l, .int x u], []⟩) (fun _ R s => s.heap.get? l = some { cls := .type "tuple", dict := dd, data := .seq items n, slots := sl } ∧
      R (.ok (.ret (Value.ref s.heap.objs.size))) { s with heap := s.heap.push { cls := Value.type "tuple", data := Data.seq #[] } }) :=
  .of_wp fun prog w A R s h => by
    obtain ⟨hp, g, d, tk, os⟩ := s
    obtain ⟨hl, h⟩ := h
    have f1 := AutoSeq1.idx_int
    have c0 : (decide (x < -(2 ^ 63)) || decide (x ≥ 2 ^ 63)) = false := by
      rw [decide_eq_false (by omega), decide_eq_false (by omega)]
      rfl
    have c1 : (items.isEmpty || x == 1) = false := by
      rw [hi, Bool.false_or]
      exact beq_eq_false_iff_ne.mpr (by omega)
    have c2 : (decide (x ≤ 0) || items.isEmpty) = true := by
      rw [decide_eq_true h0]
      rfl
    wp_walk using wpAny_loadPart' hl
    repeat (first
      | (refine wpAny_ite_false (decide_eq_false (by rw [c0]; exact Bool.false_ne_true)) ?_; wp_walk using wpAny_loadPart' hl)
      | (refine wpAny_ite_false (decide_eq_false (by rw [c1]; exact Bool.false_ne_true)) ?_; wp_walk using wpAny_loadPart' hl)
      | (refine wpAny_ite_true (decide_eq_true (by rw [c2])) ?_; wp_walk using wpAny_loadPart' hl))
    exact ⟨_, rfl, h⟩
/-- xs * k, new or not -/
def rMulT (K : PySem.W.Frag) : R2 := fun x y H Q => ∃ l k xs, x = .ref l ∧ y = .int k ∧ SqT K H l xs ∧ xs ≠ [] ∧ -1000 ≤ k ∧ k ≤ 1000 ∧ xs.length ≤ 1000 ∧ ∀ p H', Same H H' → (SqT K H' p (List.replicate k.toNat xs).flatten) → (H' p = some (.tup (List.replicate k.toNat xs).flatten) ∨ k = 1 ∧ p = l) → Q (.ref p) H'
theorem op_mulT {X : Cx} : OpR X (binaryOp .Mult) (rMulT X.K) := by
  intro pins s σ H x y v u Q I rx ry h
  obtain ⟨l, k, xs, rfl, rfl, hT, hne, h1, h2, hz, q⟩ := h
  by_cases g2 : 2 ≤ k
  · exact op_repT pins s σ H _ _ v u Q I rx ry ⟨l, k, xs, rfl, rfl, hT, hne, g2, h2, hz, fun p hp => q p _ (same_new hp) (.inl (.inl upd_same)) (.inl upd_same)⟩
  · cases rx
    obtain ⟨t, rfl⟩ := ry
    obtain ⟨its, r, ⟨⟨cls, dd, data, sl⟩, ho, hc, n, hd⟩, hs⟩ := I.tuple hT
    simp only at hc hd
    subst hc hd
    have hi : its.toArray.isEmpty = false := by
      cases its with
      | nil =>
        cases r
        exact absurd rfl hne
      | cons a b => rfl
    by_cases g1 : k = 1
    · subst g1
      refine wpAny_binaryOp_repeat_ref (T := "tuple") (U := "int") (by decide) ⟨_, ho, rfl⟩ (fun s' => typeIs_int s' 1 t) noFill_tuple_mul PySem.F.fills_int_mul PySem.F.slot_int_rmul repeat_tuple PySem.F.slot_int_index.lookup
        (call_meets PySem.F.slot_int_rmul (typeIs_int s 1 t) PySem.F.entry_int_rmul (PySem.F.args_int_rmul_2 _ _) (int_rmul_tuple 1 t l its.toArray n dd sl)
          ⟨ho, rfl, ⟨_, ho, rfl⟩, call_meets PySem.F.slot_tuple_mul ⟨_, ho, rfl⟩ PySem.F.entry_tuple_mul (PySem.F.args_tuple_mul_2 _ _) (tup_mul_one l its.toArray n dd sl t) ⟨ho, ?_⟩⟩)
      refine ⟨.ref l, H, I, rfl, q l H (Same.refl H) ?_ (.inr ⟨rfl, rfl⟩)⟩
      rw [show (List.replicate (1 : Int).toNat xs).flatten = xs by simp]
      exact hT
    · have g0 : k ≤ 0 := by omega
      refine wpAny_binaryOp_repeat_ref (T := "tuple") (U := "int") (by decide) ⟨_, ho, rfl⟩ (fun s' => typeIs_int s' k t) noFill_tuple_mul PySem.F.fills_int_mul PySem.F.slot_int_rmul repeat_tuple PySem.F.slot_int_index.lookup
        (call_meets PySem.F.slot_int_rmul (typeIs_int s k t) PySem.F.entry_int_rmul (PySem.F.args_int_rmul_2 _ _) (int_rmul_tuple k t l its.toArray n dd sl)
          ⟨ho, rfl, ⟨_, ho, rfl⟩, call_meets PySem.F.slot_tuple_mul ⟨_, ho, rfl⟩ PySem.F.entry_tuple_mul (PySem.F.args_tuple_mul_2 _ _) (tup_mul_none l its.toArray n dd sl k t g0 (by omega) hi) ⟨ho, ?_⟩⟩)
      have e0 : (List.replicate k.toNat xs).flatten = [] := by rw [show k.toNat = 0 by omega]; rfl
      have hf : H s.heap.objs.size = none := I.hok.fresh (Nat.le_refl _)
      refine ⟨.ref s.heap.objs.size, upd H s.heap.objs.size (.tup []), I.laid (t' := s.toks) (o := .tup []) (fun b ob q => Heap.get?_push_of_some _ q) (Nat.le_refl _) ?_, rfl, q _ _ (same_new hf) ?_ ?_⟩
      · exact ⟨by show 0 ≤ sizeLine; exact Nat.zero_le _, [], .nil, IsTup.new _ _⟩
      · rw [e0]
        exact .inl (.inl upd_same)
      · rw [e0]
        exact .inl upd_same
/-! ### tuples that were made in the run -/
def rCutT : V → Option Int → Option Int → Hp → VK → Prop := fun x lo hi H Q => ∃ a xs, x = .ref a ∧ H a = some (.tup xs) ∧ ∀ b H', Same H H' → H' b = some (.tup (cutV xs lo hi)) → Q (.ref b) H'
theorem sl_cutT {X : Cx} : SlR X rCutT := by
  intro pins s σ H x v vl vu lo hi sl Q I rx hs pl pu h
  obtain ⟨a, xs, rfl, hx, q⟩ := h
  refine sl_tupA pins s σ H _ v vl vu _ _ sl Q I rx hs pl pu ⟨a, xs, rfl, SqT.of hx, fun z => ?_, fun z p hp => ?_⟩
  · refine q a H (Same.refl H) ?_
    have e : cutV xs lo hi = xs := by
      unfold cutV
      rw [z.1, z.2, List.drop_zero, Nat.sub_zero, List.take_length]
    rw [e]
    exact hx
  · exact q p _ (same_new hp) upd_same
def rAddT : R2 := fun x y H Q => ∃ a b xs ys, x = .ref a ∧ y = .ref b ∧ H a = some (.tup xs) ∧ H b = some (.tup ys) ∧ xs.length + ys.length ≤ sizeLine ∧ ∀ p H', Same H H' → H' p = some (.tup (xs ++ ys)) → Q (.ref p) H'
theorem op_addT {X : Cx} : OpR X (binaryOp .Add) rAddT := by
  intro pins s σ H x y v u Q I rx ry h
  obtain ⟨a, b, xs, ys, rfl, rfl, ha, hb, hl, q⟩ := h
  refine op_catA pins s σ H _ _ v u Q I rx ry ⟨a, b, xs, ys, rfl, rfl, SqT.of ha, SqT.of hb, hl, fun e => ?_, fun _ e => ?_, fun _ _ p hp => q p _ (same_new hp) upd_same⟩
  · subst e
    exact q b H (Same.refl H) hb
  · subst e
    exact q a H (Same.refl H) (by rw [List.append_nil]; exact ha)
def rRepTT : R2 := fun x y H Q => ∃ l k xs, x = .ref l ∧ y = .int k ∧ H l = some (.tup xs) ∧ xs ≠ [] ∧ -1000 ≤ k ∧ k ≤ 1000 ∧ xs.length ≤ 1000 ∧ ∀ p H', Same H H' → H' p = some (.tup (List.replicate k.toNat xs).flatten) → Q (.ref p) H'
theorem op_repTT {X : Cx} : OpR X (binaryOp .Mult) rRepTT := by
  intro pins s σ H x y v u Q I rx ry h
  obtain ⟨l, k, xs, rfl, rfl, hT, hne, h1, h2, hz, q⟩ := h
  refine op_mulT pins s σ H _ _ v u Q I rx ry ⟨l, k, xs, rfl, rfl, SqT.of hT, hne, h1, h2, hz, fun p H' s1 _ z => q p H' s1 ?_⟩
  rcases z with z | ⟨rfl, rfl⟩
  · exact z
  · rw [show (List.replicate (1 : Int).toNat xs).flatten = xs by simp]
    exact s1 _ _ hT
end Lk
end
section
set_option maxRecDepth 100000
set_option maxHeartbeats 2000000
namespace Lk
open PySem PySem.Spec PyProof.Rows L2
/-! ### xs.count(b), a list of truths -/
def eqB (k : Bool) (v : Value) : Bool := match v with
  | .bool n => n == k
  | _ => false
theorem bools_of : ∀ {bs : List Bool} {us : List Value}, Vals (bs.map V.bl) us → us = bs.map Value.bool
  | [], _, r => by cases r; rfl
  | b :: bs, _, r => by
    cases r with
    | cons r1 r2 =>
      rw [bools_of r2]
      cases (show _ = Value.bool b from r1)
      rfl
theorem eqB_count (k : Bool) : ∀ bs : List Bool, (bs.map Value.bool).countP (eqB k) = bs.count k
  | [] => rfl
  | b :: bs => by
    rw [List.map_cons, List.countP_cons, List.count_cons, eqB_count k bs]
    rfl
section
variable {X : Cx}
def rCntB (K : PySem.W.Frag) : V → List V → Hp → VK → Prop := fun x xs H Q => ∃ (p : Addr) (bs : List Bool) (k : Bool), x = .ref p ∧ xs = [.bl k] ∧ SqL K H p (bs.map V.bl) ∧ Q (.int (bs.count k : Nat)) H
theorem mt_lcountB : MtR X "list.count" (rCntB X.K) := by
  intro pins s σ H x xs v us Q I rx rxs h
  obtain ⟨p, bs, k, rfl, rfl, hs, q⟩ := h
  cases rx
  obtain ⟨u, rfl, ru⟩ := rxs.one
  cases (show u = Value.bool k from ru)
  obtain ⟨its, rv, ⟨⟨cls, dd, data, sl⟩, n, ho, hc, hdn, hd⟩, hlen⟩ := I.list hs
  simp only at hc hd
  subst hc hd
  have hi := bools_of rv
  subst hi
  refine call_meets PySem.F.slot_list_count ⟨_, ho, rfl⟩ PySem.F.entry_list_count (PySem.F.args_list_count_2 _ _)
    (SeqAt.list_countAt p (bs.map Value.bool).toArray n dd sl (.bool k) (eqB k)) ⟨ho, fun y hy => ?_, ?_⟩
  · have hy' : y ∈ bs.map Value.bool := by simpa using hy
    obtain ⟨b, _, rfl⟩ := List.mem_map.mp hy'
    exact SeqAt.EqAt.bool_bool b k
  · refine ⟨.int (bs.count k : Nat), H, I.tok _, ⟨s.toks, ?_⟩, q⟩
    show Value.int (((bs.map Value.bool).toArray.toList.countP (eqB k) : Nat) : Int) s.toks = Value.int ((bs.count k : Nat) : Int) s.toks
    rw [show (bs.map Value.bool).toArray.toList = bs.map Value.bool from rfl, eqB_count]
end
theorem kit_self {K : PySem.W.Frag} (C : Addr) : PySem.W.kitOne K (.ref C) (.ref C) = some true := by
  unfold PySem.W.kitOne
  rw [if_pos (beq_self_eq_true _)]
/-- isinstance(caught, x), x a class of the program's own; caught in slot 0 -/
def tIsG (K : PySem.W.Frag) (C : Addr) : TE := fun σ H Q => ∃ a D b, σ[0]? = some (some (.ref a)) ∧ ExcC K D ∧ H a = some (ExT (.ref D) none a) ∧ PySem.W.kitOne K (.ref D) (.ref C) = some b ∧ Q (.bl b) H
theorem pe_isG {X : Cx} {x : Str} {C : Addr} {p p1 p2 pos : Pos} (mi : X.mg "isinstance" = none) (g : X.mg x = some (.ref C)) (hi : Gl X "isinstance") (hg : Gl X x) (hN : X.N[0]? = some ("caught" : Str)) (hv : Vis X.env.scope ("caught" : Str)) (hd : (x == ("__debug__" : Str)) = false := by decide)
    (hs1 : starEach [Expr.Name "caught" p1, Expr.Name x p2] X.env = (false, eval (.Name "caught" p1) X.env) :: starEach [Expr.Name x p2] X.env := by rfl) (hs2 : starEach [Expr.Name x p2] X.env = (false, eval (.Name x p2) X.env) :: starEach [] X.env := by rfl) :
    PE X (.Call (.Name "isinstance" p) [.Name "caught" p1, .Name x p2] [] pos) (tIsG X.K C) := by
  have h : PE X (.Call (.Name "isinstance" p) [.Name "caught" p1, .Name x p2] [] pos) _ := pe_callB call_isX hi mi (by decide +kernel) (pa_cons (pv 0 hN hv) (pa_cons (pe_glob (v := .ref C) hg g rfl hd) pa_nil))
  refine ⟨fun pins s σ H Q I q => h.run pins s σ H Q I ?_⟩
  obtain ⟨a, D, b, e, c, ha, k, q⟩ := q
  exact ⟨.ref a, e, a, D, .ref C, _, b, rfl, c, ha, .own C, k, q⟩
/-- x names a class that the class at CL is under or not -/
def IsB (K : PySem.W.Frag) (mg : Str → Option Value) (CL : Addr) (x : Str) (b : Bool) : Prop := ∃ C, mg x = some (.ref C) ∧ PySem.W.kitOne K (.ref CL) (.ref C) = some b
/-- the classes of errors, seen from the one at CL -/
structure Errs (K : PySem.W.Frag) (mg : Str → Option Value) (CL : Addr) (b1 b2 b3 b4 b5 b6 b7 : Bool) : Prop where
  C : ExcC K CL
  ve : mg "ValueError" = none
  yes : PySem.W.kitOne K (.ref CL) (.type "ValueError") = some true
  iso : mg "isinstance" = none
  e1 : IsB K mg CL "NoKnown" b1
  e2 : IsB K mg CL "NoText" b2
  e3 : IsB K mg CL "NoPairs" b3
  e4 : IsB K mg CL "NoLoop" b4
  e5 : IsB K mg CL "NoCoder" b5
  e6 : IsB K mg CL "NoCount" b6
  e7 : IsB K mg CL "NotRound" b7
  f1 : IsB K mg CL "NoCounts" false
  f2 : IsB K mg CL "NoLog" false
  f3 : IsB K mg CL "NoPlace" false
  f4 : IsB K mg CL "NoRow" false
  f5 : IsB K mg CL "NoSign" false
  f6 : IsB K mg CL "NoTree" false
  f7 : IsB K mg CL "NoWord" false
  f8 : IsB K mg CL "NotLike" false
  f9 : IsB K mg CL "Nothing" false
def OneHot (b1 b2 b3 b4 b5 b6 b7 : Bool) : Prop := (b1 = true ∧ b2 = false ∧ b3 = false ∧ b4 = false ∧ b5 = false ∧ b6 = false ∧ b7 = false) ∨ (b1 = false ∧ b2 = true ∧ b3 = false ∧ b4 = false ∧ b5 = false ∧ b6 = false ∧ b7 = false) ∨ (b1 = false ∧ b2 = false ∧ b3 = true ∧ b4 = false ∧ b5 = false ∧ b6 = false ∧ b7 = false) ∨ (b1 = false ∧ b2 = false ∧ b3 = false ∧ b4 = true ∧ b5 = false ∧ b6 = false ∧ b7 = false) ∨ (b1 = false ∧ b2 = false ∧ b3 = false ∧ b4 = false ∧ b5 = true ∧ b6 = false ∧ b7 = false) ∨ (b1 = false ∧ b2 = false ∧ b3 = false ∧ b4 = false ∧ b5 = false ∧ b6 = true ∧ b7 = false) ∨ (b1 = false ∧ b2 = false ∧ b3 = false ∧ b4 = false ∧ b5 = false ∧ b6 = false ∧ b7 = true)
/-- the name by which the law knows it -/
def clsName (b1 b2 b3 b4 b5 b6 b7 : Bool) : Str := if b1 then "NoKnown" else if b2 then "NoText" else if b3 then "NoPairs" else if b4 then "NoLoop" else if b5 then "NoCoder" else if b6 then "NoCount" else if b7 then "NotRound" else "odd"
def spClass (CL : Addr) (nm : Str) : Sp := fun vs H Q _ => ∃ a, vs = [.ref a] ∧ H a = some (ExT (.ref CL) none a) ∧ ∀ H', Same H H' → Q (.str nm) H'
end Lk
end
section
set_option maxRecDepth 100000
set_option maxHeartbeats 2000000
/-! The law's bag and what it draws: what is promised. -/
namespace Lk
open PySem PySem.Spec PyProof.Rows L2
theorem but_of {a : Addr} {H H' : Hp} (h : Same H H') : SameBut a H H' := fun b o _ e => h b o e
def bagO (b : Int × Int × Int) : HO := .lst [.int b.1, .int b.2.1, .int b.2.2]
def Bag (H : Hp) (a : Addr) : Prop := ∃ b, H a = some (bagO b)
def spBag : Sp := fun vs H Q _ => ∃ c : Int, vs = [.int c] ∧ ∀ p b, H p = none → Q (.ref p) (upd H p (bagO b))
def spPick : Sp := fun vs H Q _ => ∃ (a : Addr) (m : Int), vs = [.ref a, .int m] ∧ Bag H a ∧ 0 < m ∧ m ≤ 10 ^ 40 ∧ ∀ v H', 0 ≤ v → v < m → Bag H' a → SameBut a H H' → Q (.int v) H'
theorem pick_div {i j : Int} (h0 : 0 < j) (h1 : j ≤ 10 ^ 40) : CDivW i j := wide_div h0 (b := 200) (by
  have e : (2 : Nat) ^ 200 > 10 ^ 40 := by decide +kernel
  omega) (by decide) (by decide)
def spCoder : Sp := fun vs H Q _ => ∃ (a : Addr) (m : Int), vs = [.ref a, .int m] ∧ Bag H a ∧ 1 ≤ m ∧ m ≤ 12 ∧
  ∀ v c H', CdOk c → (c.2.length : Int) ≤ m → (∀ n ∈ c.2, n < 10 ^ 29) → Bag H' a → SameBut a H H' → Cat H' v c → Q v H'
theorem Bag.ne {H : Hp} {a p : Addr} (h : Bag H a) (n : H p = none) : a ≠ p := by
  obtain ⟨b, e⟩ := h
  exact ne_of_none e n
theorem Bag.same {H H' : Hp} {a : Addr} (h : Bag H a) (s : Same H H') : Bag H' a := by
  obtain ⟨b, e⟩ := h
  exact ⟨b, s _ _ e⟩
/-- the classes that are known by these names -/
def spCls (L : List (Addr × Str)) : Sp := fun vs H Q _ => ∃ a CL nm, vs = [.ref a] ∧ (CL, nm) ∈ L ∧ H a = some (ExT (.ref CL) none a) ∧ ∀ H', Same H H' → Q (.str nm) H'
theorem fnOk_nil {P : Program} {w : World} {K : PySem.W.Frag} {mg : Str → Option Value} {base : Heap} {k : Nat} {f : Addr} {fd : FuncData} : FnOk P w K mg base CX0 k f fd ["caught"] (spCls []) :=
  ⟨fun _ _ _ _ h => (by obtain ⟨_, _, _, _, m, _⟩ := h; cases m), fun _ _ _ _ _ _ _ _ _ _ _ _ _ h => (by obtain ⟨_, _, _, _, m, _⟩ := h; cases m)⟩
theorem fnOk_cls {P : Program} {w : World} {K : PySem.W.Frag} {mg : Str → Option Value} {base : Heap} {k : Nat} {f CL : Addr} {fd : FuncData} {nm : Str} {L : List (Addr × Str)} (h1 : FnOk P w K mg base CX0 k f fd ["caught"] (spClass CL nm)) (h2 : FnOk P w K mg base CX0 k f fd ["caught"] (spCls L)) :
    FnOk P w K mg base CX0 k f fd ["caught"] (spCls ((CL, nm) :: L)) := by
  refine ⟨fun vs H Q E h => ?_, fun A outer s H args us vs Q E hr e0 hb r h => ?_⟩
  · obtain ⟨a, _, _, rfl, _⟩ := h
    rfl
  · obtain ⟨a, C, n, e, m, ha, q⟩ := h
    rcases List.mem_cons.mp m with z | z
    · cases z
      exact h1.run A outer s H args us vs Q E hr e0 hb r ⟨a, e, ha, q⟩
    · exact h2.run A outer s H args us vs Q E hr e0 hb r ⟨a, C, n, e, z, ha, q⟩
end Lk
end
section
set_option maxRecDepth 100000
set_option maxHeartbeats 2000000
namespace Lk
open PySem PySem.Spec PyProof.Rows L2
/-- letters from a to z -/
def Az (l : List Nat) : Prop := ∀ c ∈ l, 97 ≤ c ∧ c ≤ 122
theorem sameBut_new {a p : Addr} {H : Hp} {o : HO} (h : H p = none) : SameBut a H (upd H p o) := fun b u n e => by rw [upd_ne (ne_of_none e h)]; exact e
theorem alpha_at {i : Nat} (h : i < 26) : (Str.ofString "abcdefghijklmnopqrstuvwxyz").cps[i]? = some (97 + i) := by
  have e : ∀ i : Fin 26, (Str.ofString "abcdefghijklmnopqrstuvwxyz").cps[i.val]? = some (97 + i.val) := by decide +kernel
  exact e ⟨i, h⟩
theorem alpha_len : (Str.ofString "abcdefghijklmnopqrstuvwxyz").length = 26 := by decide +kernel
theorem join_ones (l : List Nat) : Txt.join (Str.ofString "") (l.map fun c => SX.S [c]) = SX.S l := by
  have e : ∀ l : List Nat, TL.joinL [] (l.map fun c => [c]) = l := by
    intro l
    induction l with
    | nil => rfl
    | cons c r ih =>
      cases r with
      | nil => rfl
      | cons d r => 
        show [c] ++ ([] ++ TL.joinL [] ((d :: r).map fun c => [c])) = c :: d :: r
        rw [ih]
        rfl
  have h := SX.join_S [] (l.map fun c => [c])
  rw [e, List.map_map] at h
  exact h
section
variable {P : Program} {w : World} {K : PySem.W.Frag} {mg : Str → Option Value} {base : Heap}
def spSomeT : Sp := fun vs H Q _ => ∃ (a : Addr) (m : Int) (b : Int × Int × Int), vs = [.ref a, .int m] ∧ H a = some (bagO b) ∧ 0 ≤ m ∧ m ≤ 1000000 ∧
  ∀ l H', Az l → (l.length : Int) = m → Bag H' a → SameBut a H H' → Q (.str (SX.S l)) H'
end
def azC (c : Nat) : Bool := decide (97 ≤ c) && decide (c ≤ 122)
def isAz (l : List Nat) : Bool := l.all azC
theorem isAz_iff {l : List Nat} : isAz l = true ↔ Az l := by
  unfold isAz Az azC
  rw [List.all_eq_true]
  constructor
  · intro h c hc
    have z := h c hc
    rw [Bool.and_eq_true, decide_eq_true_eq, decide_eq_true_eq] at z
    exact z
  · intro h c hc
    rw [Bool.and_eq_true, decide_eq_true_eq, decide_eq_true_eq]
    exact h c hc
/-- what is no text -/
inductive NoStr (H : Hp) : V → Prop where
  | non : NoStr H .non
  | bl (b : Bool) : NoStr H (.bl b)
  | int (i : Int) : NoStr H (.int i)
  | lst {a : Addr} {xs : List V} (e : H a = some (.lst xs)) : NoStr H (.ref a)
  | tup {a : Addr} {xs : List V} (e : H a = some (.tup xs)) : NoStr H (.ref a)
  | dK {a : Addr} {kvs : List (Key × V)} (e : H a = some (.dK kvs)) : NoStr H (.ref a)
theorem NoStr.same {H H' : Hp} {v : V} (h : NoStr H v) (s : Same H H') : NoStr H' v := by
  cases h with
  | non => exact .non
  | bl b => exact .bl b
  | int i => exact .int i
  | lst e => exact .lst (s _ _ e)
  | tup e => exact .tup (s _ _ e)
  | dK e => exact .dK (s _ _ e)
theorem NoStr.ty {K : PySem.W.Frag} {H : Hp} {v : V} (h : NoStr H v) : ∃ n, TyX K H v (.type n) ∧ kitB n "str" = some false := by
  cases h with
  | non => exact ⟨"NoneType", .base .non, by decide +kernel⟩
  | bl b => exact ⟨"bool", .base (.bl b), by decide +kernel⟩
  | int i => exact ⟨"int", .base (.int i), by decide +kernel⟩
  | lst e => exact ⟨"list", .base (.lst e), by decide +kernel⟩
  | tup e => exact ⟨"tuple", .base (.tup e), by decide +kernel⟩
  | dK e => exact ⟨"dict", .base (.dK e), by decide +kernel⟩
/-- is_letters of v is b -/
inductive LetV (H : Hp) : V → Bool → Prop where
  | str (l : List Nat) (h : l.length ≤ 100000) : LetV H (.str (SX.S l)) (isAz l)
  | oth {v : V} (h : NoStr H v) : LetV H v false
theorem LetV.same {H H' : Hp} {v : V} {b : Bool} (h : LetV H v b) (s : Same H H') : LetV H' v b := by
  cases h with
  | str l z => exact .str l z
  | oth z => exact .oth (z.same s)
theorem lt_one (c d : Nat) : decide (([c] : List Nat) < [d]) = decide (c < d) := by
  by_cases h : c < d
  · rw [decide_eq_true h, decide_eq_true]
    exact List.Lex.rel h
  · rw [decide_eq_false h, decide_eq_false]
    intro z
    cases z with
    | rel z => exact h z
    | cons z => cases z
theorem az_ge (c : Nat) : (!decide (((SX.S [c]).cps.toList : List Nat) < (Str.ofString "a").cps.toList)) = decide (97 ≤ c) := by
  rw [show (Str.ofString "a").cps.toList = [97] from by decide +kernel]
  show (!decide (([c] : List Nat) < [97])) = _
  rw [lt_one]
  by_cases h : c < 97
  · rw [decide_eq_true h, decide_eq_false (by omega)]; rfl
  · rw [decide_eq_false h, decide_eq_true (by omega)]; rfl
theorem az_le (c : Nat) : (!decide ((Str.ofString "z").cps.toList < ((SX.S [c]).cps.toList : List Nat))) = decide (c ≤ 122) := by
  rw [show (Str.ofString "z").cps.toList = [122] from by decide +kernel]
  show (!decide (([122] : List Nat) < [c])) = _
  rw [lt_one]
  by_cases h : 122 < c
  · rw [decide_eq_true h, decide_eq_false (by omega)]; rfl
  · rw [decide_eq_false h, decide_eq_true (by omega)]; rfl
section
variable {P : Program} {w : World} {K : PySem.W.Frag} {mg : Str → Option Value} {base : Heap}
def spLetters : Sp := fun vs H Q _ => ∃ v b, vs = [v] ∧ LetV H v b ∧ ∀ H', Same H H' → Q (.bl b) H'
end

end Lk
end
section
set_option maxRecDepth 100000
set_option maxHeartbeats 2000000
/-! Numbers by their figures. -/
namespace Lk
open PySem PySem.Spec PyProof.Rows L2
def dec (n : Nat) : List Nat := (Nat.toDigits 10 n).map Char.toNat
theorem str_dec (n : Nat) : Str.ofString (toString ((n : Nat) : Int)) = SX.S (dec n) := by
  rw [Str.ofString_eq_toList]
  show (⟨((String.ofList (Nat.toDigits 10 n)).toList.map Char.toNat).toArray⟩ : Str) = _
  rw [String.toList_ofList]
  rfl
theorem dec_small {n : Nat} (h : n < 10) : dec n = [48 + n] := by
  unfold dec
  rw [Nat.toDigits_of_lt_base h, NumText.digitChar_of _ h]
  show [(Char.ofNat (48 + n)).toNat] = _
  have e : ∀ n : Nat, n < 10 → (Char.ofNat (48 + n)).toNat = 48 + n := by decide
  rw [e n h]
theorem dec_more {n : Nat} (h : 10 ≤ n) : dec n = dec (n / 10) ++ [48 + n % 10] := by
  have e : n = 10 * (n / 10) + n % 10 := (Nat.div_add_mod n 10).symm
  have z := Nat.toDigits_append_toDigits (b := 10) (n := n / 10) (d := n % 10) (by decide) (by omega) (Nat.mod_lt _ (by decide))
  rw [← e] at z
  unfold dec
  rw [← z, List.map_append]
  congr 1
  exact dec_small (Nat.mod_lt _ (by decide))
theorem dec_ne (n : Nat) : dec n ≠ [] := by
  by_cases h : n < 10
  · rw [dec_small h]; exact List.cons_ne_nil _ _
  · rw [dec_more (by omega)]
    intro z
    simp at z
theorem dec_digits (n : Nat) : NumText.AllDigits (dec n) := by
  induction n using Nat.strongRecOn with
  | _ n ih =>
    by_cases h : n < 10
    · rw [dec_small h]
      intro c hc
      rw [List.mem_singleton.mp hc]
      omega
    · rw [dec_more (by omega)]
      intro c hc
      rcases List.mem_append.mp hc with z | z
      · exact ih (n / 10) (by omega) c z
      · rw [List.mem_singleton.mp z]
        omega
theorem dec_val (n : Nat) : NumText.digitsVal (dec n) = n := by
  induction n using Nat.strongRecOn with
  | _ n ih =>
    by_cases h : n < 10
    · rw [dec_small h]
      show 0 * 10 + (48 + n - 48) = n
      omega
    · rw [dec_more (by omega), NumText.digitsVal_snoc, ih (n / 10) (by omega)]
      omega
/-- no nought ahead -/
theorem dec_head (n : Nat) : dec n = [48] ∨ ∃ c r, dec n = c :: r ∧ 49 ≤ c := by
  induction n using Nat.strongRecOn with
  | _ n ih =>
    by_cases h : n < 10
    · rw [dec_small h]
      by_cases h0 : n = 0
      · left; rw [h0]
      · exact .inr ⟨_, [], rfl, by omega⟩
    · right
      rw [dec_more (by omega)]
      rcases ih (n / 10) (by omega) with z | ⟨c, r, z, hc⟩
      · exfalso
        have y := dec_val (n / 10)
        rw [z] at y
        have x : NumText.digitsVal [48] = 0 := rfl
        omega
      · rw [z]
        exact ⟨c, r ++ [48 + n % 10], rfl, hc⟩
theorem dec_len {n k : Nat} (hk : 0 < k) (h : n < 10 ^ k) : (dec n).length ≤ k := by
  have z := (Nat.length_repr_le_iff hk).mpr h
  have e : (Nat.repr n).length = (dec n).length := by
    show (String.ofList (Nat.toDigits 10 n)).length = _
    unfold dec
    rw [List.length_map, String.length_ofList]
  omega
theorem int_dec (n : Nat) (h : (dec n).length ≤ 4300) : intText? (SX.S (dec n)) = some ((n : Nat) : Int) := by
  have z := intText_digits (x := SX.S (dec n)) (dec_digits n) (dec_ne n) (by rw [SX.S_len]; exact h)
  have e : (SX.S (dec n)).cps.toList = dec n := rfl
  rw [e, dec_val] at z
  exact z
theorem dec_inj {a b : Nat} (h : dec a = dec b) : a = b := by
  rw [← dec_val a, ← dec_val b, h]
theorem dec_noblank (n : Nat) : (32 : Nat) ∉ dec n := fun z => by
  have y := dec_digits n 32 z
  omega
/-! ### what a text says as a number -/
def isDig (c : Nat) : Bool := decide (48 ≤ c) && decide (c ≤ 57)
def readN (w : List Nat) : Option Nat := if decide (1 ≤ w.length) && decide (w.length ≤ 40) && w.all isDig && !(decide (w.head? = some 48) && decide (w ≠ [48])) then some (NumText.digitsVal w) else none
theorem readN_bad {w : List Nat} (h : ¬ (1 ≤ w.length ∧ w.length ≤ 40 ∧ w.all isDig = true)) : readN w = none := by
  unfold readN
  refine if_neg fun z => h ?_
  simp only [Bool.and_eq_true, decide_eq_true_eq] at z
  exact ⟨z.1.1.1, z.1.1.2, z.1.2⟩
theorem readN_zero {w : List Nat} (h : w.head? = some 48) (k : w ≠ [48]) : readN w = none := by
  unfold readN
  refine if_neg fun z => ?_
  rw [Bool.and_eq_true] at z
  rw [decide_eq_true h, decide_eq_true k] at z
  exact absurd z.2 (by decide)
theorem readN_good {w : List Nat} (h1 : 1 ≤ w.length) (h2 : w.length ≤ 40) (h3 : w.all isDig = true) (h4 : ¬ (w.head? = some 48 ∧ w ≠ [48])) : readN w = some (NumText.digitsVal w) := by
  unfold readN
  refine if_pos ?_
  rw [decide_eq_true h1, decide_eq_true h2, h3]
  by_cases c : w.head? = some 48
  · rw [decide_eq_true c, decide_eq_false (fun z => h4 ⟨c, z⟩)]; rfl
  · rw [decide_eq_false c]; rfl
theorem dig_ge (c : Nat) : (!decide (((SX.S [c]).cps.toList : List Nat) < (Str.ofString "0").cps.toList)) = decide (48 ≤ c) := by
  rw [show (Str.ofString "0").cps.toList = [48] from by decide +kernel]
  show (!decide (([c] : List Nat) < [48])) = _
  rw [lt_one]
  by_cases h : c < 48
  · rw [decide_eq_true h, decide_eq_false (by omega)]; rfl
  · rw [decide_eq_false h, decide_eq_true (by omega)]; rfl
theorem dig_le (c : Nat) : (!decide ((Str.ofString "9").cps.toList < ((SX.S [c]).cps.toList : List Nat))) = decide (c ≤ 57) := by
  rw [show (Str.ofString "9").cps.toList = [57] from by decide +kernel]
  show (!decide (([57] : List Nat) < [c])) = _
  rw [lt_one]
  by_cases h : 57 < c
  · rw [decide_eq_true h, decide_eq_false (by omega)]; rfl
  · rw [decide_eq_false h, decide_eq_true (by omega)]; rfl
theorem all_dig {w : List Nat} (h : w.all isDig = true) : NumText.AllDigits w := fun c hc => by
  have z := List.all_eq_true.mp h c hc
  unfold isDig at z
  rw [Bool.and_eq_true] at z
  exact ⟨of_decide_eq_true z.1, of_decide_eq_true z.2⟩
theorem read_dec {n : Nat} (h : n < 10 ^ 40) : readN (dec n) = some n := by
  unfold readN
  have h1 := dec_len (k := 40) (by decide) h
  have h0 : 1 ≤ (dec n).length := List.length_pos_iff.mpr (dec_ne n)
  have h2 : (dec n).all isDig = true := List.all_eq_true.mpr fun c hc => by
    have z := dec_digits n c hc
    unfold isDig
    rw [decide_eq_true z.1, decide_eq_true z.2]
    rfl
  rw [decide_eq_true h0, decide_eq_true h1, h2]
  have h3 : (decide ((dec n).head? = some 48) && decide (dec n ≠ [48])) = false := by
    rcases dec_head n with z | ⟨c, r, z, hc⟩
    · rw [z]; rfl
    · rw [z, decide_eq_false (by intro y; have := Option.some.inj y; omega)]; rfl
  rw [h3, dec_val]
  rfl
/-- numbers with blanks between -/
def blanks (ns : List Nat) : List Nat := TL.joinL [32] (ns.map dec)
/-- a coder's text -/
def wordsC (c : Cd) : List (List Nat) := [97, 116] :: dec c.1 :: [107, 110, 111, 119, 115] :: c.2.map dec
def showL (c : Cd) : List Nat := TL.joinL [32] (wordsC c)
theorem split_show (c : Cd) : TL.spl [32] 0 [] (showL c) = wordsC c := by
  refine SX.spl_join (c := 32) (sep := []) (List.cons_ne_nil _ _) fun p hp => ?_
  unfold wordsC at hp
  rcases List.mem_cons.mp hp with rfl | hp
  · decide
  rcases List.mem_cons.mp hp with rfl | hp
  · exact dec_noblank _
  rcases List.mem_cons.mp hp with rfl | hp
  · decide
  obtain ⟨n, _, rfl⟩ := List.mem_map.mp hp
  exact dec_noblank _
theorem show_inj {c d : Cd} (h : showL c = showL d) : c = d := by
  have z := congrArg (TL.spl [32] 0 []) h
  rw [split_show, split_show] at z
  unfold wordsC at z
  injection z with _ z
  injection z with z1 z
  injection z with _ z
  refine Prod.ext (dec_inj z1) ?_
  have z2 := congrArg (List.map NumText.digitsVal) z
  rw [List.map_map, List.map_map] at z2
  have e : ∀ l : List Nat, l.map (NumText.digitsVal ∘ dec) = l := fun l => by
    rw [show (NumText.digitsVal ∘ dec) = id from funext dec_val, List.map_id]
  rw [e, e] at z2
  exact z2
theorem show_cons (c : Cd) (h : c.2 ≠ []) : showL c = [97, 116, 32] ++ (dec c.1 ++ ([32, 107, 110, 111, 119, 115, 32] ++ blanks c.2)) := by
  obtain ⟨a, l⟩ := c
  cases l with
  | nil => exact absurd rfl h
  | cons b l =>
    unfold showL wordsC blanks
    simp only [List.map_cons, TL.joinL, List.append_assoc, List.cons_append, List.nil_append]
theorem joinL_len (ws : List (List Nat)) {B : Nat} (h : ∀ w ∈ ws, w.length ≤ B) : (TL.joinL [32] ws).length ≤ ws.length * (B + 1) := by
  match ws, h with
  | [], _ => exact Nat.zero_le _
  | [p], h =>
    have := h p List.mem_cons_self
    show p.length ≤ 1 * (B + 1)
    omega
  | p :: q :: r, h =>
    have h1 := h p List.mem_cons_self
    have h2 := joinL_len (q :: r) fun w hw => h w (List.mem_cons_of_mem _ hw)
    show (p ++ ([32] ++ TL.joinL [32] (q :: r))).length ≤ _
    rw [List.length_append, List.length_append]
    show p.length + (1 + _) ≤ (r.length + 1 + 1) * (B + 1)
    have e : (q :: r).length = r.length + 1 := rfl
    rw [e] at h2
    rw [Nat.succ_mul (r.length + 1)]
    omega
end Lk
end
section
set_option maxRecDepth 100000
set_option maxHeartbeats 2000000
namespace Lk
open PySem PySem.Spec PyProof.Rows L2
def numFrom : Nat → List (List Nat) → List (Key × V)
  | _, [] => []
  | n, w :: r => (.inr (SX.S w), .int (n : Nat)) :: numFrom (n + 1) r
theorem num_len : ∀ (n : Nat) (ws : List (List Nat)), (numFrom n ws).length = ws.length
  | _, [] => rfl
  | n, w :: r => congrArg (· + 1) (num_len (n + 1) r)
theorem num_snoc : ∀ (n : Nat) (ws : List (List Nat)) (w : List Nat), numFrom n (ws ++ [w]) = numFrom n ws ++ [(.inr (SX.S w), .int ((n + ws.length : Nat) : Int))]
  | n, [], w => by simp [numFrom]
  | n, x :: r, w => by
    show _ :: numFrom (n + 1) (r ++ [w]) = _ :: (numFrom (n + 1) r ++ [_])
    rw [num_snoc (n + 1) r w, List.length_cons, show n + 1 + r.length = n + (r.length + 1) by omega]
theorem num_val : ∀ (n : Nat) (ws : List (List Nat)) (w : List Nat), valV (numFrom n ws) (Sum.inr (SX.S w)) = if w ∈ ws then some (V.int ((n + ws.idxOf w : Nat) : Int)) else none
  | n, [], w => by rw [if_neg (by simp)]; rfl
  | n, x :: r, w => by
    by_cases h : x = w
    · subst h
      rw [if_pos List.mem_cons_self]
      have e : valV (numFrom n (x :: r)) (Sum.inr (SX.S x)) = some (V.int (n : Nat)) := valV_pos rfl
      rw [e, List.idxOf_cons_self]
      rfl
    · have e : valV (numFrom n (x :: r)) (Sum.inr (SX.S w)) = valV (numFrom (n + 1) r) (Sum.inr (SX.S w)) := valV_neg fun z => h (SX.S_inj (Sum.inr.inj z))
      rw [e, num_val (n + 1) r w]
      have hm : w ∈ x :: r ↔ w ∈ r := ⟨fun z => (List.mem_cons.mp z).resolve_left fun q => h q.symm, List.mem_cons_of_mem _⟩
      by_cases hr : w ∈ r
      · have ei : (x :: r).idxOf w = r.idxOf w + 1 := by
          rw [List.idxOf_cons, show (x == w) = false from beq_false_of_ne h]
          rfl
        rw [if_pos hr, if_pos (hm.mpr hr), ei, show n + 1 + r.idxOf w = n + (r.idxOf w + 1) by omega]
      · rw [if_neg hr, if_neg fun z => hr (hm.mp z)]
theorem num_is (ws : List (List Nat)) (w : List Nat) : (valV (numFrom 0 ws) (Sum.inr (SX.S w))).isSome = decide (w ∈ ws) := by
  rw [num_val]
  by_cases h : w ∈ ws
  · rw [if_pos h, decide_eq_true h]; rfl
  · rw [if_neg h, decide_eq_false h]; rfl
theorem num_put {ws : List (List Nat)} {w : List Nat} (h : w ∉ ws) : putK (numFrom 0 ws) (Sum.inr (SX.S w)) (.int (ws.length : Nat)) = numFrom 0 (ws ++ [w]) := by
  have z : valV (numFrom 0 ws) (Sum.inr (SX.S w)) = none := by rw [num_val, if_neg h]
  rw [putK_new _ z, num_snoc, Nat.zero_add]
/-- the texts of words, as they stand in a list or tuple -/
abbrev tx (ws : List (List Nat)) : List V := ws.map fun w => V.str (SX.S w)
theorem SqT_same {K : PySem.W.Frag} {H H' : Hp} {a : Addr} {xs : List V} (h : SqT K H a xs) (s : Same H H') : SqT K H' a xs := by
  rcases h with (h | ⟨o, h⟩) | h
  · exact .inl (.inl (s _ _ h))
  · exact .inl (.inr ⟨o, s _ _ h⟩)
  · exact .inr h
theorem SqL_same {K : PySem.W.Frag} {H H' : Hp} {a : Addr} {xs : List V} (h : SqL K H a xs) (s : Same H H') : SqL K H' a xs := by
  rcases h with (h | ⟨o, h⟩) | h
  · exact .inl (.inl (s _ _ h))
  · exact .inl (.inr ⟨o, s _ _ h⟩)
  · exact .inr h
def sub (t : List Nat) (a b : Nat) : List Nat := (t.drop a).take (b - a)
theorem slice_sub {t : List Nat} {i j : Int} (h0 : 0 ≤ i) (h1 : i ≤ j) (h2 : j ≤ t.length) : Txt.slice (SX.S t) (some i) (some j) = SX.S (sub t i.toNat j.toNat) := by
  have e := beq_iff_eq.mp (PyProof.Rows.slice_closesL (x := SX.S t) h0 h1 (by rw [SX.S_len]; exact h2))
  refine e.trans (TL.ext_tl ?_)
  show (t.drop i.toNat).take (j - i).toNat = (t.drop i.toNat).take (j.toNat - i.toNat)
  rw [show (j - i).toNat = j.toNat - i.toNat by omega]
/-- from at on the longest of ws with which t goes on ends at e -/
structure LE (ws : List (List Nat)) (t : List Nat) (at' e : Nat) : Prop where
  ge : at' ≤ e
  le : e ≤ t.length
  all : ∀ j, at' < j → j ≤ e → sub t at' j ∈ ws
  no : e < t.length → sub t at' (e + 1) ∉ ws
section
variable {P : Program} {w : World} {K : PySem.W.Frag} {mg : Str → Option Value} {base : Heap}
def spNumbered (K : PySem.W.Frag) : Sp := fun vs H Q _ => ∃ a ws, vs = [.ref a] ∧ SqT K H a (tx ws) ∧ (([] : List Nat) :: ws).Nodup ∧ ws.length ≤ 100000 ∧
  ∀ p H', H p = none → H' p = some (.dK (numFrom 0 ([] :: ws))) → Same H H' → Q (.ref p) H'
end
theorem sub_len {t : List Nat} {a b : Nat} (h1 : a ≤ b) (h2 : b ≤ t.length) : (sub t a b).length = b - a := by
  unfold sub
  rw [List.length_take, List.length_drop]
  omega
theorem sub_all (t : List Nat) : sub t 0 t.length = t := by
  unfold sub
  rw [List.drop_zero, Nat.sub_zero]
  exact List.take_of_length_le (Nat.le_refl _)
theorem LE.uniq {ws : List (List Nat)} {t : List Nat} {a e e' : Nat} (h : LE ws t a e) (h' : LE ws t a e') : e = e' := by
  rcases Nat.lt_trichotomy e e' with c | c | c
  · have := h'.le
    have := h.ge
    exact absurd (h'.all (e + 1) (by omega) (by omega)) (h.no (by omega))
  · exact c
  · have := h.le
    have := h'.ge
    exact absurd (h.all (e' + 1) (by omega) (by omega)) (h'.no (by omega))
theorem LE.get (ws : List (List Nat)) (t : List Nat) : ∀ (n a b : Nat), a ≤ b → b ≤ t.length → t.length - b = n → (∀ j, a < j → j ≤ b → sub t a j ∈ ws) → ∃ e, LE ws t a e
  | 0, a, b, h1, h2, h3, h => ⟨b, h1, h2, h, fun z => absurd z (by omega)⟩
  | n + 1, a, b, h1, h2, h3, h => by
    by_cases c : sub t a (b + 1) ∈ ws
    · exact LE.get ws t n a (b + 1) (by omega) (by omega) (by omega) fun j j1 j2 => by
        rcases Nat.lt_or_ge b j with z | z
        · rw [show j = b + 1 by omega]; exact c
        · exact h j j1 z
    · exact ⟨b, h1, h2, h, fun _ => c⟩
theorem LE.ex (ws : List (List Nat)) (t : List Nat) (a : Nat) (h : a ≤ t.length) : ∃ e, LE ws t a e := LE.get ws t _ a a (Nat.le_refl _) h rfl fun j j1 j2 => absurd j1 (by omega)
section
variable {P : Program} {w : World} {K : PySem.W.Frag} {mg : Str → Option Value} {base : Heap}
def spLongest : Sp := fun vs H Q _ => ∃ d ws t a, vs = [.ref d, .str (SX.S t), .int ((a : Nat) : Int)] ∧ H d = some (.dK (numFrom 0 ws)) ∧ a ≤ t.length ∧ t.length ≤ 100000 ∧
  ∀ e : Nat, LE ws t a e → Q (.int ((e : Nat) : Int)) H
end
def isWord (l : List Nat) : Bool := isAz l && decide (0 < l.length)
/-- is_word of v is b -/
inductive WordV (H : Hp) : V → Bool → Prop where
  | str (l : List Nat) (h : l.length ≤ 100000) : WordV H (.str (SX.S l)) (isWord l)
  | oth {v : V} (h : NoStr H v) : WordV H v false
theorem WordV.same {H H' : Hp} {v : V} {b : Bool} (h : WordV H v b) (s : Same H H') : WordV H' v b := by
  cases h with
  | str l z => exact .str l z
  | oth z => exact .oth (z.same s)
/-- what is no tuple -/
inductive NoTup (H : Hp) : V → Prop where
  | non : NoTup H .non
  | bl (b : Bool) : NoTup H (.bl b)
  | int (i : Int) : NoTup H (.int i)
  | str (z : Str) : NoTup H (.str z)
  | lst {a : Addr} {xs : List V} (e : H a = some (.lst xs)) : NoTup H (.ref a)
  | dK {a : Addr} {kvs : List (Key × V)} (e : H a = some (.dK kvs)) : NoTup H (.ref a)
theorem NoTup.same {H H' : Hp} {v : V} (h : NoTup H v) (s : Same H H') : NoTup H' v := by
  cases h with
  | non => exact .non
  | bl b => exact .bl b
  | int i => exact .int i
  | str z => exact .str z
  | lst e => exact .lst (s _ _ e)
  | dK e => exact .dK (s _ _ e)
theorem NoTup.ty {K : PySem.W.Frag} {H : Hp} {v : V} (h : NoTup H v) : ∃ n, TyX K H v (.type n) ∧ kitB n "tuple" = some false := by
  cases h with
  | non => exact ⟨"NoneType", .base .non, by decide +kernel⟩
  | bl b => exact ⟨"bool", .base (.bl b), by decide +kernel⟩
  | int i => exact ⟨"int", .base (.int i), by decide +kernel⟩
  | str z => exact ⟨"str", .base (.str z), by decide +kernel⟩
  | lst e => exact ⟨"list", .base (.lst e), by decide +kernel⟩
  | dK e => exact ⟨"dict", .base (.dK e), by decide +kernel⟩
/-- rising, as texts -/
def Rise : List (List Nat) → Bool
  | [] => true
  | [_] => true
  | a :: b :: r => decide (a < b) && Rise (b :: r)
/-- with each word also the word without its last letter -/
def Clos (ws : List (List Nat)) : Bool := ws.all fun l => decide (l.take (l.length - 1) ∈ ([] : List Nat) :: ws)
def isKnown (ws : List (List Nat)) : Bool := ws.all isWord && (Rise ws && Clos ws)
/-- is_known of v is b -/
inductive KnownV (H : Hp) : V → Bool → Prop where
  | no {v : V} (h : NoTup H v) : KnownV H v false
  | bad {a : Addr} {xs : List V} {bs : List Bool} (e : H a = some (.tup xs)) (hl : xs.length ≤ 100000) (h : bs.length = xs.length) (hw : ∀ (i : Nat) (x : V) (b : Bool), xs[i]? = some x → bs[i]? = some b → WordV H x b) (hb : bs.all id = false) : KnownV H (.ref a) false
  | tup {a : Addr} {ws : List (List Nat)} (e : H a = some (.tup (tx ws))) (hl : ws.length ≤ 100000) (h : ∀ x ∈ ws, x.length ≤ 100000) : KnownV H (.ref a) (isKnown ws)
theorem KnownV.same {H H' : Hp} {v : V} {b : Bool} (h : KnownV H v b) (s : Same H H') : KnownV H' v b := by
  cases h with
  | no h => exact .no (h.same s)
  | bad e hl h hw hb => exact .bad (s _ _ e) hl h (fun i x b hx hb => (hw i x b hx hb).same s) hb
  | tup e hl h => exact .tup (s _ _ e) hl h
section
variable {P : Program} {w : World} {K : PySem.W.Frag} {mg : Str → Option Value} {base : Heap}
def spWord : Sp := fun vs H Q _ => ∃ v b, vs = [v] ∧ WordV H v b ∧ ∀ H', Same H H' → Q (.bl b) H'
theorem walk_zipTx {a b : Addr} {xs ys : List V} {n : Nat} (hn : n = min xs.length ys.length) : Walk (RZ.ItzT K a b) n (fun H => SqT K H a xs ∧ SqT K H b ys) (YPair (fun i => xs[i]?) (fun i => ys[i]?)) := by
  subst hn
  refine ⟨fun i _ hi q => ?_, fun _ q => ⟨xs, ys, q.1, q.2, by omega⟩, fun i H v H' _ q y => ?_⟩
  · have h1 : i < xs.length := by omega
    have h2 : i < ys.length := by omega
    exact ⟨xs, ys, xs[i], ys[i], q.1, q.2, by simp [h1], by simp [h2]⟩
  · obtain ⟨T, x, z, h1, h2, h3, h4, h5⟩ := y
    exact ⟨T, x, z, h1, h2, h3, h4 xs q.1, h5 ys q.2⟩
end
/-- t[1:] of a tuple: all but its first, new or not -/
def rTail (K : PySem.W.Frag) : V → Option Int → Option Int → Hp → VK → Prop := fun x lo hi H Q => ∃ a xs, x = .ref a ∧ lo = some 1 ∧ hi = none ∧ SqT K H a xs ∧ ∀ b H', Same H H' → SqT K H' b (xs.drop 1) → Q (.ref b) H'
theorem sl_tail {X : Cx} : SlR X (rTail X.K) := by
  intro pins s σ H x v vl vu lo hi sl Q I rx hs pl pu h
  obtain ⟨a, xs, rfl, rfl, rfl, hx, q⟩ := h
  refine sl_tupA pins s σ H _ v vl vu _ _ sl Q I rx hs pl pu ⟨a, xs, rfl, hx, fun z => ?_, fun z p hp => ?_⟩
  · have e : min 1 xs.length = 0 := z.1
    have e2 : xs = [] := List.eq_nil_of_length_eq_zero (by omega)
    subst e2
    exact q a H (Same.refl H) hx
  · refine q p _ (same_new hp) (.inl (.inl ?_))
    rw [upd_same]
    have e : cutV xs (some 1) none = xs.drop 1 := by
      show (xs.drop (min 1 xs.length)).take (xs.length - min 1 xs.length) = xs.drop 1
      cases xs with
      | nil => rfl
      | cons x r =>
        rw [List.length_cons, show min 1 (r.length + 1) = 1 by omega]
        exact List.take_of_length_le (by rw [List.length_drop, List.length_cons] <;> omega)
    rw [e]
def risebs (ws : List (List Nat)) : List Bool := (ws.zip (ws.drop 1)).map fun p => decide (p.1 < p.2)
theorem riseT_all : ∀ ws : List (List Nat), (risebs ws).all id = Rise ws
  | [] => rfl
  | [_] => rfl
  | a :: b :: r => by
    show (decide (a < b) && (risebs (b :: r)).all id) = (decide (a < b) && Rise (b :: r))
    rw [riseT_all (b :: r)]
theorem rise_pair : ∀ {ws : List (List Nat)}, Rise ws = true → ws.Pairwise (· < ·)
  | [], _ => List.Pairwise.nil
  | [a], _ => List.pairwise_singleton _ a
  | a :: b :: r, h => by
    have h' : (decide (a < b) && Rise (b :: r)) = true := h
    rw [Bool.and_eq_true, decide_eq_true_eq] at h'
    have ih := rise_pair h'.2
    refine List.Pairwise.cons (fun y hy => ?_) ih
    rcases List.mem_cons.mp hy with e | e
    · rw [e]; exact h'.1
    · exact List.lt_trans h'.1 ((List.pairwise_cons.mp ih).1 y e)
theorem rise_nodup {ws : List (List Nat)} (h : Rise ws = true) : ws.Nodup :=
  (rise_pair h).imp (S := fun a b => a ≠ b) fun {a b} hl (e : a = b) => List.lt_irrefl b (by rw [e] at hl; exact hl)
theorem isWord_iff {l : List Nat} : isWord l = true ↔ Az l ∧ 0 < l.length := by
  unfold isWord
  rw [Bool.and_eq_true, decide_eq_true_eq, isAz_iff]
theorem word_ne {l : List Nat} (h : isWord l = true) : l ≠ [] := List.ne_nil_of_length_pos (isWord_iff.mp h).2
theorem nodup0 {ws : List (List Nat)} (hw : ws.all isWord = true) (hr : Rise ws = true) : (([] : List Nat) :: ws).Nodup :=
  List.nodup_cons.mpr ⟨fun z => word_ne (List.all_eq_true.mp hw [] z) rfl, rise_nodup hr⟩
theorem tx_at {ws : List (List Nat)} {i : Nat} {x : V} (h : (tx ws)[i]? = some x) : ∃ l, ws[i]? = some l ∧ x = .str (SX.S l) := by
  rw [List.getElem?_map] at h
  cases e : ws[i]? with
  | none => rw [e] at h; cases h
  | some l => rw [e] at h; exact ⟨l, rfl, (Option.some.inj h).symm⟩
section
variable {P : Program} {w : World} {K : PySem.W.Frag} {mg : Str → Option Value} {base : Heap}
def spIsKnown : Sp := fun vs H Q _ => ∃ v b, vs = [v] ∧ KnownV H v b ∧ ∀ H', Same H H' → Q (.bl b) H'
abbrev nK : List Str := ["thing", "numbers", "word", "later"]
end
theorem KnownV.words {H : Hp} {v : V} {b : Bool} (h : KnownV H v b) (hb : b = true) : ∃ a ws, v = .ref a ∧ H a = some (.tup (tx ws)) ∧ isKnown ws = true ∧ ws.length ≤ 100000 := by
  cases h with
  | no h => cases hb
  | bad e hl h hw hb' => cases hb
  | tup e hl h => exact ⟨_, _, rfl, e, hb, hl⟩
def isText (l : List Nat) : Bool := isAz l && decide (l.length ≤ 2000)
/-- whether v is a text that a learner may read is b -/
inductive TextV (H : Hp) : V → Bool → Prop where
  | str (l : List Nat) (h : l.length ≤ 100000) : TextV H (.str (SX.S l)) (isText l)
  | oth {v : V} (h : NoStr H v) : TextV H v false
theorem TextV.same {H H' : Hp} {v : V} {b : Bool} (h : TextV H v b) (s : Same H H') : TextV H' v b := by
  cases h with
  | str l z => exact .str l z
  | oth z => exact .oth (z.same s)
theorem TextV.text {H : Hp} {v : V} {b : Bool} (h : TextV H v b) (hb : b = true) : ∃ l, v = .str (SX.S l) ∧ isText l = true := by
  cases h with
  | str l z => exact ⟨l, rfl, hb⟩
  | oth z => cases hb
theorem isText_iff {l : List Nat} : isText l = true ↔ Az l ∧ l.length ≤ 2000 := by
  unfold isText
  rw [Bool.and_eq_true, decide_eq_true_eq, isAz_iff]
theorem isKnown_iff {ws : List (List Nat)} : isKnown ws = true ↔ ws.all isWord = true ∧ Rise ws = true ∧ Clos ws = true := by
  unfold isKnown
  rw [Bool.and_eq_true, Bool.and_eq_true]
/-- from at on a text is read into these new words; the rest begins at r -/
inductive Reads : List (List Nat) → List Nat → Nat → List (List Nat) → Nat → Prop where
  | done {ws : List (List Nat)} {t : List Nat} {a : Nat} (h : LE ws t a t.length) : Reads ws t a [] a
  | more {ws : List (List Nat)} {t : List Nat} {a e r : Nat} {ns : List (List Nat)} (h : LE ws t a e) (he : e < t.length) (hr : Reads (ws ++ [sub t a (e + 1)]) t (e + 1) ns r) : Reads ws t a (sub t a (e + 1) :: ns) r
section
variable {P : Program} {w : World} {K : PySem.W.Frag} {mg : Str → Option Value} {base : Heap}
def spRefK (C : Addr) : Sp := fun vs H Q E => ∃ v b, vs = [v] ∧ KnownV H v b ∧ (b = true → ∀ H', Same H H' → Q .non H') ∧ (b = false → ∀ H', Same H H' → E (.ref C) none H')
def spRefT (C : Addr) : Sp := fun vs H Q E => ∃ v b, vs = [v] ∧ TextV H v b ∧ (b = true → ∀ H', Same H H' → Q .non H') ∧ (b = false → ∀ H', Same H H' → E (.ref C) none H')
def spRead (CK CT : Addr) : Sp := fun vs H Q E => ∃ kv tv b1 b2, vs = [kv, tv] ∧ KnownV H kv b1 ∧ TextV H tv b2 ∧ (b1 = false → ∀ H', Same H H' → E (.ref CK) none H') ∧ (b1 = true → b2 = false → ∀ H', Same H H' → E (.ref CT) none H') ∧
  (b1 = true → b2 = true → ∀ a ws t, kv = .ref a → H a = some (.tup (tx ws)) → isKnown ws = true → tv = .str (SX.S t) → ∀ ns r, Reads ([] :: ws) t 0 ns r → r ≤ t.length →
    ∀ d p H', Same H H' → H d = none → H' d = some (.dK (numFrom 0 (([] :: ws) ++ ns))) → H' p = some (.tup [.ref d, .str (SX.S (t.drop r))]) → Q (.ref p) H')
end

end Lk
end
section
set_option maxRecDepth 100000
set_option maxHeartbeats 2000000
/-! Sets of texts of one sign: set(text), its length, sorted. -/
namespace Lk
open PySem PySem.Spec PySem.Calls PySem.Froz PyProof.Rows L2
/-- the payload's table rises, and can be walked -/
def TxR (w : World) (D : SD) : Prop := Ris D.2.2.place.toList ∧ (w.params.followText "set-order" = true ∨ D.2.2.led = true)
theorem tailTx_ris {w : World} {ep : Nat} {es1 : Array (Int × Value)} {t2 : SetTable} {wd : Bool} (r1 : Ris t2.place.toList) (r2 : w.params.followText "set-order" = true ∨ t2.led = true) : TxR w (tailTx ep es1 t2 wd) := by
  unfold tailTx
  by_cases c : (!wd && t2.tooFull) = true
  · rw [if_pos c]
    exact ⟨relayAll_ris _ _ _, by rw [relayAll_led]; exact r2⟩
  · rw [if_neg c]
    exact ⟨r1, r2⟩
theorem addTx_ris {w : World} {D : SD} (h : Int) (v : Value) (r : TxR w D) : TxR w (addTx h v D) := by
  obtain ⟨es, ep, t⟩ := D
  obtain ⟨r1, r2⟩ := r
  have q1 := layNew_ris t es h v r1
  have q2 : (layNew t es h v).2.1.led = t.led := layNew_led t es h v
  have q3 : w.params.followText "set-order" = true ∨ (layNew t es h v).2.1.led = true := r2.imp id fun z => by rw [q2]; exact z
  unfold addTx
  refine tailTx_ris ?_ ?_
  · split
    · exact q1
    · exact q1
  · split
    · exact q3
    · exact q3
section
variable {P : Program} {w : World} {A : Around} {E : Value → Shared → Prop} {s : Shared}
theorem add_in {a : Addr} {T : String} {D : SD} {l : List Str} {k : Str} {u : Tok} {Q : Bool → Shared → Prop} (ho : s.heap.get? a = some (sObj T D)) (F : TxOk P w D l) (hk : k ∈ l) (hb : l.length < scanBound) (h : Q false s) :
    wpAny (model P w) A (setAddHashed a (.str k u) (hashStr w k)) Q E s := by
  have hsz := F.sz
  obtain ⟨j, hj⟩ : ∃ j, List.findIdx? (fun e => (strKind P w).is k e.2) D.1.toList = some j := by
    cases e : List.findIdx? (fun e => (strKind P w).is k e.2) D.1.toList with
    | some j => exact ⟨j, rfl⟩
    | none =>
      obtain ⟨z, hz, q⟩ := (F.mem k).mp hk
      have c := List.findIdx?_eq_none_iff.mp e z hz
      rw [q] at c
      cases c
  unfold setAddHashed setAddHashedIn
  refine wpAny_holding (wpAny_bind (wpAny_setState_of ho rfl F.fit ?_))
  dsimp only
  rw [byScan_of rfl (by omega) F.el]
  simp only [↓reduceIte]
  unfold setAddByScan
  refine wpAny_bind (wpAny_bind (wpAny_rule (wpAny_bind (wpAny_setScan_of (knd := strKind P w) (k := k) (is_str k u) ho rfl F.fit F.el ?_))))
  rw [hj]
  dsimp only
  exact wpAny_pure (wpAny_pure h)
end
section
variable {P : Program} {w : World} {A : Around} {R : Result → Shared → Prop}
theorem sing_inj {c d : Nat} (h : sing c = sing d) : c = d := by
  have q : [c] = [d] := congrArg (fun y : Str => y.cps.toList) h
  exact (List.cons.inj q).1
/-- the rest of a text's signs go into the set -/
theorem upd_all {a it : Addr} (hne : a ≠ it) {x : Str} {u : Tok} (hh : A.handled = none) : ∀ (cs : List Nat) (i : Nat) (D : SD) (l : List Str) (s : Shared), x.cps.toList.drop i = cs →
    s.heap.get? a = some (sObj "set" D) → s.heap.get? it = some (itObj x u i) → TxOk P w D l → TxR w D → l.Nodup → l.length + cs.length < scanBound →
    (∀ h' tk D' l', (∀ b o, b ≠ a → b ≠ it → s.heap.get? b = some o → h'.get? b = some o) → h'.get? a = some (sObj "set" D') → TxOk P w D' l' → TxR w D' → l'.Nodup → (∀ y, y ∈ l' ↔ y ∈ l ∨ ∃ c ∈ cs, y = sing c) →
      l'.length ≤ l.length + cs.length → R (.ok (.ret .none)) { s with heap := h', toks := tk }) → codeAny (model P w) A (.builtin "set.update.loop" ⟨[.ref a, .ref it], []⟩) R s
  | [], i, D, l, s, hd, ha, hit, F, rr, nd, hb, h => by
    refine codeAny_builtin PyProof.Rows.F.entry_set_update_loop ?_
    rw [Around.under_plainId PyProof.Rows.F.plain_set_update_loop _]
    show wpAny _ A.in1 (pyNext (.ref it) >>= _) _ _ s
    refine wpAny_bind (end_x (u := u) (by exact hh) hit (at_end hd) (wpAny_pure ?_))
    have k : ∀ b o, b ≠ it → s.heap.get? b = some o → (endHeap s.heap it i).get? b = some o := fun b o hb e =>
      Heap.get?_push_of_some _ (Heap.get?_push_of_some _ (PySem.Heap.get?_update_of_ne _ (Ne.symm hb) e))
    exact h _ _ D l (fun b o _ hb e => k b o hb e) (k a _ hne ha) F rr nd (fun y => by simp) (Nat.le_refl _)
  | c :: r, i, D, l, s, hd, ha, hit, F, rr, nd, hb, h => by
    obtain ⟨hx, hd2⟩ := Froz.at_of hd
    have hb2 : l.length + (r.length + 1) < scanBound := hb
    refine codeAny_builtin PyProof.Rows.F.entry_set_update_loop ?_
    rw [Around.under_plainId PyProof.Rows.F.plain_set_update_loop _]
    show wpAny _ A.in1 (pyNext (.ref it) >>= _) _ _ s
    refine wpAny_bind (next_x (u := u) hit hx ?_)
    show wpAny _ A.in1 (holding [Value.str (sing c) s.toks] (setAdd a (.str (sing c) s.toks)) >>= _) _ _ _
    refine wpAny_bind (wpAny_holding ?_)
    unfold setAdd
    refine wpAny_holding (wpAny_bind ((strKind P w).pyHash (k := sing c) (is_str _ _) ?_))
    have ha1 : (s.heap.update it (fun _ => itObj x u (i + 1))).get? a = some (sObj "set" D) := PySem.Heap.get?_update_of_ne _ (Ne.symm hne) ha
    have hit1 : (s.heap.update it (fun _ => itObj x u (i + 1))).get? it = some (itObj x u (i + 1)) := get_upd _ hit rfl
    have oth1 : ∀ b o, b ≠ it → s.heap.get? b = some o → (s.heap.update it (fun _ => itObj x u (i + 1))).get? b = some o := fun b o hb e => PySem.Heap.get?_update_of_ne _ (Ne.symm hb) e
    by_cases hm : sing c ∈ l
    · refine add_in (s := { s with heap := s.heap.update it (fun _ => itObj x u (i + 1)), toks := s.toks + 1 + 1 }) ha1 F hm (by omega) ?_
      refine wpAny_pure ⟨plainId_quiet PyProof.Rows.F.plain_set_update_loop _, upd_all hne hh r (i + 1) D l _ hd2 ha1 hit1 F rr nd (by omega) fun h' tk D' l' k ga F' rr' nd' mm ll => ?_⟩
      refine h h' tk D' l' (fun b o na ni e => k b o na ni (oth1 b o ni e)) ga F' rr' nd' (fun y => ?_) (by show l'.length ≤ l.length + (r.length + 1); omega)
      rw [mm y]
      constructor
      · rintro (q | ⟨d, hd, q⟩)
        · exact .inl q
        · exact .inr ⟨d, List.mem_cons_of_mem _ hd, q⟩
      · rintro (q | ⟨d, hd, q⟩)
        · exact .inl q
        · rcases List.mem_cons.mp hd with e | e
          · exact .inl (by rw [q, e]; exact hm)
          · exact .inr ⟨d, e, q⟩
    · refine add_x (l := l) (D := D) (s := { s with heap := s.heap.update it (fun _ => itObj x u (i + 1)), toks := s.toks + 1 + 1 }) ha1 F hm (by omega) ?_
      have ha2 : ((s.heap.update it (fun _ => itObj x u (i + 1))).update a (fun _ => sObj "set" (addTx (hashStr w (sing c)) (.str (sing c) s.toks) D))).get? a = some (sObj "set" (addTx (hashStr w (sing c)) (.str (sing c) s.toks) D)) := get_upd _ ha1 rfl
      have hit2 : ((s.heap.update it (fun _ => itObj x u (i + 1))).update a (fun _ => sObj "set" (addTx (hashStr w (sing c)) (.str (sing c) s.toks) D))).get? it = some (itObj x u (i + 1)) := PySem.Heap.get?_update_of_ne _ hne hit1
      refine wpAny_pure ⟨plainId_quiet PyProof.Rows.F.plain_set_update_loop _, upd_all hne hh r (i + 1) _ (sing c :: l) _ hd2 ha2 hit2 (add_ok s.toks F) (addTx_ris _ _ rr) (List.nodup_cons.mpr ⟨hm, nd⟩) (by show l.length + 1 + r.length < scanBound; omega) fun h' tk D' l' k ga F' rr' nd' mm ll => ?_⟩
      refine h h' tk D' l' (fun b o na ni e => k b o na ni (PySem.Heap.get?_update_of_ne _ (Ne.symm na) (oth1 b o ni e))) ga F' rr' nd' (fun y => ?_) (by have z : l'.length ≤ l.length + 1 + r.length := ll; show l'.length ≤ l.length + (r.length + 1); omega)
      rw [mm y]
      constructor
      · rintro (q | ⟨d, hd, q⟩)
        · rcases List.mem_cons.mp q with e | e
          · exact .inr ⟨c, List.mem_cons_self, e⟩
          · exact .inl e
        · exact .inr ⟨d, List.mem_cons_of_mem _ hd, q⟩
      · rintro (q | ⟨d, hd, q⟩)
        · exact .inl (List.mem_cons_of_mem _ q)
        · rcases List.mem_cons.mp hd with e | e
          · exact .inl (by rw [q, e]; exact List.mem_cons_self)
          · exact .inr ⟨d, e, q⟩
end
end Lk
end
section
set_option maxRecDepth 100000
set_option maxHeartbeats 2000000
namespace Lk
open PySem PySem.Spec PySem.Calls PySem.Froz PyProof.Rows L2
section
variable {P : Program} {w : World} {A : Around} {E : Value → Shared → Prop} {s : Shared}
def newS (w : World) : Obj := sObj "set" (#[], 0, .fresh 0 0 (!w.params.followText "set-order"))
theorem newS_ok {P : Program} {w : World} : TxOk P w ((#[], 0, .fresh 0 0 (!w.params.followText "set-order")) : SD) [] := TxOk.nil (by rfl)
theorem newS_ris {w : World} : TxR w ((#[], 0, .fresh 0 0 (!w.params.followText "set-order")) : SD) := ⟨List.Pairwise.nil, by
  show _ ∨ (!w.params.followText "set-order") = true
  cases w.params.followText "set-order"
  · exact .inr rfl
  · exact .inl rfl⟩
theorem sub_str_set : isSubtype (.type "str") (.type "set") = pure false := by rw [isSubtype_type]; kernel_rfl
theorem sub_str_frozenset : isSubtype (.type "str") (.type "frozenset") = pure false := by rw [isSubtype_type]; kernel_rfl
theorem sub_str_dict : isSubtype (.type "str") (.type "dict") = pure false := by rw [isSubtype_type]; kernel_rfl
set_option maxRecDepth 100000 in
set_option maxHeartbeats 3200000 in
/-- set(text) -/
theorem call_set_text {x : Str} {u : Tok} {Q : Value → Shared → Prop} (hh : A.handled = none) (ha : x.cps.all (· < 128) = true) (hb : x.cps.toList.length < scanBound)
    (h : ∀ (h' : Heap) (tk : Nat) (D : SD) (l : List Str), h'.get? s.heap.objs.size = some (sObj "set" D) → TxOk P w D l → TxR w D → l.Nodup → (∀ y, y ∈ l ↔ ∃ c ∈ x.cps.toList, y = sing c) → l.length ≤ x.cps.toList.length →
      (∀ b o, s.heap.get? b = some o → h'.get? b = some o) → Q (.ref s.heap.objs.size) { s with heap := h', toks := tk }) :
    wpAny (model P w) A (call (.type "set") [.str x u]) Q E s := by
  obtain ⟨c, tl, hmro⟩ := F.called_set.mro
  have hmade := F.called_set.made
  have hsub := F.called_set.sub
  refine wpAny_call (codeAny_of_tree ?_)
  show wpAny _ _ (callAny (.type "set") _) _ _ _
  refine wpAny_pure ⟨Code.quiet_builtin _ (by decide +kernel), codeAny_builtin F.entry_type_call ?_⟩
  rw [Around.under_plain (weight_type_call_type "set" [.str x u] []) rfl]
  have h1 := F.called_set.notType
  have h2 := F.called_set.canCreate
  have hct := F.typeCall_set_1 (.str x u)
  repeat (any_goals (first | assumption | wp_step))
  refine codeAny_mono (code_set_led1 (.str x u) (E := E) (Q₁ := fun obj s₁ => obj = .ref s.heap.objs.size ∧ s₁ = { s with heap := s.heap.push (newS w) }) ⟨rfl, rfl⟩) fun r s₁ hr => ?_
  cases r with
  | error e => exact hr
  | ok fl =>
    cases fl with
    | ret obj =>
      obtain ⟨rfl, rfl⟩ := hr
      have hS : (s.heap.push (newS w)).get? s.heap.objs.size = some (newS w) := Heap.get?_push_size _ rfl
      have hT : Shared.TypeIs { s with heap := s.heap.push (newS w) } (.ref s.heap.objs.size) "set" := ⟨_, hS, rfl⟩
      have hli := F.called_set.init.lookup
      have hbi := F.called_set.init.bind (.ref s.heap.objs.size)
      repeat (any_goals (first | assumption | wp_step))
      refine codeAny_mono (codeAny_call_builtin (R := wants (fun r s₂ => r = .none ∧ ∃ h' tk D l, s₂ = { s with heap := h', toks := tk } ∧ h'.get? s.heap.objs.size = some (sObj "set" D) ∧ TxOk P w D l ∧ TxR w D ∧ l.Nodup ∧ (∀ y, y ∈ l ↔ ∃ c ∈ x.cps.toList, y = sing c) ∧
          l.length ≤ x.cps.toList.length ∧ (∀ b o, s.heap.get? b = some o → h'.get? b = some o)) E) F.called_set.init.plain F.entry_set_init (check_set_init_1 hT ?_)) fun r₂ s₂ hr₂ => ?_
      · have hsls := sub_str_set
        have hslf := sub_str_frozenset
        have hne : (Value.type "str" == Value.type "dict") = false := by decide
        unfold Builtin.«set.__init__» noKeywords Builtin.Frozenset.updateFrom
        generalize hPI : pyIter = PI
        wp_walk
        subst hPI
        refine wpAny_pyIter_ascii ha ?_
        have ho : ((s.heap.push (newS w)).push (itObj x u 0)).get? s.heap.objs.size = some (newS w) := Heap.get?_push_of_some _ hS
        have hi : ((s.heap.push (newS w)).push (itObj x u 0)).get? (s.heap.push (newS w)).objs.size = some (itObj x u 0) := Heap.get?_push_size _ rfl
        have hne : s.heap.objs.size ≠ (s.heap.push (newS w)).objs.size := by rw [Heap.size_push]; exact Nat.ne_of_lt (Nat.lt_succ_self _)
        have hh3 : A.in1.in1.handled = none := by simp [hh]
        refine wpAny_bind (wpAny_runValue ?_)
        refine upd_all (s := { s with heap := (s.heap.push (newS w)).push (itObj x u 0) }) hne hh3 x.cps.toList 0 _ [] rfl ho hi newS_ok newS_ris List.nodup_nil (by simpa using hb) fun h' tk D' l' k ga F' rr' nd' mm ll => ?_
        refine wpAny_pure (wpAny_pure ⟨rfl, h', tk, D', l', rfl, ga, F', rr', nd', fun y => ?_, by simpa using ll, fun b o e => ?_⟩)
        · rw [mm y]
          simp
        · have hlt := Heap.lt_size e
          exact k b o (Nat.ne_of_lt hlt) (by rw [Heap.size_push]; exact Nat.ne_of_lt (Nat.lt_succ_of_lt hlt)) (Heap.get?_push_of_some _ (Heap.get?_push_of_some _ e))
      · cases r₂ with
        | error e => exact hr₂
        | ok fl₂ =>
          cases fl₂ with
          | ret r =>
            obtain ⟨rfl, h', tk, D, l, rfl, q1, q2, q3, q4, q5, q6, q7⟩ := hr₂
            repeat (any_goals (first | assumption | wp_step))
            exact h _ _ _ _ q1 q2 q3 q4 q5 q6 q7
          | _ => exact hr₂.elim
    | _ => exact hr.elim
end
end Lk
end
section
set_option maxRecDepth 100000
set_option maxHeartbeats 2000000
/-! Sets of signs over the tracked heap. -/
namespace Lk
open PySem PySem.Spec PySem.Froz PyProof.Rows L2
/-- a set of texts of one sign at a -/
def SetT (P : Program) (w : World) (a : Addr) (l : List Str) : HO := .ext fun h => ∃ D, h.get? a = some (sObj "set" D) ∧ TxOk P w D l ∧ TxR w D
theorem setT_ok {P : Program} {w : World} {H : Hp} {h : Heap} {a : Addr} {D : SD} {l : List Str} (e : h.get? a = some (sObj "set" D)) (F : TxOk P w D l) (r : TxR w D) : ObjOk P w H h a (SetT P w a l) :=
  ⟨⟨D, e, F, r⟩, ⟨_, e⟩, fun _ _ ⟨D, q, z⟩ k => ⟨D, k _ q, z⟩⟩
section
variable {X : Cx}
def rSetT (P : Program) (w : World) : List V → Hp → VK → Prop := fun xs H Q => ∃ l : List Nat, xs = [.str (SX.S l)] ∧ l.all (· < 128) = true ∧ l.length < 4000 ∧
  ∀ p ks, H p = none → ks.Nodup → (∀ y, y ∈ ks ↔ ∃ c ∈ l, y = sing c) → ks.length ≤ l.length → Q (.ref p) (upd H p (SetT P w p ks))
theorem cr_setT (hc : X.calm = true) : CallR X (.type "set") (rSetT X.prog X.w) := by
  intro pins s σ H xs us Q I r h
  obtain ⟨l, rfl, ha, hb, q⟩ := h
  obtain ⟨u, rfl, t, rfl⟩ := vals1 r
  refine call_set_text (I.ok.hd hc) (by rw [← Array.all_toList]; exact ha) (Nat.lt_trans (show (SX.S l).cps.toList.length < 4000 from hb) (by decide)) fun h' tk D ks g F rr nd mm ll k => ?_
  exact ⟨.ref _, upd H s.heap.objs.size (SetT X.prog X.w s.heap.objs.size ks), I.laid (t' := tk) k (Nat.le_refl _) (setT_ok g F rr), rfl, q _ ks (I.hok.fresh (Nat.le_refl _)) nd mm ll⟩
/-- len of it -/
def rLenT (P : Program) (w : World) : List V → Hp → VK → Prop := fun xs H Q => ∃ a ks, xs = [.ref a] ∧ H a = some (SetT P w a ks) ∧ ks.length < 4096 ∧ Q (.int ks.length) H
theorem call_lenT : CallR X (.builtin "len") (rLenT X.prog X.w) := by
  intro pins s σ H xs us Q I r h
  obtain ⟨a, ks, rfl, ha, hz, q⟩ := h
  obtain ⟨u, rfl, hu⟩ := vals1 r
  cases (show u = Value.ref a from hu)
  obtain ⟨⟨D, g, F, rr⟩, _⟩ := I.hok a _ ha
  have e : D.1.size = ks.length := F.sz
  refine call_len_set (es := D.1) (ep := D.2.1) (t := D.2.2) g ⟨rfl, rfl, rfl⟩ rfl F.fit (by rw [e]; omega) ?_
  exact ⟨.int ks.length, H, I.tok _, ⟨_, by rw [e]⟩, q⟩
end
end Lk
end
section
set_option maxRecDepth 100000
set_option maxHeartbeats 2000000
namespace Lk
open PySem PySem.Spec PyProof.Rows L2
section
variable {X : Cx} {k j : Nat} {x : Str} {sp : Sp} {p pos : Pos} {e : Expr} {es : List Expr} {t : TA} {W : WX}
end
def isLoop (l : List Nat) : Bool := isAz l && (decide (1 ≤ l.length) && decide (l.length ≤ 12))
/-- is_loop of v is b -/
inductive LoopV (H : Hp) : V → Bool → Prop where
  | str (l : List Nat) (h : l.length ≤ 100000) : LoopV H (.str (SX.S l)) (isLoop l)
  | oth {v : V} (h : NoStr H v) : LoopV H v false
theorem LoopV.same {H H' : Hp} {v : V} {b : Bool} (h : LoopV H v b) (s : Same H H') : LoopV H' v b := by
  cases h with
  | str l z => exact .str l z
  | oth z => exact .oth (z.same s)
section
variable {P : Program} {w : World} {K : PySem.W.Frag} {mg : Str → Option Value} {base : Heap}
def spIsLoop : Sp := fun vs H Q _ => ∃ v b, vs = [v] ∧ LoopV H v b ∧ ∀ H', Same H H' → Q (.bl b) H'
/-- nothing, or NoLoop -/
def spRefuse (C : Addr) : Sp := fun vs H Q E => ∃ v b, vs = [v] ∧ LoopV H v b ∧ (b = true → ∀ H', Same H H' → Q .non H') ∧ (b = false → ∀ H', Same H H' → E (.ref C) none H')
end
theorem few_len {α : Type} [DecidableEq α] : ∀ {ks L : List α}, ks.Nodup → (∀ y ∈ ks, y ∈ L) → ks.length ≤ L.length
  | [], _, _, _ => Nat.zero_le _
  | k :: ks, L, nd, h => by
    obtain ⟨h1, h2⟩ := List.nodup_cons.mp nd
    have hk : k ∈ L := h k List.mem_cons_self
    have e : (L.erase k).length = L.length - 1 := List.length_erase_of_mem hk
    have hp : 0 < L.length := List.length_pos_of_mem hk
    have ih := few_len (ks := ks) (L := L.erase k) h2 fun y hy => by
      have ny : y ≠ k := fun z => h1 (by rw [← z]; exact hy)
      exact (List.mem_erase_of_ne ny).mpr (h y (List.mem_cons_of_mem _ hy))
    show ks.length + 1 ≤ L.length
    omega
theorem less_of_dup {α : Type} [DecidableEq α] : ∀ {L : List α}, ¬ L.Nodup → ∃ L' : List α, L'.length < L.length ∧ ∀ y, y ∈ L → y ∈ L'
  | [], h => absurd List.nodup_nil h
  | x :: L, h => by
    by_cases hx : x ∈ L
    · exact ⟨L, Nat.lt_succ_self _, fun y hy => by
        rcases List.mem_cons.mp hy with e | e
        · rw [e]; exact hx
        · exact e⟩
    · have hL : ¬ L.Nodup := fun z => h (List.nodup_cons.mpr ⟨hx, z⟩)
      obtain ⟨L', l1, l2⟩ := less_of_dup hL
      exact ⟨x :: L', Nat.succ_lt_succ l1, fun y hy => by
        rcases List.mem_cons.mp hy with e | e
        · rw [e]; exact List.mem_cons_self
        · exact List.mem_cons_of_mem _ (l2 y e)⟩
theorem map_sing_nodup {l : List Nat} (h : l.Nodup) : (l.map PySem.Froz.sing).Nodup := by
  induction l with
  | nil => exact List.nodup_nil
  | cons c r ih =>
    obtain ⟨h1, h2⟩ := List.nodup_cons.mp h
    refine List.nodup_cons.mpr ⟨fun z => ?_, ih h2⟩
    obtain ⟨d, hd, e⟩ := List.mem_map.mp z
    rw [sing_inj e] at hd
    exact h1 hd
/-- a set of a text's signs has as many as the text just where they are unlike -/
theorem set_len {l : List Nat} {ks : List Str} (nd : ks.Nodup) (mm : ∀ y, y ∈ ks ↔ ∃ c ∈ l, y = PySem.Froz.sing c) : ks.length = l.length ↔ l.Nodup := by
  have mm' : ∀ y, y ∈ ks ↔ y ∈ l.map PySem.Froz.sing := fun y => by
    rw [mm y, List.mem_map]
    exact ⟨fun ⟨c, h, e⟩ => ⟨c, h, e.symm⟩, fun ⟨c, h, e⟩ => ⟨c, h, e.symm⟩⟩
  constructor
  · intro e
    by_cases h : l.Nodup
    · exact h
    · obtain ⟨L', l1, l2⟩ := less_of_dup h
      have z := few_len nd (L := L'.map PySem.Froz.sing) fun y hy => by
        obtain ⟨c, hc, rfl⟩ := (mm y).mp hy
        exact List.mem_map.mpr ⟨c, l2 c hc, rfl⟩
      rw [List.length_map] at z
      omega
  · intro h
    have a := few_len nd (L := l.map PySem.Froz.sing) fun y hy => (mm' y).mp hy
    have b := few_len (map_sing_nodup h) (L := ks) fun y hy => (mm' y).mpr hy
    rw [List.length_map] at a b
    omega
def rotL (l : List Nat) (k : Nat) : List Nat := l.drop k ++ l.take k
/-- d is the least turn, one at least, that gives the loop again -/
def IsPer (l : List Nat) (d : Nat) : Prop := 1 ≤ d ∧ d ≤ l.length ∧ rotL l (d % l.length) = l ∧ ∀ j, 1 ≤ j → j < d → rotL l (j % l.length) ≠ l
theorem isLoop_len {l : List Nat} (h : isLoop l = true) : Az l ∧ 1 ≤ l.length ∧ l.length ≤ 12 := by
  unfold isLoop at h
  rw [Bool.and_eq_true, Bool.and_eq_true, decide_eq_true_eq, decide_eq_true_eq] at h
  exact ⟨isAz_iff.mp h.1, h.2⟩
theorem az_small {l : List Nat} (h : Az l) : l.all (· < 128) = true := by
  rw [List.all_eq_true]
  intro c hc
  have z := h c hc
  exact decide_eq_true (by omega)
theorem LoopV.text {H : Hp} {v : V} {b : Bool} (h : LoopV H v b) (hb : b = true) : ∃ l, v = .str (SX.S l) ∧ isLoop l = true := by
  cases h with
  | str l z => exact ⟨l, rfl, hb⟩
  | oth z => cases hb
theorem small12 {l : List Nat} (h : l.length ≤ 12) : (SX.S l).length ≤ sizeLine := by
  rw [SX.S_len]
  exact Nat.le_trans h (by decide)
section
variable {P : Program} {w : World} {K : PySem.W.Frag} {mg : Str → Option Value} {base : Heap}
def spPlain (C : Addr) : Sp := fun vs H Q E => ∃ v b, vs = [v] ∧ LoopV H v b ∧ (b = true → ∀ l, v = .str (SX.S l) → ∀ H', Same H H' → Q (.bl (decide l.Nodup)) H') ∧ (b = false → ∀ H', Same H H' → E (.ref C) none H')
def spTurned (C : Addr) : Sp := fun vs H Q E => ∃ v n b, vs = [v, .int n] ∧ LoopV H v b ∧ (b = true → ∀ l, v = .str (SX.S l) → ∀ H', Same H H' → Q (.str (SX.S (rotL l (n % l.length).toNat))) H') ∧ (b = false → ∀ H', Same H H' → E (.ref C) none H')
end
/-- the k-th letter of the endless loop -/
def lat (l : List Nat) (k : Nat) : Nat := l.getD (k % l.length) 0
theorem getD_eq {l : List Nat} {i : Nat} (h : i < l.length) : l.getD i 0 = l[i] := by
  rw [List.getD_eq_getElem?_getD, List.getElem?_eq_getElem h]
  rfl
theorem rotL_len (l : List Nat) (k : Nat) : (rotL l k).length = l.length := by
  unfold rotL
  rw [List.length_append, List.length_drop, List.length_take]
  omega
theorem rotL_at {l : List Nat} {k i : Nat} (hk : k < l.length) (hi : i < l.length) : (rotL l k).getD i 0 = l.getD ((i + k) % l.length) 0 := by
  unfold rotL
  rw [List.getD_eq_getElem?_getD, List.getD_eq_getElem?_getD]
  by_cases c : i < l.length - k
  · rw [List.getElem?_append_left (by rw [List.length_drop]; exact c), List.getElem?_drop, Nat.mod_eq_of_lt (by omega), Nat.add_comm]
  · rw [List.getElem?_append_right (by rw [List.length_drop]; omega), List.length_drop, List.getElem?_take, if_pos (by omega)]
    have e : (i + k) % l.length = i - (l.length - k) := by
      rw [Nat.mod_eq_sub_mod (by omega), Nat.mod_eq_of_lt (by omega)]
      omega
    rw [e]
theorem lat_mod (l : List Nat) (k : Nat) : lat l (k % l.length) = lat l k := by
  unfold lat
  rw [Nat.mod_mod]
theorem ext_getD {a b : List Nat} (hl : a.length = b.length) (h : ∀ i, i < a.length → a.getD i 0 = b.getD i 0) : a = b := by
  refine List.ext_getElem hl fun i h1 h2 => ?_
  have z := h i h1
  rw [getD_eq h1, getD_eq h2] at z
  exact z
theorem rot_per {l : List Nat} {j : Nat} (h0 : 0 < l.length) : rotL l (j % l.length) = l ↔ ∀ k, lat l (k + j) = lat l k := by
  have hj : j % l.length < l.length := Nat.mod_lt _ h0
  constructor
  · intro e k
    have hk : k % l.length < l.length := Nat.mod_lt _ h0
    have z := rotL_at hj hk
    rw [e] at z
    unfold lat
    rw [z, Nat.add_mod k j]
  · intro h
    refine ext_getD (rotL_len _ _) fun i hi => ?_
    rw [rotL_len] at hi
    rw [rotL_at hj hi]
    have z := h i
    unfold lat at z
    rw [Nat.mod_eq_of_lt hi] at z
    rw [← z]
    congr 1
    rw [Nat.add_mod i j, Nat.add_mod i (j % l.length), Nat.mod_mod]
theorem per_mul {l : List Nat} {d : Nat} (h : ∀ k, lat l (k + d) = lat l k) : ∀ q k, lat l (k + d * q) = lat l k
  | 0, k => by rw [Nat.mul_zero, Nat.add_zero]
  | q + 1, k => by
    rw [Nat.mul_succ, ← Nat.add_assoc, h, per_mul h q k]
theorem per_mod {l : List Nat} {d : Nat} (h : ∀ k, lat l (k + d) = lat l k) (k : Nat) : lat l (k % d) = lat l k := by
  have z := per_mul h (k / d) (k % d)
  rw [Nat.mod_add_div] at z
  exact z.symm
theorem take_at {l : List Nat} {d i : Nat} (hd : d ≤ l.length) (hi : i < d) : (l.take d).getD i 0 = lat l i := by
  unfold lat
  rw [Nat.mod_eq_of_lt (by omega), List.getD_eq_getElem?_getD, List.getElem?_take, if_pos hi, ← List.getD_eq_getElem?_getD]
theorem per_of {l : List Nat} {d : Nat} (h : IsPer l d) : ∀ k, lat l (k + d) = lat l k := (rot_per (by have := h.1; have := h.2.1; omega)).mp h.2.2.1
/-- two loops have one root just where they read alike for ever -/
theorem roots {a b : List Nat} {d e : Nat} (ha : IsPer a d) (hb : IsPer b e) : a.take d = b.take e ↔ ∀ k, lat a k = lat b k := by
  have pa := per_of ha
  have pb := per_of hb
  have la : (a.take d).length = d := by rw [List.length_take]; exact Nat.min_eq_left ha.2.1
  have lb : (b.take e).length = e := by rw [List.length_take]; exact Nat.min_eq_left hb.2.1
  constructor
  · intro z k
    have ed : d = e := by rw [← la, z, lb]
    subst ed
    rw [← per_mod pa k, ← per_mod pb k]
    have hk : k % d < d := Nat.mod_lt _ ha.1
    rw [← take_at ha.2.1 hk, ← take_at hb.2.1 hk, z]
  · intro z
    have ed : d = e := by
      rcases Nat.lt_trichotomy d e with c | c | c
      · have q : ∀ k, lat b (k + d) = lat b k := fun k => by rw [← z, ← z, pa]
        exact absurd ((rot_per (by have := hb.1; have := hb.2.1; omega)).mpr q) (hb.2.2.2 d ha.1 c)
      · exact c
      · have q : ∀ k, lat a (k + e) = lat a k := fun k => by rw [z, z, pb]
        exact absurd ((rot_per (by have := ha.1; have := ha.2.1; omega)).mpr q) (ha.2.2.2 e hb.1 c)
    subst ed
    refine ext_getD (by rw [la, lb]) fun i hi => ?_
    rw [la] at hi
    rw [take_at ha.2.1 hi, take_at hb.2.1 hi, z]
theorem least {p : Nat → Prop} : ∀ n, p n → ∃ k, p k ∧ k ≤ n ∧ ∀ j, j < k → ¬ p j := by
  intro n
  induction n using Nat.strongRecOn with
  | ind n ih =>
    intro h
    by_cases c : ∃ j, j < n ∧ p j
    · obtain ⟨j, hj, hp⟩ := c
      obtain ⟨k, k1, k2, k3⟩ := ih j hj hp
      exact ⟨k, k1, by omega, k3⟩
    · exact ⟨n, h, Nat.le_refl _, fun j hj hp => c ⟨j, hj, hp⟩⟩
/-- each loop has a root -/
theorem per_ex {l : List Nat} (h0 : 0 < l.length) : ∃ d, IsPer l d := by
  have hn : 1 ≤ l.length ∧ rotL l (l.length % l.length) = l := ⟨h0, by rw [Nat.mod_self]; unfold rotL; simp⟩
  obtain ⟨k, k1, k2, k3⟩ := least (p := fun d => 1 ≤ d ∧ rotL l (d % l.length) = l) l.length hn
  exact ⟨k, k1.1, k2, k1.2, fun j j1 j2 e => k3 j j2 ⟨j1, e⟩⟩
/-- two loops that read alike for as many letters as their lengths' product read alike for ever -/
theorem alike_all {a b : List Nat} (h : ∀ k, k < a.length * b.length → lat a k = lat b k) (ha : 0 < a.length) (hb : 0 < b.length) : ∀ k, lat a k = lat b k := by
  intro k
  have hk : k % (a.length * b.length) < a.length * b.length := Nat.mod_lt _ (Nat.mul_pos ha hb)
  have z := h _ hk
  unfold lat at z ⊢
  rw [Nat.mod_mul_right_mod, Nat.mod_mul_left_mod] at z
  exact z
section
variable {P : Program} {w : World} {K : PySem.W.Frag} {mg : Str → Option Value} {base : Heap}
def spRoot (C : Addr) : Sp := fun vs H Q E => ∃ v b, vs = [v] ∧ LoopV H v b ∧ (b = true → ∀ l d, v = .str (SX.S l) → IsPer l d → ∀ H', Same H H' → Q (.str (SX.S (l.take d))) H') ∧ (b = false → ∀ H', Same H H' → E (.ref C) none H')
/-- how many letters two loops read alike, or None -/
def spAlike (C : Addr) : Sp := fun vs H Q E => ∃ v u b c, vs = [v, u] ∧ LoopV H v b ∧ LoopV H u c ∧ (b = true → c = true → ∀ l m, v = .str (SX.S l) → u = .str (SX.S m) →
    ((∀ k, lat l k = lat m k) → ∀ H', Same H H' → Q .non H') ∧ (∀ k : Nat, lat l k ≠ lat m k → (∀ j, j < k → lat l j = lat m j) → ∀ H', Same H H' → Q (.int k) H')) ∧ ((b && c) = false → ∀ H', Same H H' → E (.ref C) none H')
theorem lat_item {l : List Nat} (h0 : 0 < l.length) (k : Nat) : (SX.S l).cps[((k : Int) % (l.length : Int)).toNat]? = some (lat l k) := by
  have e : ((k : Int) % (l.length : Int)).toNat = k % l.length := by omega
  have hk : k % l.length < l.length := Nat.mod_lt _ h0
  rw [e]
  show (l.toArray)[k % l.length]? = some (lat l k)
  rw [List.getElem?_toArray, List.getElem?_eq_getElem hk]
  unfold lat
  rw [getD_eq hk]
end

end Lk
end
section
set_option maxRecDepth 100000
set_option maxHeartbeats 2000000
/-! The rules that lay a new object, told without the heap's text: what was stays, the object is there. -/
namespace Lk
open PySem PySem.Spec PyProof.Rows L2
section
variable {X : Cx} {es : List Expr} {t : TA} {pos : Pos}
def tTupS (t : TA) : TE := fun σ H Q => t σ H fun xs H1 => xs.length ≤ sizeLine ∧ ∀ p H2, H1 p = none → Same H1 H2 → H2 p = some (.tup xs) → Q (.ref p) H2
def tLstS (t : TA) : TE := fun σ H Q => t σ H fun xs H1 => xs.length ≤ sizeLine ∧ ∀ p H2, H1 p = none → Same H1 H2 → H2 p = some (.lst xs) → Q (.ref p) H2
theorem pe_tupS {x1} (h : PA X es t) : PE X (.Tuple es x1 pos) (tTupS t) := by
  refine ⟨fun pins s σ H Q I hq => wpAny_Tuple_spliced (thn (h.run pos pins s σ H _ I hq) fun us s1 ⟨xs, H1, I1, r, z, q⟩ => ⟨by rw [← r.length]; exact z, ?_⟩)⟩
  have free : H1 s1.heap.objs.size = none := I1.hok.fresh (Nat.le_refl _)
  refine ⟨.ref s1.heap.objs.size, _, I1.laid (o := .tup xs) (t' := s1.toks) (fun b u e => Heap.get?_push_of_some _ e) (Nat.le_refl _) ?_, rfl, q _ _ free (same_new free) upd_same⟩
  exact ⟨z, us, r, ⟨_, Heap.get?_push_size _ rfl, rfl, _, rfl⟩⟩
theorem pe_lstS (h : PA X es t) : PE X (.List es pos) (tLstS t) := by
  refine ⟨fun pins s σ H Q I hq => wpAny_List_spliced (thn (h.run pos pins s σ H _ I hq) fun us s1 ⟨xs, H1, I1, r, z, q⟩ => ⟨by rw [← r.length]; exact z, ?_⟩)⟩
  have free : H1 s1.heap.objs.size = none := I1.hok.fresh (Nat.le_refl _)
  refine ⟨.ref s1.heap.objs.size, _, I1.laid (o := .lst xs) (t' := s1.toks) (fun b u e => Heap.get?_push_of_some _ e) (Nat.le_refl _) ?_, rfl, q _ _ free (same_new free) upd_same⟩
  exact ⟨z, us, 0, r, Heap.get?_push_size _ rfl⟩
def rCatS : R2 := fun x y H Q => ∃ a b xs ys, x = .ref a ∧ y = .ref b ∧ H a = some (.lst xs) ∧ H b = some (.lst ys) ∧ xs.length + ys.length ≤ sizeLine ∧ ∀ p H2, H p = none → Same H H2 → H2 p = some (.lst (xs ++ ys)) → Q (.ref p) H2
theorem op_catS : OpR X (binaryOp .Add) rCatS := by
  intro pins s σ H x y v u Q I rx ry h
  obtain ⟨a, b, xs, ys, rfl, rfl, ha, hb, hl, q⟩ := h
  exact op_cat pins s σ H _ _ v u Q I rx ry ⟨a, b, xs, ys, rfl, rfl, ha, hb, hl, fun p hp => q p _ hp (same_new hp) upd_same⟩
/-- tuple(xs) of a list, tuple(t) of a tuple -/
def rTupS : List V → Hp → VK → Prop := fun vs H Q => ∃ p xs, vs = [.ref p] ∧ ((H p = some (.lst xs) ∧ ∀ l H2, H l = none → Same H H2 → H2 l = some (.tup xs) → Q (.ref l) H2) ∨ (H p = some (.tup xs) ∧ Q (.ref p) H))
theorem call_tupS : CallR X (.type "tuple") rTupS := by
  intro pins s σ H xs us Q I r h
  obtain ⟨p, ys, rfl, h⟩ := h
  rcases h with ⟨h, q⟩ | ⟨h, q⟩
  · exact call_tuple_of pins s σ H _ us Q I r ⟨p, ys, rfl, .inl ⟨SqL.of h, fun l hl => q l _ hl (same_new hl) upd_same⟩⟩
  · exact call_tuple_of pins s σ H _ us Q I r ⟨p, ys, rfl, .inr ⟨SqT.of h, q⟩⟩
/-- list(xs), list(t) -/
def rLisS : List V → Hp → VK → Prop := fun vs H Q => ∃ p xs, vs = [.ref p] ∧ (H p = some (.lst xs) ∨ H p = some (.tup xs)) ∧ ∀ l H2, H l = none → Same H H2 → H2 l = some (.lst xs) → Q (.ref l) H2
theorem call_lisS : CallR X (.type "list") rLisS := by
  intro pins s σ H xs us Q I r h
  obtain ⟨p, ys, rfl, h, q⟩ := h
  refine call_list_of pins s σ H _ us Q I r ⟨p, ys, rfl, ?_, fun l hl => q l _ hl (same_new hl) upd_same⟩
  exact h.imp SqL.of SqT.of
end
/-- the cells: the script's first ones, and 0 -/
theorem cells_ints {ns : List Int} {k : Int} : ∀ x ∈ cutV (ns.map V.int) none (some k) ++ [V.int 0], ∃ z, x = V.int z := by
  intro x hx
  rcases List.mem_append.mp hx with h | h
  · unfold cutV at h
    obtain ⟨z, _, e⟩ := List.mem_map.mp (List.mem_of_mem_drop (List.mem_of_mem_take h))
    exact ⟨z, e.symm⟩
  · exact ⟨0, List.mem_singleton.mp h⟩
theorem cells_len {ns : List Int} {k : Int} (h : ns.length ≤ 63) : (cutV (ns.map V.int) none (some k)).length ≤ 63 := by
  unfold cutV
  rw [List.length_take, List.length_drop, List.length_map]
  omega
end Lk
end
section
set_option maxRecDepth 100000
set_option maxHeartbeats 2000000
/-! The law's urn. -/
namespace Lk
open PySem PySem.Spec PyProof.Rows L2
def CPowW (i j : Int) : Prop := 0 ≤ j ∧ j ≤ 8 ∧ i.natAbs < 2 ^ 1000
theorem op_powW {X : Cx} : OpR X (binaryOp .Pow) (rI CPowW fun i j => .int (i ^ j.toNat)) := opI fun i j _ _ _ _ _ hc q => by
  obtain ⟨h0, h8, hi⟩ := hc
  refine pow_int h0 ?_ q
  have l := PySem.Flt.log2_lt_of (by decide : 0 < 1000) hi
  have b : Builtin.Int.intBits i ≤ 1000 := by
    unfold Builtin.Int.intBits
    split <;> omega
  have h1 : (Builtin.Int.intBits i : Int) * j ≤ 1000 * j := Int.mul_le_mul_of_nonneg_right (by omega) h0
  omega
def Urn (H : Hp) (a : Addr) (n : Int) : Prop := ∃ u0 u1 u2 : Int, H a = some (.lst [.int u0, .int u1, .int u2]) ∧ 0 ≤ u1 ∧ u1 < 10 ^ 36 ∧ 0 ≤ u2 ∧ u2 ≤ n
theorem Urn.ne {H : Hp} {a p : Addr} {n : Int} (h : Urn H a n) (e : H p = none) : a ≠ p := by
  obtain ⟨_, _, _, e2, _⟩ := h
  exact ne_of_none e2 e
theorem Urn.same {H H' : Hp} {a : Addr} {n : Int} (h : Urn H a n) (s : Same H H') : Urn H' a n := by
  obtain ⟨u0, u1, u2, e, r⟩ := h
  exact ⟨u0, u1, u2, s _ _ e, r⟩
theorem Urn.le {H : Hp} {a : Addr} {n m : Int} (h : Urn H a n) (l : n ≤ m) : Urn H a m := by
  obtain ⟨u0, u1, u2, e, h1, h2, h3, h4⟩ := h
  exact ⟨u0, u1, u2, e, h1, h2, h3, Int.le_trans h4 l⟩
theorem Urn.cat {H H2 : Hp} {a : Addr} {n : Int} {v : V} {c : Cd} (h : Urn H a n) (s : SameBut a H H2) (k : Cat H v c) : Cat H2 v c := by
  obtain ⟨_, _, _, e, _⟩ := h
  exact k.but e s
def spUrn : Sp := fun vs H Q _ => ∃ c : Int, vs = [.int c] ∧ ∀ p H', H p = none → Same H H' → Urn H' p 0 → Q (.ref p) H'
def spPull : Sp := fun vs H Q _ => ∃ (a : Addr) (m n : Int), vs = [.ref a, .int m] ∧ Urn H a n ∧ n ≤ 100000 ∧ 0 < m ∧ m ≤ 10 ^ 40 ∧ ∀ v H', 0 ≤ v → v < m → Urn H' a (n + 1) → SameBut a H H' → Q (.int v) H'
end Lk
end
section
set_option maxRecDepth 100000
set_option maxHeartbeats 2000000
/-! Going home; the tree of a round. -/
namespace Lk
open PySem PySem.Spec PyProof.Rows L2
/-- where one stands behind so many turns, who stays at home -/
def hw (c : Cd) : Nat → Nat → Nat
  | 0, i => i
  | k + 1, i => if hw c k i = c.1 then hw c k i else go c (hw c k i)
theorem hw_run (c : Cd) (i : Nat) : ∀ k, ((∃ j, j ≤ k ∧ gon c j i = c.1) ∧ hw c k i = c.1) ∨ ((∀ j, j ≤ k → gon c j i ≠ c.1) ∧ hw c k i = gon c k i)
  | 0 => by
    by_cases e : i = c.1
    · exact .inl ⟨⟨0, Nat.le_refl _, e⟩, e⟩
    · refine .inr ⟨fun j hj => ?_, rfl⟩
      rw [Nat.le_zero.mp hj]
      exact e
  | k + 1 => by
    rcases hw_run c i k with ⟨⟨j, hj, e⟩, h⟩ | ⟨h1, h2⟩
    · refine .inl ⟨⟨j, by omega, e⟩, ?_⟩
      show (if hw c k i = c.1 then hw c k i else go c (hw c k i)) = c.1
      rw [if_pos h]
      exact h
    · have e : hw c (k + 1) i = gon c (k + 1) i := by
        show (if hw c k i = c.1 then hw c k i else go c (hw c k i)) = gon c (k + 1) i
        rw [h2, if_neg (h1 k (Nat.le_refl _)), gon_succ]
      by_cases z : gon c (k + 1) i = c.1
      · exact .inl ⟨⟨k + 1, Nat.le_refl _, z⟩, e.trans z⟩
      · refine .inr ⟨fun j hj => ?_, e⟩
        rcases Nat.lt_or_ge j (k + 1) with l | g
        · exact h1 j (by omega)
        · rw [show j = k + 1 by omega]
          exact z
theorem rch_near {c : Cd} (h : COk c) {i : Nat} (hi : i < c.2.length) (r : Rch c i) : ∃ j, j < c.2.length ∧ gon c j i = c.1 := by
  obtain ⟨j, hj, hl⟩ := least_of (Q := fun k => gon c k i = c.1) r.choose_spec
  refine ⟨j, ?_, hj⟩
  have nd : ((List.range (j + 1)).map fun k => gon c k i).Nodup := by
    refine List.pairwise_map.mpr (List.Pairwise.imp_of_mem (R := fun a b => a < b) (fun {a b} ha hb l e => ?_) List.pairwise_lt_range)
    rw [List.mem_range] at ha hb
    refine hl (a + (j - b)) (by omega) ?_
    rw [gon_add, e, ← gon_add, show b + (j - b) = j by omega]
    exact hj
  have z := nodup_below nd fun x hx => by
    obtain ⟨k, _, rfl⟩ := List.mem_map.mp hx
    exact gon_lt h hi k
  rw [List.length_map, List.length_range] at z
  omega
theorem hw_home {c : Cd} (h : COk c) {i : Nat} (hi : i < c.2.length) {k : Nat} (hk : c.2.length ≤ k + 1) : hw c k i = c.1 ↔ Rch c i := by
  rcases hw_run c i k with ⟨⟨j, _, e⟩, e2⟩ | ⟨h1, h2⟩
  · exact ⟨fun _ => ⟨j, e⟩, fun _ => e2⟩
  · refine ⟨fun z => ⟨k, h2.symm.trans z⟩, fun r => ?_⟩
    obtain ⟨j, hj, e⟩ := rch_near h hi r
    exact absurd e (h1 j (by omega))
theorem hw_lt {c : Cd} (h : COk c) {i : Nat} (hi : i < c.2.length) : ∀ k, hw c k i < c.2.length
  | 0 => hi
  | k + 1 => by
    show (if hw c k i = c.1 then hw c k i else go c (hw c k i)) < c.2.length
    split
    · exact hw_lt h hi k
    · exact go_lt h _
def Home0 (c : Cd) : Prop := c.1 = 0 ∧ len c 0 % c.2.length = 0
instance (c : Cd) : Decidable (Home0 c) := inferInstanceAs (Decidable (_ ∧ _))
theorem visit : ∀ (n : Nat) {c : Cd} (i v : Nat), COk c → len c i ≤ v → v < len (it n c) i → ∃ t, t < n ∧ (it t c).1 = i ∧ len (it t c) i = v
  | 0, c, i, v, _, h1, h2 => by
    have z : len (it 0 c) i = len c i := rfl
    omega
  | n + 1, c, i, v, hc, h1, h2 => by
    by_cases e : c.1 = i ∧ len c i = v
    · exact ⟨0, by omega, e.1, e.2⟩
    · have l : len (nx c) i ≤ v := by
        by_cases e2 : c.1 = i
        · have ne : len c i ≠ v := fun z => e ⟨e2, z⟩
          have z := len_nx_same hc
          rw [e2] at z
          omega
        · rw [len_nx_ne (fun z => e2 z.symm)]
          exact h1
      obtain ⟨t, ht, e1, e2⟩ := visit n i v (nx_ok hc) l h2
      exact ⟨t + 1, by omega, e1, e2⟩
def Hm (d : Cd) (j : Nat) : Prop := Home0 (it j d) ∧ ∀ k, k < j → ¬ Home0 (it k d)
theorem hm_is {d : Cd} (h : COk d) (f : Free d) : ∃ j, Hm d j := by
  have hp : 0 < d.2.length := Nat.lt_of_le_of_lt (Nat.zero_le _) h
  have e : len (it (d.2.length * d.2.length) d) 0 = len d 0 + d.2.length := by
    rw [it_round h f]
    exact getD_map_add _ _ hp
  obtain ⟨v, v1, v2, v3⟩ : ∃ v, len d 0 ≤ v ∧ v < len d 0 + d.2.length ∧ v % d.2.length = 0 := by
    by_cases z : len d 0 = 0
    · exact ⟨0, by omega, by omega, Nat.zero_mod _⟩
    · obtain ⟨v, a1, a2, a3⟩ := some_to (p := d.2.length) 0 (len d 0 - 1) 0 hp
      rw [Nat.zero_add] at a3
      exact ⟨v, by omega, by omega, a3⟩
  obtain ⟨t, _, t1, t2⟩ := visit (d.2.length * d.2.length) 0 v h v1 (by rw [e]; exact v2)
  have hm : Home0 (it t d) := ⟨t1, by rw [it_len, t2]; exact v3⟩
  exact least_of (Q := fun k => Home0 (it k d)) hm
theorem hm_one {d : Cd} {j k : Nat} (a : Hm d j) (b : Hm d k) : j = k := by
  rcases Nat.lt_trichotomy j k with l | e | l
  · exact absurd a.1 (b.2 j l)
  · exact e
  · exact absurd b.1 (a.2 k l)
/-- the tree of the round to which c comes -/
def TreeOf (c : Cd) (t : List Nat) : Prop := ∃ n j, Ahead c n ∧ Hm (it n c) j ∧ t = (gos (it (n + j) c)).drop 1
theorem treeOf_one {c : Cd} {t u : List Nat} (a : TreeOf c t) (b : TreeOf c u) : t = u := by
  obtain ⟨n, j, a1, a2, rfl⟩ := a
  obtain ⟨m, k, b1, b2, rfl⟩ := b
  have e := ahead_one a1 b1
  subst e
  rw [hm_one a2 b2]
theorem treeOf_len {c : Cd} {t : List Nat} (a : TreeOf c t) : t.length = c.2.length - 1 := by
  obtain ⟨n, j, _, _, rfl⟩ := a
  rw [List.length_drop, gos_len, it_len]
theorem treeOf_lt {c : Cd} (h : COk c) {t : List Nat} (a : TreeOf c t) : ∀ x ∈ t, x < c.2.length := by
  obtain ⟨n, j, _, _, rfl⟩ := a
  intro x hx
  have hx2 := List.mem_of_mem_drop hx
  unfold gos at hx2
  obtain ⟨i, _, rfl⟩ := List.mem_map.mp hx2
  have z := go_lt (it_ok (n + j) h) i
  rw [it_len] at z
  exact z
theorem ne_no {A B : Prop} {x y : V} (e : x = y) (h : B) : if (!decide (x = y)) = true then A else B := by
  rw [decide_eq_true e]
  exact iteF h
theorem ne_yes {A B : Prop} {x y : V} (e : ¬ x = y) (h : A) : if (!decide (x = y)) = true then A else B := by
  rw [decide_eq_false e]
  exact iteT h
def toldTree (c : Cd) (Q : VK) (H : Hp) : Prop := ∀ t p H', TreeOf c t → Same H H' → H' p = some (.tup (t.map vN)) → Q (.ref p) H'
def spGoals : Sp := fun vs H Q _ => ∃ v c, vs = [v] ∧ Cat H v c ∧ CdOk c ∧ ∀ p H', H p = none → Same H H' → H' p = some (.lst ((gos c).map vN)) → Q (.ref p) H'
def spHome : Sp := fun vs H Q _ => ∃ g c, vs = [.ref g, .int ((c.1 : Nat) : Int)] ∧ H g = some (.lst ((gos c).map vN)) ∧ COk c ∧ c.2.length ≤ 12 ∧ ∀ b, (b = true ↔ Free c) → Q (.bl b) H
def spEnter : Sp := fun vs H Q _ => ∃ v c, vs = [v] ∧ Cat H v c ∧ CdOk c ∧ toldEnter c Q H
def spTree : Sp := fun vs H Q _ => ∃ v c, vs = [v] ∧ Cat H v c ∧ CdOk c ∧ toldTree c Q H
def spUCoder : Sp := fun vs H Q _ => ∃ (a : Addr) (m n : Int), vs = [.ref a, .int m] ∧ Urn H a n ∧ n ≤ 90000 ∧ 1 ≤ m ∧ m ≤ 12 ∧
  ∀ v c H', CdOk c → (c.2.length : Int) ≤ m → (∀ n ∈ c.2, n < 10 ^ 31) → Urn H' a (n + 100) → SameBut a H H' → Cat H' v c → Q v H'
end Lk
end
section
set_option maxRecDepth 100000
set_option maxHeartbeats 2000000
/-! How long the text of data is. -/
namespace Lk
open PySem PySem.Spec PyProof.Rows L2
theorem textFrom_le : ∀ (ts : List Str) (k : Nat) (acc : Str), (textFrom k acc ts).length ≤ acc.length + piled ts
  | [], _, acc => Nat.le_add_right _ _
  | t :: r, k, acc => by
    have ih := textFrom_le r (k + 1) (acc ++ (if k > 0 then ", " else "" : String) ++ t)
    have e : (acc ++ (if k > 0 then ", " else "" : String) ++ t).length ≤ acc.length + 2 + t.length := by
      rw [strLen_append, strLen_append]
      split
      · exact Nat.le_refl _
      · show acc.length + 0 + t.length ≤ _
        omega
    rw [piled_cons]
    show (textFrom (k + 1) _ r).length ≤ _
    omega
theorem listText_le (ts : List Str) : (listText ts).length ≤ 2 + piled ts := by
  unfold listText
  rw [strLen_append]
  have h := textFrom_le ts 0 "["
  have e1 : (("[" : String) : Str).length = 1 := rfl
  have e2 : (("]" : String) : Str).length = 1 := rfl
  omega
theorem tupleText_le (ts : List Str) : (tupleText ts).length ≤ 3 + piled ts := by
  unfold tupleText
  rw [strLen_append, strLen_append]
  have e1 : ((("(" : String) : Str)).length = 1 := rfl
  have e3 : (((if ts.length == 1 then ",)" else ")" : String) : Str)).length ≤ 2 := by split <;> decide
  by_cases h : ts = []
  · subst h
    have e4 : (Str.join ", " []).length = 0 := rfl
    omega
  · have j := join_length_add ts h
    omega
mutual
/-- a bound of the length of the text -/
def wt : PyData → Nat
  | .none => 4
  | .bool _ => 5
  | .int i => (toString i).length
  | .str x => (reprText x).length
  | .list ds => 2 + wts ds
  | .tuple ds => 3 + wts ds
  | .dict kvs => (dictText (PyData.shownKv kvs)).length
def wts : List PyData → Nat
  | [] => 0
  | d :: ds => wt d + 2 + wts ds
end
mutual
theorem shown_wt : ∀ d : PyData, d.shown.length ≤ wt d
  | .none => by simp only [PyData.shown, wt]; decide
  | .bool b => by cases b <;> (simp only [PyData.shown, wt]; decide)
  | .int i => by simp only [PyData.shown, wt]; rw [PySem.ofString_length]; exact Nat.le_refl _
  | .str x => by simp only [PyData.shown, wt]; exact Nat.le_refl _
  | .list ds => by
    simp only [PyData.shown, wt]
    have h := listText_le (PyData.shownAll ds)
    have g := piled_wts ds
    omega
  | .tuple ds => by
    simp only [PyData.shown, wt]
    have h := tupleText_le (PyData.shownAll ds)
    have g := piled_wts ds
    omega
  | .dict kvs => by simp only [PyData.shown, wt]; exact Nat.le_refl _
theorem piled_wts : ∀ ds : List PyData, piled (PyData.shownAll ds) ≤ wts ds
  | [] => by simp [PyData.shownAll, wts, piled]
  | d :: ds => by
    have h := shown_wt d
    have g := piled_wts ds
    simp only [PyData.shownAll, wts, piled_cons]
    omega
end
theorem wts_append : ∀ ds es : List PyData, wts (ds ++ es) = wts ds + wts es
  | [], es => by simp [wts]
  | d :: ds, es => by
    show wt d + 2 + wts (ds ++ es) = wt d + 2 + wts ds + wts es
    rw [wts_append ds es]
    omega
theorem wts_le {B : Nat} : ∀ {ds : List PyData}, (∀ d ∈ ds, wt d ≤ B) → wts ds ≤ ds.length * (B + 2)
  | [], _ => Nat.zero_le _
  | d :: ds, h => by
    have ih := wts_le (ds := ds) fun x hx => h x (List.mem_cons_of_mem _ hx)
    have h1 := h d List.mem_cons_self
    show wt d + 2 + wts ds ≤ (ds.length + 1) * (B + 2)
    rw [Nat.add_mul, Nat.one_mul]
    omega
theorem wt_int {i : Int} (h : i.natAbs < 10 ^ 45) : wt (.int i) ≤ 46 := int_text_length_le10 (by decide) h
theorem wt_nat {n : Nat} (h : n < 10 ^ 45) : wt (dN n) ≤ 46 := wt_int (by omega)
theorem wts_nats {ls : List Nat} (h : ∀ n ∈ ls, n < 10 ^ 45) : wts (ls.map dN) ≤ ls.length * 48 := by
  have z := wts_le (B := 46) (ds := ls.map dN) fun d hd => by
    obtain ⟨n, hn, rfl⟩ := List.mem_map.mp hd
    exact wt_nat (h n hn)
  rw [List.length_map] at z
  exact z
theorem showAll_nats : ∀ {ls : List Nat}, (∀ n ∈ ls, n < 10 ^ 45) → PyData.showableAll (ls.map dN) = true
  | [], _ => by simp [PyData.showableAll]
  | n :: ls, h => by
    have h1 := h n List.mem_cons_self
    have lt : ((n : Int).natAbs).log2 < 1920 := by
      have e : ((n : Int).natAbs) = n := by omega
      rw [e]
      by_cases z : n = 0
      · subst z
        decide
      · exact (Nat.log2_lt z).mpr (Nat.lt_trans h1 (by decide +kernel))
    simp only [List.map_cons, PyData.showableAll, PyData.showable, showAll_nats (fun x hx => h x (List.mem_cons_of_mem _ hx)), decide_eq_true lt, Bool.and_self]
theorem show_cd {c : Cd} (h0 : c.1 < 10 ^ 45) (h : ∀ n ∈ c.2, n < 10 ^ 45) : (cdD c).showable = true := by
  have a := showAll_nats h
  have b := showAll_nats (ls := [c.1]) fun n hn => by rw [List.mem_singleton.mp hn]; exact h0
  simp only [List.map_cons, List.map_nil, PyData.showableAll, Bool.and_true] at b
  simp only [cdD, PyData.showable, PyData.showableAll, a, Bool.and_true]
  simpa only [PyData.showable] using b
theorem wt_cd {c : Cd} (h0 : c.1 < 10 ^ 45) (h : ∀ n ∈ c.2, n < 10 ^ 45) (h12 : c.2.length ≤ 12) : wt (cdD c) ≤ 1000 := by
  have a := wts_nats h
  have b := wt_nat h0
  have e : wt (cdD c) = 3 + (wt (dN c.1) + 2 + (3 + wts (c.2.map dN) + 2 + 0)) := rfl
  omega
theorem depth_cd (c : Cd) : (cdD c).depth ≤ 64 := by
  simp only [cdD, PyData.depth, PyData.depthAll, depthAll_ints]
  decide
/-- what the repr of a coder asks, and tells -/
theorem rep_cd {K : PySem.W.Frag} {H : Hp} {Q : VK} {v : V} {c : Cd} (cat : Cat H v c) (ok : CdOk c) (h : ∀ n ∈ c.2, n < 10 ^ 45) (q : Q (.str (cdD c).shown) H) : rRep K [v] H Q := by
  have h0 : c.1 < 10 ^ 45 := Nat.lt_trans ok.1 (Nat.lt_of_le_of_lt ok.2 (by decide +kernel))
  refine ⟨v, cdD c, rfl, Th.dq _ cat.th, (fun kvs z => nomatch z), show_cd h0 h, depth_cd c, ?_, q⟩
  have a := shown_wt (cdD c)
  have b := wt_cd h0 h ok.2
  rw [sizeLine_eq]
  omega
end Lk
end
section
set_option maxRecDepth 100000
set_option maxHeartbeats 2000000
/-! == of coders. -/
namespace Lk
open PySem PySem.Spec PyProof.Rows L2
theorem eqvAll_ints : ∀ l m : List Nat, PyData.eqvAll (l.map dN) (m.map dN) = decide (l = m) := by
  intro l
  induction l with
  | nil => intro m; cases m <;> simp [PyData.eqvAll]
  | cons a l ih =>
    intro m
    cases m with
    | nil => simp [PyData.eqvAll]
    | cons b m =>
      simp only [List.map_cons, PyData.eqvAll, PyData.eqv, ih]
      by_cases e : a = b
      · subst e
        simp
      · have e2 : ¬ ((a : Int) = (b : Int)) := by omega
        simp [e, e2]
theorem eqv_cd (c d : Cd) : PyData.eqv (cdD c) (cdD d) = decide (c = d) := by
  obtain ⟨a, l⟩ := c
  obtain ⟨b, m⟩ := d
  simp only [cdD, PyData.eqv, PyData.eqvAll, eqvAll_ints]
  by_cases e : a = b
  · subst e
    by_cases e2 : l = m
    · subst e2
      simp
    · simp [e2]
  · have e3 : ¬ ((a : Int) = (b : Int)) := by omega
    simp [e, e3]
theorem lay_cd (c : Cd) : (cdD c).canLay0 = true := by
  simp [cdD, PyData.canLay0, PyData.canLayAll0, layAll_ints]
theorem shaped_cd (c : Cd) : SeqAt.shaped (cdD c) = true := by
  unfold SeqAt.shaped
  rw [Bool.and_eq_true]
  refine ⟨lay_cd c, decide_eq_true ?_⟩
  simp only [cdD, PyData.depth, PyData.depthAll, depthAll_ints]
  decide
end Lk
end
section
set_option maxRecDepth 100000
set_option maxHeartbeats 2000000
/-! Tuples of places as texts, held against one another. -/
namespace Lk
open PySem PySem.Spec PyProof.Rows L2
theorem free_hw {c : Cd} (h : COk c) : Free c ↔ ∀ i, i < c.2.length → hw c c.2.length i = c.1 :=
  ⟨fun f i hi => (hw_home h hi (by omega)).mpr (f i hi), fun f i hi => (hw_home h hi (by omega)).mp (f i hi)⟩
def tD (t : List Nat) : PyData := .tuple (t.map dN)
theorem th_tD {H : Hp} {p : Addr} {t : List Nat} (e : H p = some (.tup (t.map vN))) : Th H (.ref p) (tD t) := .tup e (ints_nat t)
theorem lay_tD (t : List Nat) : (tD t).canLay0 = true := by
  simp [tD, PyData.canLay0, layAll_ints]
theorem shaped_tD (t : List Nat) : SeqAt.shaped (tD t) = true := by
  unfold SeqAt.shaped
  rw [Bool.and_eq_true]
  refine ⟨lay_tD t, decide_eq_true ?_⟩
  simp only [tD, PyData.depth, depthAll_ints]
  decide
theorem eqv_tD (t u : List Nat) : PyData.eqv (tD t) (tD u) = decide (t = u) := by
  simp only [tD, PyData.eqv, eqvAll_ints]
theorem rep_tD {K : PySem.W.Frag} {H : Hp} {Q : VK} {p : Addr} {t : List Nat} (e : H p = some (.tup (t.map vN))) (h12 : t.length ≤ 12) (h : ∀ n ∈ t, n < 10 ^ 45) (q : Q (.str (tD t).shown) H) : rRep K [.ref p] H Q := by
  refine ⟨.ref p, tD t, rfl, Th.dq _ (th_tD e), (fun kvs z => nomatch z), ?_, ?_, ?_, q⟩
  · simp only [tD, PyData.showable, showAll_nats h]
  · simp only [tD, PyData.depth, depthAll_ints]
    decide
  · have a := shown_wt (tD t)
    have b := wts_nats h
    have c : wt (tD t) = 3 + wts (t.map dN) := rfl
    rw [sizeLine_eq]
    omega
theorem tree_three : TreeOf (0, [0, 0, 0]) [0, 1] := by
  have ok : ∀ n, COk (it n (0, [0, 0, 0])) := fun n => it_ok n (show (0 : Nat) < 3 by decide)
  refine ⟨2, 5, ⟨(free_hw (ok 2)).mpr (by decide), fun m hm => ?_⟩, ⟨by decide, fun k hk => ?_⟩, by decide⟩
  · match m, hm with
    | 0, _ => exact fun f => absurd ((free_hw (ok 0)).mp f) (by decide)
    | 1, _ => exact fun f => absurd ((free_hw (ok 1)).mp f) (by decide)
  · revert k
    decide
end Lk
end
section
set_option maxRecDepth 100000
set_option maxHeartbeats 2000000
/-! Rows of goals as coders; trees. -/
namespace Lk
open PySem PySem.Spec PyProof.Rows L2
/-- a coder at place 0 whose last goings are these -/
def cdOf (g : List Nat) : Cd := (0, (List.range g.length).map fun i => (g.getD i 0 + (g.length - i)) % g.length)
theorem cdOf_len (g : List Nat) : (cdOf g).2.length = g.length := by
  show ((List.range g.length).map _).length = _
  rw [List.length_map, List.length_range]
theorem cdOf_ok {g : List Nat} (h : 0 < g.length) : COk (cdOf g) := by
  show 0 < (cdOf g).2.length
  rw [cdOf_len]
  exact h
theorem cdOf_lenAt {g : List Nat} {i : Nat} (h : i < g.length) : len (cdOf g) i = (g.getD i 0 + (g.length - i)) % g.length := by
  show ((List.range g.length).map _).getD i 0 = _
  rw [List.getD_eq_getElem?_getD, List.getElem?_map, List.getElem?_range h]
  rfl
theorem cdOf_go {g : List Nat} (hg : ∀ x ∈ g, x < g.length) {i : Nat} (h : i < g.length) : go (cdOf g) i = g.getD i 0 := by
  have e : g.getD i 0 < g.length := hg _ (by
    rw [List.getD_eq_getElem?_getD, List.getElem?_eq_getElem h]
    exact List.getElem_mem h)
  show (i + len (cdOf g) i) % (cdOf g).2.length = _
  rw [cdOf_len, cdOf_lenAt h, Nat.add_mod_mod, show i + (g.getD i 0 + (g.length - i)) = g.getD i 0 + g.length by omega, Nat.add_mod_right, Nat.mod_eq_of_lt e]
theorem cdOf_gos {g : List Nat} (hg : ∀ x ∈ g, x < g.length) : gos (cdOf g) = g := by
  refine List.ext_getElem? fun i => ?_
  by_cases h : i < g.length
  · rw [gos_at (by rw [cdOf_len]; exact h), cdOf_go hg h, List.getD_eq_getElem?_getD, List.getElem?_eq_getElem h]
    rfl
  · rw [List.getElem?_eq_none (by rw [gos_len, cdOf_len]; omega), List.getElem?_eq_none (by omega)]
theorem gon_home {c : Cd} (h0 : c.1 = 0) (hg : go c 0 = 0) : ∀ k, gon c k 0 = 0
  | 0 => rfl
  | k + 1 => by rw [gon_succ, gon_home h0 hg k, hg]
/-- all come first who have come behind so many turns -/
theorem come_all {c : Cd} (h : COk c) (h0 : c.1 = 0) (hg : go c 0 = 0) : (∀ i, i < c.2.length → gon c c.2.length i = 0) ↔ Free c := by
  refine ⟨fun f i hi => ⟨c.2.length, (f i hi).trans h0.symm⟩, fun f i hi => ?_⟩
  obtain ⟨j, hj, e⟩ := rch_near h hi (f i hi)
  rw [show c.2.length = j + (c.2.length - j) by omega, gon_add, e, h0]
  exact gon_home h0 hg _
/-- what is a tree of p places -/
def IsTr (p : Nat) (d : PyData) : Prop := ∃ t : List Nat, d = tD t ∧ t.length + 1 = p ∧ (∀ x ∈ t, x < p) ∧ Free (cdOf (0 :: t))
theorem tD_inj {t u : List Nat} (e : tD t = tD u) : t = u := by
  have z : t.map dN = u.map dN := PyData.tuple.inj e
  have inj : ∀ a b : Nat, dN a = dN b → a = b := fun a b e => by injection e with e; omega
  exact List.map_inj_right (fun a b e => inj a b e) |>.mp z
def spCome : Sp := fun vs H Q _ => ∃ a t, vs = [.ref a] ∧ H a = some (.tup (t.map vN)) ∧ t.length ≤ 11 ∧ (∀ x ∈ t, x < t.length + 1) ∧ ∀ b H', (b = true ↔ Free (cdOf (0 :: t))) → Same H H' → Q (.bl b) H'
def spIsTree (C : Addr) : Sp := fun vs H Q E => ∃ u v e d, vs = [u, v] ∧ Th H u e ∧ Th H v d ∧ (inR e 1 12 = false → ∀ H', Same H H' → E (.ref C) none H') ∧
  (∀ p : Nat, e = .int (p : Int) → 1 ≤ p → p ≤ 12 → ∀ b H', (b = true ↔ IsTr p d) → Same H H' → Q (.bl b) H')
def spDue : Sp := fun vs H Q _ => ∃ (p : Nat) (v : V) (d : PyData), vs = [.int (p : Int), v] ∧ Th H v d ∧ 1 ≤ p ∧ p ≤ 12 ∧ ∀ b H', (b = true ↔ IsTr p d) → Same H H' → Q (.bl b) H'
theorem all_take {bs : List Bool} {n : Nat} (h : n = bs.length) : bs.take n = bs := by rw [h, List.take_length]
end Lk
end
section
set_option maxRecDepth 100000
set_option maxHeartbeats 2000000
/-! Drawn trees; heaps but for one object. -/
namespace Lk
open PySem PySem.Spec PyProof.Rows L2
/-- a list's method within a comprehension -/
theorem pe_bmK {X : Cx} {K : PySem.W.Frag} {o e : Expr} {es : List Expr} {to : TE} {t : TA} {name : Str} {apos cpos : Pos} {T id : String} {r : V → List V → Hp → VK → Prop} (hK : X.K = K) (pa : PlainAttrs T) (slot : Slot T name id) (hty : typeOf (.builtin id) = pure (.type "method_descriptor")) (hm : MtR X id r) (ho : PE X o to) (ha : PA X (e :: es) t)
    (hbase : attributeBase o name X.env (eval o X.env) = eval o X.env := by rfl)
    (hfew : ((backTo cpos (starEach (e :: es) X.env)).all (fun x => !x.1) && (backToKw cpos (keywordEach [] X.env)).all (fun x => x.1.isSome)
      && decide ((e :: es).length + ([] : List Keyword).length + (if ([] : List Keyword).isEmpty then 0 else 1) < 30)) = true := by rfl)
    (hline : (apos.endLine == cpos.line) = true := by rfl) (hs : starEach (e :: es) X.env = (false, eval e X.env) :: starEach es X.env := by rfl) (hplain : (backTo cpos (starEach es X.env)).any (·.1) = false := by rfl) :
    PE X (.Call (.Attribute o name apos) (e :: es) [] cpos) (tBM K T r to t) := by
  subst hK
  exact pe_bm pa slot hty hm ho ha hbase hfew hline hs hplain
theorem flat_rep (x : Nat) : ∀ n : Nat, (List.replicate n [V.int (x : Int)]).flatten = (List.replicate n x).map vN
  | 0 => rfl
  | n + 1 => by
    rw [List.replicate_succ, List.replicate_succ, List.flatten_cons, flat_rep x n]
    rfl
theorem ixN_at {n j : Nat} (hj : j < n) : ixN n (j : Int) = some j := by
  unfold ixN
  rw [if_pos (by omega), if_pos (by omega)]
  simp
theorem seq_at {n : Nat} {i : Int} (h0 : 0 ≤ i) (h1 : i < n) : seqIndex? i n = some i.toNat := by
  have z := ixN_seq (n := n) (i := i) (j := i.toNat) (by
    have e : i = ((i.toNat : Nat) : Int) := by omega
    rw [e]
    exact ixN_at (by omega))
  exact z.1
def spDTree : Sp := fun vs H Q _ => ∃ (a : Addr) (p : Nat) (n : Int), vs = [.ref a, .int (p : Int)] ∧ Urn H a n ∧ n ≤ 99000 ∧ 1 ≤ p ∧ p ≤ 12 ∧
  ∀ (t : List Nat) (pt : Addr) H', t.length + 1 = p → (∀ x ∈ t, x < p) → Urn H' a (n + 30) → SameBut a H H' → H pt = none → H' pt = some (.tup (t.map vN)) → Q (.ref pt) H'
/-- the heap without one object -/
def rm (a : Addr) (H : Hp) : Hp := fun b => if b = a then none else H b
theorem rm_ne {a b : Addr} {H : Hp} (h : b ≠ a) : rm a H b = H b := if_neg h
theorem rm_same {a : Addr} {H : Hp} : Same (rm a H) H := fun b o e => by
  by_cases h : b = a
  · rw [h] at e
    unfold rm at e
    rw [if_pos rfl] at e
    cases e
  · rw [← rm_ne (H := H) h]
    exact e
theorem rm_but {a : Addr} {H H2 : Hp} (s : SameBut a H H2) : Same (rm a H) (rm a H2) := fun b o e => by
  by_cases h : b = a
  · rw [h] at e
    unfold rm at e
    rw [if_pos rfl] at e
    cases e
  · rw [rm_ne h] at e ⊢
    exact s b o h e
theorem eraseIdx_map {l : List Nat} (k : Nat) : (l.map vN).eraseIdx k = (l.eraseIdx k).map vN := by
  induction l generalizing k with
  | nil => rfl
  | cons x l ih =>
    cases k with
    | zero => rfl
    | succ k =>
      show vN x :: (l.map vN).eraseIdx k = vN x :: (l.eraseIdx k).map vN
      rw [ih]
end Lk
end
section
set_option maxRecDepth 100000
set_option maxHeartbeats 2000000
/-! Things that are shown; things that hang not on the urn. -/
namespace Lk
open PySem PySem.Spec PyProof.Rows L2
def Good (d : PyData) : Prop := d.showable = true ∧ d.depth ≤ 8 ∧ wt d ≤ 2000
theorem th_tup {H : Hp} {a p : Addr} {n : Int} {xs : List V} {ds : List PyData} (u : Urn H a n) (e : H p = some (.tup xs)) (m : ThAll (rm a H) xs ds) : Th (rm a H) (.ref p) (.tuple ds) := by
  refine .tup ?_ m
  rw [rm_ne (fun z => ?_)]
  · exact e
  · obtain ⟨_, _, _, e2, _⟩ := u
    rw [z, e2] at e
    cases e
theorem th_lst {H : Hp} {a p : Addr} {xs : List V} {ds : List PyData} (ne : p ≠ a) (e : H p = some (.lst xs)) (m : ThAll (rm a H) xs ds) : Th (rm a H) (.ref p) (.list ds) := .lst (by rw [rm_ne ne]; exact e) m
theorem th_dct {H : Hp} {a p : Addr} (ne : p ≠ a) (e : H p = some (.dK [])) : Th (rm a H) (.ref p) (.dict []) := .dct (by rw [rm_ne ne]; exact e)
theorem Th.up {H H2 : Hp} {a : Addr} {v : V} {d : PyData} (h : Th (rm a H) v d) (s : SameBut a H H2) : Th (rm a H2) v d := Th.same (rm_but s) d h
theorem ThAll.up {H H2 : Hp} {a : Addr} {vs : List V} {ds : List PyData} (h : ThAll (rm a H) vs ds) (s : SameBut a H H2) : ThAll (rm a H2) vs ds := ThAll.same (rm_but s) ds h
theorem wt_small {n : Nat} (h : n < 10 ^ 45) : wt (dN n) ≤ 46 := wt_nat h
theorem dep_ints : ∀ l : List Nat, PyData.depthAll (l.map dN) = 0 := depthAll_ints
theorem good_tup {t : List Nat} (h : ∀ x ∈ t, x < 10 ^ 45) (l : t.length ≤ 30) : Good (.tuple (t.map dN)) := by
  refine ⟨?_, ?_, ?_⟩
  · simp only [PyData.showable, showAll_nats h]
  · simp only [PyData.depth, depthAll_ints]
    decide
  · have b := wts_nats h
    show 3 + wts (t.map dN) ≤ 2000
    omega
theorem good_lst {t : List Nat} (h : ∀ x ∈ t, x < 10 ^ 45) (l : t.length ≤ 30) : Good (.list (t.map dN)) := by
  refine ⟨?_, ?_, ?_⟩
  · simp only [PyData.showable, showAll_nats h]
  · simp only [PyData.depth, depthAll_ints]
    decide
  · have b := wts_nats h
    show 2 + wts (t.map dN) ≤ 2000
    omega
def GoodS (d : PyData) : Prop := d.showable = true ∧ d.depth ≤ 6 ∧ wt d ≤ 200
theorem GoodS.good {d : PyData} (h : GoodS d) : Good d := ⟨h.1, by have := h.2.1; omega, by have := h.2.2; omega⟩
theorem showAll_app : ∀ {ds es : List PyData}, PyData.showableAll ds = true → PyData.showableAll es = true → PyData.showableAll (ds ++ es) = true
  | [], _, _, h => h
  | d :: ds, es, h1, h2 => by
    simp only [PyData.showableAll, Bool.and_eq_true] at h1
    simp only [List.cons_append, PyData.showableAll, Bool.and_eq_true]
    exact ⟨h1.1, showAll_app h1.2 h2⟩
theorem depAll_le {B : Nat} : ∀ {ds : List PyData}, (∀ d ∈ ds, d.depth ≤ B) → PyData.depthAll ds ≤ B
  | [], _ => by simp [PyData.depthAll]
  | d :: ds, h => by
    have a := h d List.mem_cons_self
    have b := depAll_le (ds := ds) fun x hx => h x (List.mem_cons_of_mem _ hx)
    simp only [PyData.depthAll]
    omega
theorem showAll_of : ∀ {ds : List PyData}, (∀ d ∈ ds, d.showable = true) → PyData.showableAll ds = true
  | [], _ => by simp [PyData.showableAll]
  | d :: ds, h => by
    simp only [PyData.showableAll, Bool.and_eq_true]
    exact ⟨h d List.mem_cons_self, showAll_of fun x hx => h x (List.mem_cons_of_mem _ hx)⟩
theorem goodS_int {i : Int} (h : i.natAbs < 10 ^ 45) : GoodS (.int i) := by
  refine ⟨?_, by simp [PyData.depth], ?_⟩
  · have z := showAll_nats (ls := [i.natAbs]) (by intro n hn; rw [List.mem_singleton.mp hn]; exact h)
    simp only [List.map_cons, PyData.showableAll, PyData.showable, Bool.and_eq_true] at z ⊢
    simpa using z.1
  · have := wt_int h
    omega
/-- a tuple of a few small things -/
theorem good_some {ds : List PyData} (h : ∀ d ∈ ds, GoodS d ∧ wt d ≤ 60) (l : ds.length ≤ 30) : Good (.tuple ds) := by
  refine ⟨?_, ?_, ?_⟩
  · simp only [PyData.showable]
    exact showAll_of fun d hd => (h d hd).1.1
  · have z := depAll_le (B := 6) fun d hd => (h d hd).1.2.1
    simp only [PyData.depth]
    omega
  · have z := wts_le (B := 60) (ds := ds) fun d hd => (h d hd).2
    have z2 : ds.length * 62 ≤ 30 * 62 := Nat.mul_le_mul_right _ l
    show 3 + wts ds ≤ 2000
    omega
/-- what the repr of a list of such things asks -/
theorem rep_good {K : PySem.W.Frag} {H : Hp} {Q : VK} {p : Addr} {xs : List V} {ds : List PyData} (e : H p = some (.lst xs)) (m : ThAll H xs ds) (g : ∀ d ∈ ds, Good d) (l : ds.length ≤ 100) (q : Q (.str (PyData.list ds).shown) H) : rRep K [.ref p] H Q := by
  refine ⟨.ref p, .list ds, rfl, Th.dq _ (.lst e m), (fun kvs z => nomatch z), ?_, ?_, ?_, q⟩
  · simp only [PyData.showable]
    exact showAll_of fun d hd => (g d hd).1
  · have z := depAll_le (B := 8) fun d hd => (g d hd).2.1
    simp only [PyData.depth]
    omega
  · have a := shown_wt (.list ds)
    have z := wts_le (B := 2000) (ds := ds) fun d hd => (g d hd).2.2
    have z2 : ds.length * 2002 ≤ 100 * 2002 := Nat.mul_le_mul_right _ l
    have c : wt (.list ds) = 2 + wts ds := rfl
    rw [sizeLine_eq]
    omega
theorem rm_mono {a : Addr} {H H2 : Hp} (s : Same H H2) : Same (rm a H) (rm a H2) := rm_but fun b o _ e => s b o e
theorem rm_new {S : Addr} {H H2 : Hp} (h : H S = none) (s : Same H H2) : Same H (rm S H2) := fun b o e => by
  rw [rm_ne (ne_of_none e h)]
  exact s b o e
theorem rm_none {a S : Addr} {H : Hp} (h : H S = none) : rm a H S = none := by
  unfold rm
  split
  · rfl
  · exact h
theorem rm_upd {S : Addr} {H : Hp} {o : HO} : Same (rm S H) (rm S (upd H S o)) := rm_but sameBut_upd
theorem rm_upd2 {a S : Addr} {H : Hp} {o : HO} : Same (rm S (rm a H)) (rm S (rm a (upd H S o))) := fun b x e => by
  by_cases h : b = S
  · rw [h] at e
    unfold rm at e
    rw [if_pos rfl] at e
    cases e
  · rw [rm_ne h] at e ⊢
    by_cases h2 : b = a
    · rw [h2] at e
      unfold rm at e
      rw [if_pos rfl] at e
      cases e
    · rw [rm_ne h2] at e ⊢
      rw [upd_ne h]
      exact e
theorem th2_tup {H : Hp} {a S p : Addr} {n : Int} {xs ws : List V} {ds : List PyData} (u : Urn H a n) (eS : H S = some (.lst ws)) (e : H p = some (.tup xs)) (m : ThAll (rm S (rm a H)) xs ds) : Th (rm S (rm a H)) (.ref p) (.tuple ds) := by
  refine .tup ?_ m
  rw [rm_ne (fun z => ?_), rm_ne (fun z => ?_)]
  · exact e
  · obtain ⟨_, _, _, e2, _⟩ := u
    rw [z, e2] at e
    cases e
  · rw [z, eS] at e
    cases e
theorem th2_lst {H : Hp} {a S p : Addr} {xs : List V} {ds : List PyData} (n1 : p ≠ a) (n2 : p ≠ S) (e : H p = some (.lst xs)) (m : ThAll (rm S (rm a H)) xs ds) : Th (rm S (rm a H)) (.ref p) (.list ds) := .lst (by rw [rm_ne n2, rm_ne n1]; exact e) m
theorem th2_dct {H : Hp} {a S p : Addr} (n1 : p ≠ a) (n2 : p ≠ S) (e : H p = some (.dK [])) : Th (rm S (rm a H)) (.ref p) (.dict []) := .dct (by rw [rm_ne n2, rm_ne n1]; exact e)
theorem flat_any (x : V) : ∀ n : Nat, (List.replicate n [x]).flatten = List.replicate n x
  | 0 => rfl
  | n + 1 => by
    rw [List.replicate_succ, List.replicate_succ, List.flatten_cons, flat_any x n]
    rfl
theorem thAll_rep {H : Hp} {v : V} {d : PyData} (h : Th H v d) : ∀ n : Nat, ThAll H (List.replicate n v) (List.replicate n d)
  | 0 => .nil
  | n + 1 => .cons h (thAll_rep h n)
theorem good_rep {d : PyData} (g : GoodS d) (w : wt d ≤ 60) {n : Nat} (h : n ≤ 30) : Good (.tuple (List.replicate n d)) :=
  good_some (fun x hx => by rw [List.eq_of_mem_replicate hx]; exact ⟨g, w⟩) (by rw [List.length_replicate]; exact h)
def spThings : Sp := fun vs H Q _ => ∃ (a : Addr) (p : Nat) (n : Int), vs = [.ref a, .int (p : Int)] ∧ Urn H a n ∧ n ≤ 98000 ∧ 1 ≤ p ∧ p ≤ 12 ∧
  ∀ D H' ws ds, H' D = some (.lst ws) → ThAll (rm a H') ws ds → (∀ d ∈ ds, Good d) → ds.length ≤ 40 → Urn H' a (n + 130) → SameBut a H H' → Q (.ref D) H'
end Lk
end
section
set_option maxRecDepth 100000
set_option maxHeartbeats 2000000
/-! enumerate(t, start=k) of a tuple. -/
namespace Lk
open PySem PySem.Spec PyProof.Rows L2
theorem callWithT_kw {M : Model} {A : Around} {E : Value → Shared → Prop} {s : Shared} {env : Env} {pos : Pos} {T : String} {e : Expr} {rest : List Expr} {kws : List Keyword} {Q : Value → Shared → Prop}
    (h : wpAny M A (spliced (backTo pos (starEach (e :: rest) env))) (fun vs s₁ => wpAny M A (evalAll ((backToKw pos (keywordEach kws env)).map (·.2)))
      (fun kvs s₂ => wpAny M A (call (.type T) vs (((backToKw pos (keywordEach kws env)).filterMap (·.1)).zip kvs)) Q E s₂) E s₁) E s)
    (he : backTo pos (starEach (e :: rest) env) = (false, eval e env) :: backTo pos (starEach rest env))
    (hplain : (backTo pos (starEach (e :: rest) env)).any (·.1) = false)
    (hall : (backToKw pos (keywordEach kws env)).all (·.1.isSome) = true)
    (hkw : (backToKw pos (keywordEach kws env)).any (·.1.isNone) = false) :
    wpAny M A (callWith pos (.type T) [] (backTo pos (starEach (e :: rest) env)) (backToKw pos (keywordEach kws env))) Q E s := by
  unfold callWith
  refine wpAny_bind (wpAny_holding (wpAny_mono (?_ : wpAny M A (evalArgs (.type T) true (backTo pos (starEach (e :: rest) env)) (backToKw pos (keywordEach kws env))) (fun a s₁ => wpAny M A (call (.type T) ([] ++ a.pos) a.kw) Q E s₁) E s) (fun a s₁ h₁ => wpAny_bind (wpAny_standAt ?_)) fun _ _ x => x))
  · rw [he] at h ⊢
    exact evalArgs_kwB hall h
  · simp only [hplain, hkw, Bool.or_false]
    refine wpAny_bind (wpAny_pure ?_)
    exact wpAny_bind (wpAny_mono h₁ (fun r s₂ hr => wpAny_bind (wpAny_holding (wpAny_point (wpAny_pure hr)))) fun _ _ x => x)
def iEnumS (K : PySem.W.Frag) (ta tk : TA) : TI := fun σ H R => ta σ H fun vs H1 => tk σ H1 fun zs H2 => ∃ (a : Addr) (xs : List V) (c : Int), vs = [.ref a] ∧ zs = [.int c] ∧ 0 ≤ c ∧ c < 1000 ∧ SqT K H2 a xs ∧ R (IteT K a c) H2
theorem pi_enumS {X : Cx} {e e2 : Expr} {ta tk : TA} {p pos tpos kpos : Pos} {elts : List Expr} {kk : Nat} (hg : Gl X "enumerate") (hm : X.mg "enumerate" = none) (ha : PA X [e] ta) (hk : PK X [⟨some "start", e2, kpos⟩] tk)
    (he : backTo pos (starEach [e] X.env) = (false, eval e X.env) :: backTo pos (starEach [] X.env) := by rfl) (hpl : (backTo pos (starEach [e] X.env)).any (·.1) = false := by rfl)
    (hall : (backToKw pos (keywordEach [⟨some "start", e2, kpos⟩] X.env)).all (·.1.isSome) = true := by rfl) (hnone : (backToKw pos (keywordEach [⟨some "start", e2, kpos⟩] X.env)).any (·.1.isNone) = false := by rfl)
    (hks : (backToKw pos (keywordEach [⟨some "start", e2, kpos⟩] X.env)).filterMap (·.1) = [Str.ofString "start"] := by rfl) :
    PI X (.Tuple elts kk tpos) (.Call (.Name "enumerate" p) [e] [⟨some "start", e2, kpos⟩] pos) (iEnumS X.K ta tk) := by
  refine ⟨fun pins s σ H R I h => wpAny_Call_Name_kw (ld_blt I hg hm boot_enumerate ?_)⟩
  refine callWithT_kw (thn (ha.run pos pins s σ H _ I h) fun us s1 ⟨vs, H1, I1, r1, q1⟩ => thn (hk.run pos pins s1 σ H1 _ I1 q1) fun ws s2 ⟨zs, H2, I2, r2, q2⟩ => ?_) he hpl hall hnone
  rw [hks]
  obtain ⟨a, xs, c, ex, ez, c0, c1, hq, q⟩ := q2
  subst ex ez
  cases r1 with
  | cons r rr =>
    cases rr
    cases r
    cases r2 with
    | cons r2 rr2 =>
      cases rr2
      obtain ⟨tt, rfl⟩ := r2
      obtain ⟨its, rv, tp, hz⟩ := I2.tuple hq
      refine enum_begins_start (begins_tuple a its.toArray) tp (by omega) (by omega) fun h2 he hit hsz hk2 => wpAny_pyIter_enum he ?_
      have I3 : Inv X pins σ H2 { s2 with heap := h2 } := I2.kept (t' := s2.toks) hk2
      refine ⟨s2.heap.objs.size + 1, [s2.heap.objs.size + 1, s2.heap.objs.size], _, _, H2, rfl, I3, turn_enumT a (s2.heap.objs.size + 1) s2.heap.objs.size, ⟨⟨.none, ?_⟩, ⟨_, hit, rfl, rfl⟩, Nat.succ_ne_self _⟩, fun b hb => ?_, q⟩
      · rw [show c + ((0 : Nat) : Int) = c by omega]
        exact he
      · have hle : s2.heap.objs.size ≤ b := by
          rcases List.mem_cons.mp hb with z | z
          · rw [z]; exact Nat.le_add_right _ _
          · rw [List.mem_singleton.mp z]; exact Nat.le_refl _
        exact I2.fpOk hle (I2.hok.fresh hle)
end Lk
end
section
set_option maxRecDepth 100000
set_option maxHeartbeats 2000000
/-! The coder of a tree. -/
namespace Lk
open PySem PySem.Spec PyProof.Rows L2
def lensOf (t : List Nat) : List Nat := (List.range t.length).map fun i => (t.getD i 0 + (t.length + 1 - (i + 1))) % (t.length + 1)
theorem lensOf_len (t : List Nat) : (lensOf t).length = t.length := by
  unfold lensOf
  rw [List.length_map, List.length_range]
theorem lensOf_at {t : List Nat} {i : Nat} (h : i < t.length) : (lensOf t)[i]? = some ((t.getD i 0 + (t.length + 1 - (i + 1))) % (t.length + 1)) := by
  unfold lensOf
  rw [List.getElem?_map, List.getElem?_range h]
  rfl
theorem cdOf_cons (t : List Nat) : cdOf (0 :: t) = (0, 0 :: lensOf t) := by
  show (0, (List.range (t.length + 1)).map _) = _
  rw [List.range_succ_eq_map, List.map_cons, List.map_map]
  refine Prod.ext rfl ?_
  show ((0 :: t).getD 0 0 + ((0 :: t).length - 0)) % (0 :: t).length :: _ = 0 :: lensOf t
  rw [List.length_cons]
  have e : ((0 :: t).getD 0 0 + (t.length + 1 - 0)) % (t.length + 1) = 0 := by
    show (0 + (t.length + 1)) % (t.length + 1) = 0
    rw [Nat.zero_add, Nat.mod_self]
  rw [e]
  refine congrArg (List.cons 0) ?_
  unfold lensOf
  refine List.map_congr_left fun i _ => ?_
  rfl
/-- a row of goals that is a tree -/
def TOk (p : Nat) (t : List Nat) : Prop := t.length + 1 = p ∧ (∀ x ∈ t, x < p) ∧ Free (cdOf (0 :: t))
theorem TOk.isTr {p : Nat} {t : List Nat} (h : TOk p t) : IsTr p (tD t) := ⟨t, rfl, h.1, h.2.1, h.2.2⟩
theorem TOk.cons {p : Nat} {t : List Nat} (h : TOk p t) : ∀ x ∈ 0 :: t, x < (0 :: t).length := fun x hx => by
  rw [List.length_cons, h.1]
  rcases List.mem_cons.mp hx with e | m
  · have := h.1
    omega
  · exact h.2.1 x m
theorem cdOf_home (t : List Nat) : Home0 (cdOf (0 :: t)) := by
  refine ⟨rfl, ?_⟩
  rw [cdOf_cons]
  show 0 % _ = 0
  exact Nat.zero_mod _
theorem tree_cdOf {p : Nat} {t : List Nat} (h : TOk p t) : TreeOf (cdOf (0 :: t)) t := by
  refine ⟨0, 0, ⟨h.2.2, fun m hm => absurd hm (Nat.not_lt_zero _)⟩, ⟨cdOf_home t, fun k hk => absurd hk (Nat.not_lt_zero _)⟩, ?_⟩
  show t = (gos (cdOf (0 :: t))).drop 1
  rw [cdOf_gos h.cons]
  rfl
theorem cdOf_cdOk {p : Nat} {t : List Nat} (h : TOk p t) (p12 : p ≤ 12) : CdOk (cdOf (0 :: t)) := ⟨cdOf_ok (Nat.succ_pos _), by rw [cdOf_len, List.length_cons, h.1]; exact p12⟩
theorem gon_same {d : Cd} (h : COk d) : ∀ (k i : Nat), i < d.2.length → gon (cdOf (gos d)) k i = gon d k i
  | 0, _, _ => rfl
  | k + 1, i, hi => by
    have hg : ∀ x ∈ gos d, x < (gos d).length := fun x hx => by
      rw [gos_len]
      unfold gos at hx
      obtain ⟨j, _, rfl⟩ := List.mem_map.mp hx
      exact go_lt h j
    have e : go (cdOf (gos d)) i = go d i := by
      rw [cdOf_go hg (by rw [gos_len]; exact hi), List.getD_eq_getElem?_getD, gos_at hi]
      rfl
    show gon (cdOf (gos d)) k (go (cdOf (gos d)) i) = gon d k (go d i)
    rw [e]
    exact gon_same h k _ (go_lt h i)
/-- the tree of a coder is one -/
theorem treeOf_ok {c : Cd} (h : COk c) {t : List Nat} (a : TreeOf c t) : TOk c.2.length t := by
  have hp : 0 < c.2.length := Nat.lt_of_le_of_lt (Nat.zero_le _) h
  have l := treeOf_len a
  refine ⟨by omega, treeOf_lt h a, ?_⟩
  obtain ⟨n, j, a1, a2, rfl⟩ := a
  rw [it_add]
  have okd : COk (it j (it n c)) := it_ok j (it_ok n h)
  have frd : Free (it j (it n c)) := free_it j (it_ok n h) a1.1
  have h0 := a2.1
  generalize hd : it j (it n c) = d at *
  have dl : d.2.length = c.2.length := by rw [← hd, it_len, it_len]
  have e0 : go d 0 = 0 := by
    show (0 + len d 0) % d.2.length = 0
    rw [Nat.zero_add]
    exact h0.2
  have eg : 0 :: (gos d).drop 1 = gos d := by
    cases hg : gos d with
    | nil =>
      have z := gos_len d
      rw [hg] at z
      have z2 : 0 = d.2.length := z
      omega
    | cons x l =>
      have z := gos_at (c := d) (i := 0) (by omega)
      rw [hg, e0] at z
      have z2 : x = 0 := Option.some.inj z
      rw [z2]
      rfl
  rw [eg]
  intro i hi
  rw [cdOf_len, gos_len] at hi
  obtain ⟨k, hk⟩ := frd i hi
  refine ⟨k, ?_⟩
  rw [gon_same okd k i hi, hk]
  exact h0.1
def spCoderOf : Sp := fun vs H Q _ => ∃ (p : Nat) (a : Addr) (t : List Nat), vs = [.int (p : Int), .ref a] ∧ H a = some (.tup (t.map vN)) ∧ TOk p t ∧ p ≤ 12 ∧ ∀ v H', Same H H' → Cat H' v (cdOf (0 :: t)) → Q v H'
theorem ist_of {C1 : Addr} {Q : VK} {E : XK} {H : Hp} {v : V} {d : PyData} {p : Nat} (p1 : 1 ≤ p) (p12 : p ≤ 12) (h : Th H v d) (k : ∀ b H', (b = true ↔ IsTr p d) → Same H H' → Q (.bl b) H') : spIsTree C1 [.int (p : Int), v] H Q E := by
  refine ⟨_, v, .int (p : Int), d, rfl, .int _, h, fun z => ?_, fun p' e _ _ b H' hb s => ?_⟩
  · exfalso
    have y : (decide ((1 : Int) ≤ (p : Int)) && decide ((p : Int) ≤ 12)) = false := z
    rw [decide_eq_true (by omega), decide_eq_true (by omega)] at y
    cases y
  · have e2 : p' = p := by
      injection e with e
      omega
    subst e2
    exact k b H' hb s
def spLeast : Sp := fun vs H Q _ => ∃ (i g p : Nat), vs = [.int (i : Int), .int (g : Int), .int (p : Int)] ∧ i ≤ p ∧ g < p ∧ p ≤ 12 ∧ ∀ H', Same H H' → Q (.int (((g + (p - i)) % p : Nat) : Int)) H'
end Lk
end
section
set_option maxRecDepth 100000
set_option maxHeartbeats 2000000
/-! A drawn tree is one. -/
namespace Lk
open PySem PySem.Spec PyProof.Rows L2
theorem all_in {p : Nat} {os : List Nat} (nd : os.Nodup) (l : os.length + 1 = p) (b : ∀ x ∈ os, 1 ≤ x ∧ x < p) {i : Nat} (h1 : 1 ≤ i) (h2 : i < p) : i ∈ os := by
  refine Classical.byContradiction fun no => ?_
  have nd2 : (0 :: i :: os).Nodup := by
    refine List.nodup_cons.mpr ⟨fun m => ?_, List.nodup_cons.mpr ⟨no, nd⟩⟩
    rcases List.mem_cons.mp m with e | m
    · omega
    · have := b 0 m
      omega
  have z := nodup_below (p := p) nd2 fun x hx => by
    rcases List.mem_cons.mp hx with e | m
    · omega
    · rcases List.mem_cons.mp m with e | m
      · omega
      · exact (b x m).2
  simp only [List.length_cons] at z
  omega
theorem getD_mem {l : List Nat} {i : Nat} (h : i < l.length) : l.getD i 0 ∈ l := by
  rw [List.getD_eq_getElem?_getD, List.getElem?_eq_getElem h]
  exact List.getElem_mem h
theorem drawn_free {p : Nat} {os gs : List Nat} (nd : os.Nodup) (l : os.length + 1 = p) (b : ∀ x ∈ os, 1 ≤ x ∧ x < p) (gl : gs.length = p) (gb : ∀ x ∈ gs, x < p)
    (H : ∀ j, j < os.length → ∃ v, v ≤ j ∧ gs.getD (os.getD j 0) 0 = (0 :: os).getD v 0) : TOk p (gs.drop 1) := by
  have l1 : (gs.drop 1).length + 1 = p := by rw [List.length_drop]; omega
  have b1 : ∀ x ∈ gs.drop 1, x < p := fun x hx => gb x (List.mem_of_mem_drop hx)
  refine ⟨l1, b1, ?_⟩
  have hg : ∀ x ∈ 0 :: gs.drop 1, x < (0 :: gs.drop 1).length := fun x hx => by
    rw [List.length_cons, l1]
    rcases List.mem_cons.mp hx with e | m
    · omega
    · exact b1 x m
  have goat : ∀ i, 1 ≤ i → i < p → go (cdOf (0 :: gs.drop 1)) i = gs.getD i 0 := fun i h1 h2 => by
    rw [cdOf_go hg (by rw [List.length_cons, l1]; exact h2)]
    obtain ⟨k, rfl⟩ : ∃ k, i = k + 1 := ⟨i - 1, by omega⟩
    rw [List.getD_cons_succ, List.getD_eq_getElem?_getD, List.getElem?_drop, Nat.add_comm 1 k, ← List.getD_eq_getElem?_getD]
  have r0 : Rch (cdOf (0 :: gs.drop 1)) 0 := ⟨0, rfl⟩
  have up : ∀ i, Rch (cdOf (0 :: gs.drop 1)) (go (cdOf (0 :: gs.drop 1)) i) → Rch (cdOf (0 :: gs.drop 1)) i := fun i ⟨m, e⟩ => ⟨m + 1, e⟩
  have key : ∀ n j, j < n → j < os.length → Rch (cdOf (0 :: gs.drop 1)) (os.getD j 0) := by
    intro n
    induction n with
    | zero => exact fun j h => absurd h (Nat.not_lt_zero _)
    | succ n ih =>
      intro j hj hjl
      have hb := b _ (getD_mem hjl)
      refine up _ ?_
      rw [goat _ hb.1 hb.2]
      obtain ⟨v, hv, e⟩ := H j hjl
      rw [e]
      cases v with
      | zero => exact r0
      | succ v =>
        rw [List.getD_cons_succ]
        exact ih v (by omega) (by omega)
  intro i hi
  rw [cdOf_len, List.length_cons, l1] at hi
  by_cases h0 : i = 0
  · rw [h0]
    exact r0
  · obtain ⟨j, hj, e⟩ := List.mem_iff_getElem.mp (all_in nd l b (by omega) hi)
    have z := key (j + 1) j (by omega) hj
    rw [List.getD_eq_getElem?_getD, List.getElem?_eq_getElem hj] at z
    rw [← e]
    exact z
def spDTree2 : Sp := fun vs H Q _ => ∃ (a : Addr) (p : Nat) (n : Int), vs = [.ref a, .int (p : Int)] ∧ Urn H a n ∧ n ≤ 99000 ∧ 1 ≤ p ∧ p ≤ 12 ∧
  ∀ (t : List Nat) (pt : Addr) H', TOk p t → Urn H' a (n + 30) → SameBut a H H' → H' pt = some (.tup (t.map vN)) → Q (.ref pt) H'
theorem erase_perm : ∀ (l : List Nat) (k : Nat) (h : k < l.length), (l[k] :: l.eraseIdx k).Perm l
  | [], _, h => absurd h (Nat.not_lt_zero _)
  | x :: l, 0, _ => List.Perm.refl _
  | x :: l, k + 1, h => by
    have hk : k < l.length := by simpa using h
    show (l[k] :: x :: l.eraseIdx k).Perm (x :: l)
    exact (List.Perm.swap x (l[k]) (l.eraseIdx k)).trans ((erase_perm l k hk).cons x)
theorem nodup_move {ls os : List Nat} {k : Nat} (h : k < ls.length) (nd : (ls ++ os).Nodup) : (ls.eraseIdx k ++ (os ++ [ls[k]])).Nodup := by
  have p1 : (ls.eraseIdx k ++ (os ++ [ls[k]])).Perm (ls ++ os) := by
    have a : (ls[k] :: ls.eraseIdx k).Perm ls := erase_perm ls k h
    have b : (ls.eraseIdx k ++ (os ++ [ls[k]])).Perm (ls[k] :: (ls.eraseIdx k ++ os)) := by
      rw [← List.append_assoc]
      exact List.perm_append_comm (l₂ := [ls[k]])
    exact b.trans (a.append_right os)
  exact p1.nodup_iff.mpr nd
end Lk
end
section
set_option maxRecDepth 100000
set_option maxHeartbeats 2000000
/-! max of a tuple of ints. -/
namespace Lk
open PySem PySem.Spec PyProof.Rows L2
section
variable {prog : Program} {w : World} {A : Around} {E : Value → Shared → Prop} {s : Shared} {l : Addr}
theorem max_tupRaw {its : List Value} {ns : List Int} {Q : Value → Shared → Prop} (hh : A.handled = none) (hl : s.heap.IsTuple l its.toArray) (hi : IntsAre its ns) (hne : 0 < ns.length)
    (h : ∀ h' tk M t', (∀ b o, s.heap.get? b = some o → h'.get? b = some o) → M ∈ ns → (∀ a, a ∈ ns → a ≤ M) → Q (.int M t') { s with heap := h', toks := tk }) : wpAny (model prog w) A (call (.builtin "max") [.ref l]) Q E s := by
  obtain ⟨xs, e⟩ := hi.allInts.items
  have hn : numsOf (intItems xs).toList = ns := by rw [← e]; exact hi.numsOf
  rw [nums_intItems] at hn
  subst hn
  rw [e] at hl
  have hsz : 0 < xs.size := by simpa using hne
  have fin : ∀ v h' tk, (intItems xs)[argBest (fun i j => decide (numAt xs i > numAt xs j)) (xs.size - 1)]? = some v → (∀ b o, s.heap.get? b = some o → h'.get? b = some o) → Q v { s with heap := h', toks := tk } := fun v h' tk hv hk => by
    obtain ⟨t, rfl⟩ := intItems_at hv
    obtain ⟨h1, h2⟩ := argBest_gt (numAt xs) (xs.size - 1)
    refine h h' tk _ t hk ?_ fun a ha => ?_
    · rw [numAt_eq]; exact PySem.getD_mem (by rw [List.length_map, Array.length_toList]; omega)
    · obtain ⟨j, hj, rfl⟩ := mem_getD ha
      rw [List.length_map, Array.length_toList] at hj
      rw [← numAt_eq]; exact h2 j (by omega)
  have hll : l < s.heap.objs.size := by obtain ⟨o, ho, _⟩ := id hl; exact Heap.lt_size ho
  have hne2 : l ≠ s.heap.objs.size := Nat.ne_of_lt hll
  refine PySem.call_max_walk (wpAny_pyIter_tuple hl ?_)
  refine ⟨s.heap.objs.size, _, _, _, _, _, _, rfl, Walks.tuple (A := A.in1) hh _ l hne2 (intItems xs), ⟨?_, ?_⟩, fun b hb => ?_, by simpa [intItems] using hsz, CmpOf.ints_gt (numAt xs) (fun _ _ => intItems_at), fun v h' tk hP hk => ?_⟩
  · exact ⟨_, Heap.get?_push_size _ rfl, rfl, rfl⟩
  · exact hl.at fun o e => Heap.get?_push_of_some _ e
  · rw [Heap.size_push]
    rcases List.mem_cons.mp hb with z | z
    · rw [z]; exact Nat.lt_succ_self _
    · rw [List.mem_singleton.mp z]; exact Nat.lt_succ_of_lt hll
  · refine fin v h' tk (by simpa [intItems] using hP) fun b o e => hk b o (fun hb => ?_) (Heap.get?_push_of_some _ e)
    have z := Heap.lt_size e
    rw [List.mem_singleton.mp hb] at z
    exact Nat.lt_irrefl _ z
end
def rMaxT (K : PySem.W.Frag) : List V → Hp → VK → Prop := fun vs H Q => ∃ (a : Addr) (ns : List Int), vs = [V.ref a] ∧ SqT K H a (ns.map V.int) ∧ 0 < ns.length ∧ ∀ m, m ∈ ns → (∀ y, y ∈ ns → y ≤ m) → Q (.int m) H
theorem cr_maxT {X : Cx} (hc : X.calm = true) : CallR X (.builtin "max") (rMaxT X.K) := by
  intro pins s σ H vs us Q I r h
  obtain ⟨a, ns, rfl, hs, hne, q⟩ := h
  obtain ⟨its, rv, hl, _⟩ := I.tuple hs
  rw [Vals.ref1 r]
  exact max_tupRaw (I.ok.hd hc) hl rv.ints hne fun h' tk m t' hk h1 h2 => ⟨.int _, H, I.kept hk, ⟨_, rfl⟩, q m h1 h2⟩
end Lk
end
section
set_option maxRecDepth 100000
set_option maxHeartbeats 2000000
/-! Far words. -/
namespace Lk
open PySem PySem.Spec PyProof.Rows L2
theorem count_of1 {e : PyData} {m : Nat} (h : inR e 1 m = true) : ∃ n : Nat, e = .int n ∧ 1 ≤ n ∧ n ≤ m := by
  cases e with
  | int i =>
    have z : (decide ((1 : Int) ≤ i) && decide (i ≤ (m : Int))) = true := h
    rw [Bool.and_eq_true, decide_eq_true_eq, decide_eq_true_eq] at z
    exact ⟨i.toNat, by rw [Int.toNat_of_nonneg (by omega)], by omega, by omega⟩
  | _ => cases h
/-- NoCoder, NoCount of a number below 1 or beyond m; else told -/
def spOf1 (C1 C2 : Addr) (m : Nat) (told : Cd → Nat → VK → Hp → Prop) : Sp := fun vs H Q E => ∃ v u d e, vs = [v, u] ∧ Th H v d ∧ Th H u e ∧ (isCd d = false → ∀ H', Same H H' → E (.ref C1) none H') ∧
  (isCd d = true → inR e 1 m = false → ∀ H', Same H H' → E (.ref C2) none H') ∧ (∀ c (n : Nat), d = cdD c → CdOk c → e = .int n → 1 ≤ n → n ≤ m → told c n Q H)
def toldWd (c : Cd) (n : Nat) (Q : VK) (H : Hp) : Prop := ∀ q H', Same H H' → H' q = some (.tup [.int ((wd (it (n - 1) c)).1 : Int), .int ((wd (it (n - 1) c)).2 : Int)]) → Q (.ref q) H'
theorem of1_of {C1 C2 : Addr} {m : Nat} {told : Cd → Nat → VK → Hp → Prop} {Q : VK} {E : XK} {H : Hp} {v : V} {c : Cd} {n : Nat} (cat : Cat H v c) (ok : CdOk c) (h1 : 1 ≤ n) (hn : n ≤ m) (k : told c n Q H) : spOf1 C1 C2 m told [v, .int (n : Int)] H Q E := by
  refine ⟨v, .int (n : Int), cdD c, .int (n : Int), rfl, cat.th, .int _, fun z => ?_, fun _ z => ?_, fun c2 n2 ec _ en _ _ => ?_⟩
  · rw [isCd_cdD ok] at z
    cases z
  · exfalso
    have y : (decide ((1 : Int) ≤ (n : Int)) && decide ((n : Int) ≤ (m : Int))) = false := z
    rw [decide_eq_true (by omega), decide_eq_true (by omega)] at y
    cases y
  · have e := cdD_inj ec
    have e2 : n2 = n := by injection en with en; omega
    subst e e2
    exact k
theorem ofB_of {C1 C2 : Addr} {m : Nat} {told : Cd → Nat → VK → Hp → Prop} {Q : VK} {E : XK} {H : Hp} {v : V} {c : Cd} {n : Nat} (cat : Cat H v c) (ok : CdOk c) (hn : n ≤ m) (k : told c n Q H) : spOf C1 C2 m told [v, .int (n : Int)] H Q E := by
  refine ⟨v, .int (n : Int), cdD c, .int (n : Int), rfl, cat.th, .int _, fun z => ?_, fun _ z => ?_, fun c2 n2 ec _ en _ => ?_⟩
  · rw [isCd_cdD ok] at z
    cases z
  · exfalso
    have y : (decide ((0 : Int) ≤ (n : Int)) && decide ((n : Int) ≤ (m : Int))) = false := z
    rw [decide_eq_true (by omega), decide_eq_true (by omega)] at y
    cases y
  · have e := cdD_inj ec
    have e2 : n2 = n := by injection en with en; omega
    subst e e2
    exact k
/-- the greatest of the lengths -/
def IsMax (l : List Nat) (m : Nat) : Prop := m ∈ l ∧ ∀ x ∈ l, x ≤ m
theorem isMax_one {l : List Nat} {m n : Nat} (a : IsMax l m) (b : IsMax l n) : m = n := Nat.le_antisymm (b.2 _ a.1) (a.2 _ b.1)
def toldMax (c : Cd) (n : Nat) (Q : VK) (H : Hp) : Prop := ∀ (m : Nat) H', IsMax (it n c).2 m → Same H H' → Q (.int (m : Int)) H'
theorem ints_vN (l : List Nat) : l.map vN = (l.map fun n => ((n : Nat) : Int)).map V.int := by rw [List.map_map]; rfl
theorem isMax_of {l : List Nat} {m : Int} (h1 : m ∈ l.map fun n => ((n : Nat) : Int)) (h2 : ∀ y ∈ l.map (fun n => ((n : Nat) : Int)), y ≤ m) : ∃ n : Nat, m = (n : Int) ∧ IsMax l n := by
  obtain ⟨n, hn, rfl⟩ := List.mem_map.mp h1
  refine ⟨n, rfl, hn, fun x hx => ?_⟩
  have z := h2 (x : Int) (List.mem_map.mpr ⟨x, hx, rfl⟩)
  omega
/-- the law's pot -/
def spPot (K : PySem.W.Frag) : Sp := fun vs H Q _ => ∃ (S : Addr) (ns : List Int) (k : Nat), vs = [.ref S, .int (k : Int)] ∧ SqL K H S (ns.map V.int) ∧ k ≤ 63 ∧ ns.length ≤ 63 ∧ ∀ p H', H p = none → Same H H' → Urn H' p 0 → Q (.ref p) H'
def spFCoder : Sp := fun vs H Q _ => ∃ (a : Addr) (n : Int), vs = [.ref a] ∧ Urn H a n ∧ n ≤ 90000 ∧
  ∀ v c H', CdOk c → (∀ x ∈ c.2, x ≤ 10 ^ 30) → Urn H' a (n + 60) → SameBut a H H' → Cat H' v c → Q v H'
def spNumber : Sp := fun vs H Q _ => ∃ (a : Addr) (n : Int), vs = [.ref a] ∧ Urn H a n ∧ n ≤ 90000 ∧
  ∀ p H' m1 m2 m3 m4, H p = none → (∀ m ∈ [m1, m2, m3, m4], 1 ≤ m ∧ m ≤ 10 ^ 18 - 20) → Urn H' a (n + 3) → SameBut a H H' → H' p = some (.lst (([m1, m2, m3, m4] : List Nat).map vN)) → Q (.ref p) H'
end Lk
end
section
set_option maxRecDepth 100000
set_option maxHeartbeats 2000000
namespace Lk
open PySem PySem.Spec PyProof.Rows L2
def optN : Option Nat → V
  | some k => .int (k : Int)
  | none => .non
/-- numbers by their figures, blanks between -/
def spBlanks : Sp := fun vs H Q _ => ∃ (a : Addr) (ns : List Nat), vs = [.ref a] ∧ H a = some (.tup (ns.map vN)) ∧ ns.length ≤ 200 ∧ (∀ n ∈ ns, n < 10 ^ 45) ∧ ∀ H', Same H H' → Q (.str (SX.S (blanks ns))) H'
/-- the number that a text writes -/
def spReadN : Sp := fun vs H Q _ => ∃ (w : List Nat), vs = [.str (SX.S w)] ∧ w.length ≤ 100000 ∧ ∀ H', Same H H' → Q (optN (readN w)) H'
abbrev nWB : List Str := ["numbers", "number"]
abbrev nRN : List Str := ["text", "sign"]
section
variable {P : Program} {w : World} {K : PySem.W.Frag} {mg : Str → Option Value} {base : Heap}
theorem small45 {n : Nat} (h : n < 10 ^ 45) : ((n : Nat) : Int).natAbs.log2 < 1920 := by
  have e : ((n : Nat) : Int).natAbs = n := Int.natAbs_natCast n
  rw [e]
  by_cases z : n = 0
  · rw [z]; decide
  · rw [Nat.log2_lt z]
    exact Nat.lt_trans h (by decide +kernel)
theorem join_tl (ws : List (List Nat)) : Txt.join (Str.ofString " ") (ws.map SX.S) = SX.S (TL.joinL [32] ws) := by
  have e : Str.ofString " " = SX.S [32] := by decide +kernel
  rw [e, SX.join_S]
theorem sc_blanks : FnScope nWB ["numbers"] (defScope s_with_blanks) := ⟨rfl, rfl, rfl, by decide +kernel, rfl, by decide +kernel, by decide +kernel⟩
theorem ok_blanks {f : Addr} {fd : FuncData} (F : Fun K "with_blanks" "with_blanks" s_with_blanks f fd) (ms : mg "str" = none) : FnOk P w K mg base CX0 1 f fd ["numbers"] spBlanks := by
  refine F.ok sc_blanks (fun vs H Q E h => ?_) (fun cdv A outer s H vs Q E hr h => ?_)
  · obtain ⟨a, ns, rfl, _⟩ := h
    rfl
  · obtain ⟨a, ns, rfl, ha, few, sm, q⟩ := h
    have nd := sc_blanks.nd
    refine ⟨_, (pss_one (by exact (ps_ret (pe_join pe_str (pe_lc (own := [("number", 1)]) (g := (gName 1)) (tt := tYes) rfl nd (pi_tup (pv 0)) (blkOk_by (N := nWB) (sc := defScope s_with_blanks) (by decide +kernel)) (fun _ _ _ _ _ => (pg_name (i := 1) nd rfl (Or.inl rfl))) (fun _ _ _ _ _ => pts_nil) (fun _ _ _ _ _ => (pe_callTy call_str_int (by rfl) ms (by decide +kernel) (pa_cons (pv 1) pa_nil)))))))), ?_⟩
    refine ⟨⟨_, rfl⟩, _, rfl, a, rfl, ⟨_, SqT.of ha⟩, fun D nD => ?_⟩
    refine lc_it walk_tup (fun i H3 => Same H H3 ∧ H3 D = some (.lst (((ns.take i).map dec).map fun w => V.str (SX.S w)))) ⟨same_new nD, upd_same⟩ (fun i H3 _ z => SqT.of (z.1 _ _ ha)) ?_ ?_
    · rintro i x H3 H4 hi ⟨s3, e3⟩ ⟨rfl, hx⟩
      rw [List.length_map] at hi
      rw [nat_at hi] at hx
      cases hx
      have hn : ns[i]? = some (ns.getD i 0) := by
        rw [List.getD_eq_getElem?_getD, List.getElem?_eq_getElem hi]
        rfl
      refine ⟨rfl, _, rfl, _, rfl, small45 (sm _ (List.mem_of_getElem? hn)), _, e3, ?_, same_push s3 nD, ?_⟩
      · rw [List.length_map, List.length_map, List.length_take]
        exact Nat.lt_of_le_of_lt (show min i ns.length ≤ 200 by omega) (by decide)
      · rw [upd_same, List.take_add_one, hn, List.map_append, List.map_append, str_dec]
        rfl
    · rintro H3 ⟨s3, e3⟩
      rw [List.length_map, List.take_length] at e3
      have e3' : H3 D = some (.lst (((ns.map dec).map SX.S).map V.str)) := by
        rw [e3, List.map_map (f := SX.S)]
        rfl
      refine ⟨_, D, (ns.map dec).map SX.S, rfl, rfl, .inl (SqL.of e3'), ?_, ?_⟩
      · have e0 : (Str.ofString " ").length = 1 := by decide +kernel
        rw [e0, List.length_map, List.length_map, SX.lens]
        have z : ((ns.map dec).map (·.length)).sum ≤ ns.length * 45 := by
          have y : ∀ l : List Nat, (∀ n ∈ l, n < 10 ^ 45) → ((l.map dec).map (·.length)).sum ≤ l.length * 45 := by
            intro l
            induction l with
            | nil => intro _; exact Nat.zero_le _
            | cons b l ih =>
              intro hl
              have h1 := dec_len (k := 45) (by decide) (hl b List.mem_cons_self)
              have h2 := ih fun n hn => hl n (List.mem_cons_of_mem _ hn)
              show (dec b).length + ((l.map dec).map (·.length)).sum ≤ (l.length + 1) * 45
              omega
          exact y ns sm
        omega
      · rw [join_tl]
        exact q H3 s3
theorem sc_readN : FnScope nRN ["text"] (defScope s_read_number) := ⟨rfl, rfl, rfl, by decide +kernel, rfl, by decide +kernel, by decide +kernel⟩
theorem ok_readN {f : Addr} {fd : FuncData} {tk : Tok} (F : Fun K "read_number" "read_number" s_read_number f fd) (mp : mg "MOST_FIGURES" = some (.int 40 tk)) (ml : mg "len" = none) (ma : mg "all" = none) (mi : mg "int" = none) : FnOk P w K mg base CX0 1 f fd ["text"] spReadN := by
  refine F.ok sc_readN (fun vs H Q E h => ?_) (fun cdv A outer s H vs Q E hr h => ?_)
  · obtain ⟨w, rfl, _⟩ := h
    rfl
  · obtain ⟨w, rfl, wl, q⟩ := h
    have nd := sc_readN.nd
    refine ⟨_, (pss_cons (by exact (ps_if (PW.pt (pw_or (pt_not (pt_chain op_le op_le pe_int (pe_callB call_len_str (by rfl) ml PySem.boot_len (pa_cons (pv 0) pa_nil)) (pe_glob (v := .int 40) rfl mp ⟨_, rfl⟩))) (pw_or1 (pt_not (pt_val (pe_callB (cr_all rfl) (by rfl) ma (by decide +kernel) (pa_cons (pe_lc (own := [("sign", 1)]) (g := (gName 1)) (tt := tYes) rfl nd (pi_str (pv 0)) (blkOk_by (N := nRN) (sc := defScope s_read_number) (by decide +kernel)) (fun _ _ _ _ _ => (pg_name (i := 1) nd rfl (Or.inl rfl))) (fun _ _ _ _ _ => pts_nil) (fun _ _ _ _ _ => (pe_chain op_le_str op_le_str pe_str (pv 1) pe_str))) pa_nil))))))) (pss_one (by exact (ps_ret pe_non))) pss_nil))
      (pss_cons (by exact (ps_if (PW.pt (pw_and (pt_cmpR op_eq (pe_item_str (pv 0) pe_int (fun _ _ => rfl)) pe_str (nomark _)) (pw_and1 (pt_cmpR op_ne (pv 0) pe_str (nomark _))))) (pss_one (by exact (ps_ret pe_non))) pss_nil))
      (pss_one (by exact (ps_ret (pe_callTy call_int_str (by rfl) mi (by decide +kernel) (pa_cons (pv 0) pa_nil))))))), ?_⟩
    have none_of : readN w = none → Q .non H := fun e => by
      have z := q H (Same.refl H)
      rw [e] at z
      exact z
    have sz : (SX.S w).length ≤ sizeLine := by rw [SX.S_len]; exact Nat.le_trans wl (by decide)
    refine ⟨_, rfl, SX.S w, rfl, sz, ?_⟩
    rw [SX.S_len]
    refine ⟨_, _, rfl, rfl, _, rfl, ?_⟩
    by_cases c1 : 1 ≤ w.length
    · rw [if_pos (decide_eq_true (show (1 : Int) ≤ (w.length : Int) by omega))]
      refine ⟨_, _, rfl, rfl, _, rfl, ?_⟩
      by_cases c2 : w.length ≤ 40
      · dsimp only
        rw [decide_eq_true (show (w.length : Int) ≤ 40 by omega)]
        refine iteF ⟨_, rfl, _, rfl, fun D nD => ?_⟩
        refine lc_it walk_str (fun i H3 => Same H H3 ∧ H3 D = some (.lst (((w.take i).map isDig).map V.bl))) ⟨same_new nD, upd_same⟩ (fun _ _ _ _ => True.intro) ?_ ?_
        · rintro i x H3 H4 hi ⟨s3, e3⟩ ⟨rfl, c, hc, rfl⟩
          have hc' : w[i]? = some c := by
            rw [← hc]
            show w[i]? = (w.toArray)[i]?
            rw [List.getElem?_toArray]
          refine ⟨rfl, _, rfl, _, _, rfl, rfl, _, rfl, ?_⟩
          rw [dig_ge]
          have step : ∀ b : Bool, b = isDig c → ∃ acc, H4 D = some (HO.lst acc) ∧ acc.length < sizeLine ∧ Same H (upd H4 D (HO.lst (acc ++ [V.bl b]))) ∧ upd H4 D (HO.lst (acc ++ [V.bl b])) D = some (HO.lst (((w.take (i + 1)).map isDig).map V.bl)) := by
            intro b e
            refine ⟨_, e3, ?_, same_push s3 nD, ?_⟩
            · rw [List.length_map, List.length_map, List.length_take]
              exact Nat.lt_of_le_of_lt (show min i w.length ≤ 40 by omega) (by decide)
            · rw [upd_same, List.take_add_one, hc', List.map_append, List.map_append, e]
              rfl
          refine ite2 (fun g => ?_) (fun g => ?_)
          · refine ⟨_, _, rfl, rfl, step _ ?_⟩
            have z := dig_le c
            unfold isDig
            rw [g, Bool.true_and]
            exact z
          · refine step false ?_
            unfold isDig
            rw [Bool.eq_false_iff.mpr g, Bool.false_and]
        · rintro H3 ⟨s3, e3⟩
          have el : w.take ((SX.S w).cps.size) = w := List.take_of_length_le (by show w.length ≤ (w.toArray).size; rw [List.size_toArray]; exact Nat.le_refl _)
          rw [el] at e3
          refine ⟨D, _, rfl, SqL.of e3, ?_⟩
          have e : (w.map isDig).all id = w.all isDig := by
            rw [List.all_map]
            rfl
          rw [e]
          by_cases c3 : w.all isDig = true
          · rw [c3]
            refine ⟨_, rfl, iteF ?_⟩
            obtain ⟨c0, hc0⟩ : ∃ c0, w[0]? = some c0 := ⟨_, List.getElem?_eq_getElem (by omega)⟩
            have hd : w.head? = some c0 := by rw [List.head?_eq_getElem?]; exact hc0
            refine ⟨_, rfl, _, 0, c0, rfl, rfl, by decide, by decide, by rw [SX.S_len]; omega, ?_, rfl, _, rfl, ?_⟩
            · show (w.toArray)[0]? = some c0
              rw [List.getElem?_toArray]
              exact hc0
            have e48 : Str.ofString "0" = SX.S [48] := by decide +kernel
            have big : (SX.S w).length ≤ 640 := by rw [SX.S_len]; omega
            have fin : ∀ {H' : Hp}, Same H H' → ¬ (w.head? = some 48 ∧ w ≠ [48]) → intText? (SX.S w) = some ((NumText.digitsVal w : Nat) : Int) ∧ Q (.int ((NumText.digitsVal w : Nat) : Int)) H' := fun s' h4 => by
              have z := intText_digits (x := SX.S w) (all_dig c3) (by intro y; have y' : w = [] := y; rw [y'] at c1; exact absurd c1 (by decide)) (by rw [SX.S_len]; omega)
              refine ⟨z, ?_⟩
              have y := q _ s'
              rw [readN_good c1 c2 c3 h4] at y
              exact y
            by_cases c4 : c0 = 48
            · subst c4
              dsimp only
              rw [decide_eq_true (by rw [e48])]
              refine iteT ⟨_, rfl, rfl, _, rfl, ?_⟩
              by_cases c5 : w = [48]
              · rw [decide_eq_true (by rw [e48, c5])]
                refine iteF ?_
                obtain ⟨z1, z2⟩ := fin s3 (fun z => z.2 c5)
                exact ⟨_, rfl, SX.S w, _, rfl, z1, big, z2⟩
              · rw [decide_eq_false (by rw [e48]; exact fun z => c5 (SX.S_inj (V.str.inj z)))]
                refine iteT ?_
                have y := q _ s3
                rw [readN_zero hd c5] at y
                exact y
            · dsimp only
              rw [decide_eq_false (by rw [e48]; exact fun z => c4 (by have y := SX.S_inj (V.str.inj z); injection y))]
              refine iteF (iteF ?_)
              obtain ⟨z1, z2⟩ := fin s3 (fun z => c4 (Option.some.inj (hd.symm.trans z.1)))
              exact ⟨_, rfl, SX.S w, _, rfl, z1, big, z2⟩
          · rw [Bool.eq_false_iff.mpr c3]
            refine ⟨_, rfl, iteT ?_⟩
            have y := q _ s3
            rw [readN_bad (fun z => c3 z.2.2)] at y
            exact y
      · dsimp only
        rw [decide_eq_false (show ¬ ((w.length : Int) ≤ 40) by omega)]
        exact iteT (iteT (none_of (readN_bad fun z => c2 z.2.1)))
    · rw [if_neg (fun z => c1 (by have y := of_decide_eq_true z; omega))]
      refine ⟨_, rfl, ?_⟩
      exact iteT (iteT (none_of (readN_bad fun z => c1 z.1)))
end
end Lk
end
section
set_option maxRecDepth 100000
set_option maxHeartbeats 2000000
namespace Lk
open PySem PySem.Spec PyProof.Rows L2
def toldShow (c : Cd) (Q : VK) (H : Hp) : Prop := (∀ n ∈ c.2, n < 10 ^ 45) ∧ ∀ H', Same H H' → Q (.str (SX.S (showL c))) H'
abbrev nSC : List Str := ["coder", "place", "lengths"]
section
variable {P : Program} {w : World} {K : PySem.W.Frag} {mg : Str → Option Value} {base : Heap}
theorem show_len {c : Cd} (h12 : c.2.length ≤ 12) (h1 : c.1 < 10 ^ 45) (h : ∀ n ∈ c.2, n < 10 ^ 45) : (showL c).length ≤ 1000 := by
  have z := joinL_len (wordsC c) (B := 45) fun w hw => by
    unfold wordsC at hw
    rcases List.mem_cons.mp hw with rfl | hw
    · decide
    rcases List.mem_cons.mp hw with rfl | hw
    · exact dec_len (by decide) h1
    rcases List.mem_cons.mp hw with rfl | hw
    · decide
    obtain ⟨n, hn, rfl⟩ := List.mem_map.mp hw
    exact dec_len (by decide) (h n hn)
  have e : (wordsC c).length = c.2.length + 3 := by
    unfold wordsC
    rw [List.length_cons, List.length_cons, List.length_cons, List.length_map]
  rw [e] at z
  exact Nat.le_trans z (by omega)
theorem sc_showC : FnScope nSC ["coder"] (defScope s_show_coder) := ⟨rfl, rfl, rfl, by decide +kernel, rfl, by decide +kernel, by decide +kernel⟩
theorem ok_showC {f C : Addr} {fd : FuncData} (F : Fun K "show_coder" "show_coder" s_show_coder f fd) (cr : CalX P w K mg base 4 "refuse_no_coder" (spRefCoder C)) (wb : C8.Cal P w K mg base 1 "with_blanks" spBlanks []) : FnOk P w K mg base (L2.CX P w) 5 f fd ["coder"] (spOne C toldShow) := by
  refine F.okX sc_showC (fun vs H Q E h => ?_) (fun cdv A outer s H vs Q E hr h => ?_)
  · obtain ⟨v, d, rfl, _⟩ := h
    rfl
  · obtain ⟨v, d, rfl, hv, q1, q⟩ := h
    have nd := sc_showC.nd
    refine ⟨_, (pss_cons (by exact (ps_expr (pe_cX cr (takes_of rfl rfl rfl rfl) hr (by decide) rfl (pa_cons (pv 0) pa_nil))))
      (pss_cons (by exact (ps_asg (pv 0) (pg_tup rfl (pgs_cons (pg_name (i := 1) nd rfl (Or.inl rfl)) (pgs_cons (pg_name (i := 2) nd rfl (Or.inl rfl)) pgs_nil)))))
      (pss_one (by exact (ps_ret (pe_joined (.cons pe_str (.cons (pe_fmt (pv 1)) (.cons pe_str (.cons (pe_fmt (C8.pe_c wb hr (by decide) rfl (pa_cons (pv 2) pa_nil))) .nil)))))))))), ?_⟩
    refine ⟨_, rfl, v, d, rfl, hv, fun hd H1 s1 => ?_, fun hd H1 s1 => q1 hd H1 s1⟩
    obtain ⟨c, rfl, hc⟩ := isCd_of hd
    obtain ⟨sm, qc⟩ := q c rfl hc
    obtain ⟨a, b, rfl, ha, hb⟩ := (Th.same s1 _ hv).cat
    refine ⟨_, rfl, a, _, rfl, SqT.of ha, rfl, _, _, rfl, _, _, rfl, rfl, ?_⟩
    have hA : Str.empty ++ Str.ofString "at " = SX.S [97, 116, 32] := by decide +kernel
    have hB : Str.ofString " knows " = SX.S [32, 107, 110, 111, 119, 115, 32] := by decide +kernel
    have c1 : c.1 < 10 ^ 45 := Nat.lt_of_lt_of_le (show c.1 < 12 by have y : c.1 < c.2.length := hc.1; have z := hc.2; omega) (by decide +kernel)
    have hlen := show_len hc.2 c1 sm
    have hne : c.2 ≠ [] := by
      intro z
      have y : c.1 < c.2.length := hc.1
      rw [z] at y
      exact absurd y (Nat.not_lt_zero _)
    have hs := show_cons c hne
    have l1 := congrArg List.length hs
    rw [List.length_append, List.length_append, List.length_append] at l1
    have k3 : ([97, 116, 32] : List Nat).length = 3 := rfl
    have k7 : ([32, 107, 110, 111, 119, 115, 32] : List Nat).length = 7 := rfl
    rw [k3, k7] at l1
    have sl : ∀ {n : Nat}, n ≤ 1000 → n ≤ sizeLine := fun h => Nat.le_trans h (by decide)
    refine ⟨_, rfl, by rw [hA, SX.S_len]; exact sl (by decide), ?_⟩
    rw [hA]
    refine ⟨_, rfl, .inr ⟨_, rfl, small45 c1, _, rfl, ?_, ?_⟩⟩
    · rw [str_dec, SX.S_cat, SX.S_len, List.length_append, k3]
      exact sl (by omega)
    rw [str_dec, SX.S_cat]
    refine ⟨_, rfl, ?_, ?_⟩
    · rw [hB, SX.S_cat, SX.S_len, List.length_append, List.length_append, k3, k7]
      exact sl (by omega)
    rw [hB, SX.S_cat]
    refine ⟨_, rfl, b, c.2, rfl, hb, by have := hc.2; omega, sm, fun H2 s2 => .inl ⟨_, rfl, ?_, _, rfl, ?_, ?_⟩⟩
    · rw [SX.S_len]
      exact sl (by omega)
    · rw [SX.S_cat, SX.S_len, List.length_append, List.length_append, List.length_append, k3, k7]
      exact sl (by omega)
    · have e : SX.S ([97, 116, 32] ++ dec c.1 ++ [32, 107, 110, 111, 119, 115, 32]) ++ SX.S (blanks c.2) = SX.S (showL c) := by
        rw [SX.S_cat, hs, List.append_assoc, List.append_assoc]
      have z := qc H2 (s1.trans s2)
      rw [← e] at z
      exact z
end
end Lk
end
section
set_option maxRecDepth 100000
set_option maxHeartbeats 2000000
/-! Methods of the program's own classes, by their names. -/
namespace Lk
open PySem PySem.Spec PyProof.Rows L2
/-- a method that raises nothing -/
structure Met (P : Program) (w : World) (K : PySem.W.Frag) (mg : Str → Option Value) (base : Heap) (k : Nat) (C : Addr) (m : Str) (sp : Sp) : Prop where
  ex : ∃ (f : Addr) (fd : FuncData) (ps : List Str), FnOk P w K mg base CX0 k f fd ps sp ∧ Meth K C m f ∧ Binds K fd ps []
  cl : Cls K C
/-- a method that may raise -/
structure MetX (P : Program) (w : World) (K : PySem.W.Frag) (mg : Str → Option Value) (base : Heap) (k : Nat) (C : Addr) (m : Str) (sp : Sp) : Prop where
  ex : ∃ (f : Addr) (fd : FuncData) (ps : List Str), FnOk P w K mg base (L2.CX P w) k f fd ps sp ∧ Meth K C m f ∧ Binds K fd ps []
  cl : Cls K C
/-- a class that is made with a keyword or without -/
structure Maker (P : Program) (w : World) (K : PySem.W.Frag) (mg : Str → Option Value) (base : Heap) (k : Nat) (x : Str) (C : Addr) (first : V) (sp : Sp) (key : Str) : Prop where
  ex : ∃ (f : Addr) (fd : FuncData) (ps : List Str) (g0 g1 : List Value → List Value → List Value), FnOk P w K mg base (L2.CX P w) k f fd ps sp ∧ Mk K C f ∧ mg x = some (.ref C) ∧ KBn K fd ps 3 [] g0 (fun vs _ => vs ++ [first]) ∧ KBn K fd ps 3 [key] g1 (fun vs zs => vs ++ zs)
section
variable {X : Cx} {k j : Nat} {C : Addr} {m x : Str} {sp : Sp} {p pos apos : Pos} {o e : Expr} {es : List Expr} {ta : TE} {t : TA}
theorem pe_m (ho : PE X o ta) (c : Met X.prog X.w X.K X.mg X.base k C m sp) (hr : Room j X.A) (hk : k ≤ j) (ha : PA X (e :: es) t) {pl : PySem.Sem Bool}
    (h1 : starEach (e :: es) X.env = (false, eval e X.env) :: starEach es X.env := by rfl) (h2 : ((backTo pos (starEach es X.env)).any fun x => x.fst) = false := by rfl)
    (h3 : (eval ((o.Attribute m apos).Call (e :: es) [] pos) X.env = do
      let ov ← eval o X.env
      standAt apos.atName
      let __x ← holding [ov] (getMethod ov m pl)
      match __x with
        | (f, first) => callWith pos f first (backTo pos (starEach (e :: es) X.env)) (backToKw pos (keywordEach [] X.env))) := by rfl) :
    PE X (.Call (.Attribute o m apos) (e :: es) [] pos) (tMeth C m sp [] E0 ta t) := by
  obtain ⟨f, fd, ps, F, M, b⟩ := c.ex
  exact pe_meth ho c.cl M F (hr.mono hk) b .nil pass0 ha h1 h2 h3
theorem pe_m_0 (ho : PE X o ta) (c : Met X.prog X.w X.K X.mg X.base k C m sp) (hr : Room j X.A) (hk : k ≤ j) {pl : PySem.Sem Bool}
    (h3 : (eval ((o.Attribute m apos).Call [] [] pos) X.env = do
      let ov ← eval o X.env
      standAt apos.atName
      let __x ← holding [ov] (getMethod ov m pl)
      match __x with
        | (f, first) => callWith pos f first (backTo pos (starEach [] X.env)) (backToKw pos (keywordEach [] X.env))) := by rfl) :
    PE X (.Call (.Attribute o m apos) [] [] pos) (tMeth C m sp [] E0 ta tNil) := by
  obtain ⟨f, fd, ps, F, M, b⟩ := c.ex
  exact pe_meth0 ho c.cl M F (hr.mono hk) b .nil pass0 h3
theorem pe_mX (ho : PE X o ta) (c : MetX X.prog X.w X.K X.mg X.base k C m sp) (hr : Room j X.A) (hk : k ≤ j) (ha : PA X (e :: es) t) {pl : PySem.Sem Bool}
    (h1 : starEach (e :: es) X.env = (false, eval e X.env) :: starEach es X.env := by rfl) (h2 : ((backTo pos (starEach es X.env)).any fun x => x.fst) = false := by rfl)
    (h3 : (eval ((o.Attribute m apos).Call (e :: es) [] pos) X.env = do
      let ov ← eval o X.env
      standAt apos.atName
      let __x ← holding [ov] (getMethod ov m pl)
      match __x with
        | (f, first) => callWith pos f first (backTo pos (starEach (e :: es) X.env)) (backToKw pos (keywordEach [] X.env))) := by rfl) :
    PE X (.Call (.Attribute o m apos) (e :: es) [] pos) (tMeth C m sp [] E0 ta t) := by
  obtain ⟨f, fd, ps, F, M, b⟩ := c.ex
  exact pe_meth ho c.cl M F (hr.mono hk) b .nil passL ha h1 h2 h3
theorem pe_mX_0 (ho : PE X o ta) (c : MetX X.prog X.w X.K X.mg X.base k C m sp) (hr : Room j X.A) (hk : k ≤ j) {pl : PySem.Sem Bool}
    (h3 : (eval ((o.Attribute m apos).Call [] [] pos) X.env = do
      let ov ← eval o X.env
      standAt apos.atName
      let __x ← holding [ov] (getMethod ov m pl)
      match __x with
        | (f, first) => callWith pos f first (backTo pos (starEach [] X.env)) (backToKw pos (keywordEach [] X.env))) := by rfl) :
    PE X (.Call (.Attribute o m apos) [] [] pos) (tMeth C m sp [] E0 ta tNil) := by
  obtain ⟨f, fd, ps, F, M, b⟩ := c.ex
  exact pe_meth0 ho c.cl M F (hr.mono hk) b .nil passL h3
theorem pe_mk1 {key : Str} {first : V} {kws : List Keyword} {tk : TA} (c : Maker X.prog X.w X.K X.mg X.base k x C first sp key) (hr : Room j X.A) (hk : k + 1 ≤ j) (hg : Gl X x) (ha : PA X (e :: es) t) (hkw : PK X kws tk)
    (h0 : ((backToKw pos (keywordEach kws X.env)).all fun x => x.fst.isSome) = true := by rfl)
    (h1 : List.filterMap (fun x => x.fst) (backToKw pos (keywordEach kws X.env)) = [key] := by rfl)
    (h2 : (x == Str.ofString "__debug__") = false := by decide)
    (h3 : starEach (e :: es) X.env = (false, eval e X.env) :: starEach es X.env := by rfl)
    (h4 : (((backTo pos (starEach (e :: es) X.env)).any fun x => x.fst) || (backToKw pos (keywordEach kws X.env)).any fun x => x.fst.isNone) = false := by rfl) :
    PE X (.Call (.Name x p) (e :: es) kws pos) (tMakeK C 2 1 sp (fun vs zs => vs ++ zs) E0 t tk) := by
  obtain ⟨f, fd, ps, g0, g1, F, M, hm, b0, b1⟩ := c.ex
  exact pe_makeK (ks := [key]) M F (hr.mono hk) hg hm b1 passL ha hkw h0 h1 h2 h3 h4
theorem pe_mk0 {key : Str} {first : V} (c : Maker X.prog X.w X.K X.mg X.base k x C first sp key) (hr : Room j X.A) (hk : k + 1 ≤ j) (hg : Gl X x) (ha : PA X (e :: es) t)
    (h2 : (x == Str.ofString "__debug__") = false := by decide)
    (h3 : starEach (e :: es) X.env = (false, eval e X.env) :: starEach es X.env := by rfl)
    (h4 : (((backTo pos (starEach (e :: es) X.env)).any fun x => x.fst) || (backToKw pos (keywordEach [] X.env)).any fun x => x.fst.isNone) = false := by rfl) :
    PE X (.Call (.Name x p) (e :: es) [] pos) (tMakeK C 2 0 sp (fun vs _ => vs ++ [first]) E0 t tNil) := by
  obtain ⟨f, fd, ps, g0, g1, F, M, hm, b0, b1⟩ := c.ex
  exact pe_makeK (ks := []) M F (hr.mono hk) hg hm b0 passL ha pk_nil (by rfl) (by rfl) h2 h3 h4
end
end Lk
namespace Lk
open PySem PySem.Spec PyProof.Rows L2
variable {P : Program} {w : World} {K : PySem.W.Frag} {mg : Str → Option Value} {base : Heap} {k : Nat} {C f : Addr} {fd : FuncData} {ps : List Str} {m : Str} {sp : Sp}
theorem mkMet (M : Meth K C m f) (c : Cls K C) (b : Binds K fd ps []) (ok : FnOk P w K mg base CX0 k f fd ps sp) : Met P w K mg base k C m sp := ⟨⟨f, fd, ps, ok, M, b⟩, c⟩
theorem mkMetX (M : Meth K C m f) (c : Cls K C) (b : Binds K fd ps []) (ok : FnOk P w K mg base (L2.CX P w) k f fd ps sp) : MetX P w K mg base k C m sp := ⟨⟨f, fd, ps, ok, M, b⟩, c⟩
end Lk
namespace Lk
open PySem PySem.Spec PyProof.Rows L2
/-- o.f as the target of an assignment -/
def gFld (K : PySem.W.Frag) (to : TE) (f : Str) : TG := fun y σ H R => to σ H fun x H1 => ∃ a C dx fs, x = .ref a ∧ H1 a = some (.ins C dx fs) ∧ Cls K C ∧ NoAttr K C f ∧ fs.length < 1000 ∧ R σ (upd H1 a (.ins C dx (putF f y fs)))
theorem pg_fld {X : Cx} {o : Expr} {f : Str} {pos : Pos} {to : TE} (ho : PE X o to) : PG X (.Attribute o f pos) (gFld X.K to f) := by
  refine ⟨fun pins s σ H v u Q I r h => PySem.W.kas_attr (thn (ho.run pins s σ H _ I h) fun ov s1 ⟨x, H1, I1, rx, a, C, dx, fs, ex, hx, hc, hn, hl, q⟩ => ?_)⟩
  subst ex
  cases rx
  exact setattr_ok I1 hx hc hn hl r fun s' I' => ⟨σ, _, I', q⟩
end Lk
end
section
set_option maxRecDepth 100000
set_option maxHeartbeats 2000000
/-! Defs with a keyword that has a default; what is never come to. -/
namespace Lk
open PySem PySem.Spec PyProof.Rows L2
/-- a def of n values that is called with a keyword or without -/
structure CalW (P : Program) (w : World) (K : PySem.W.Frag) (mg : Str → Option Value) (base : Heap) (k : Nat) (x : Str) (n : Nat) (first : V) (sp : Sp) (key : Str) : Prop where
  ex : ∃ (f : Addr) (fd : FuncData) (ps : List Str) (g0 g1 : List Value → List Value → List Value), FnOk P w K mg base CX0 k f fd ps sp ∧ mg x = some (.ref f) ∧ PySem.W.keepIn K (.ref f) = true ∧ KBn K fd ps n [] g0 (fun vs _ => vs ++ [first]) ∧ KBn K fd ps n [key] g1 (fun vs zs => vs ++ zs)
def tCallN (n m : Nat) (sp : Sp) (gV : List V → List V → List V) (E : XK) (t tk : TA) : TE := fun σ H Q => t σ H fun vs H1 => tk σ H1 fun zs H2 => vs.length = n ∧ zs.length = m ∧ sp (gV vs zs) H2 Q E
section
variable {X : Cx} {k j n : Nat} {x : Str} {sp : Sp} {p pos : Pos} {e : Expr} {es : List Expr} {t tk : TA} {f : Addr} {fd : FuncData} {ps ks : List Str} {g : List Value → List Value → List Value} {gV : List V → List V → List V} {kws : List Keyword}
theorem run_fnn {pins : List (Addr × Obj)} {σ : L2.St} {H : Hp} {s : Shared} {Q : VK} {us ws : List Value} {vs zs : List V} (F : FnOk X.prog X.w X.K X.mg X.base CX0 k f fd ps sp) (hr : Room k X.A) (hb : KBn X.K fd ps n ks g gV)
    (I : Inv X pins σ H s) (r : Vals vs us) (rz : Vals zs ws) (l1 : vs.length = n) (l2 : zs.length = ks.length) (h : sp (gV vs zs) H Q E0) : wpAny (model X.prog X.w) X.A (call (.ref f) us (ks.zip ws)) (EP X pins σ Q) X.xe s := by
  have r2 := hb.rel r rz
  refine wpAny_call (codeAny_mono (F.run X.A X.stack s H ⟨us, ks.zip ws⟩ (g us ws) (gV vs zs) Q E0 hr I.env0 (hb.to s us ws I.kIn (r.length.symm.trans l1) (rz.length.symm.trans l2)) r2 h) fun r s' hq => ?_)
  cases r with
  | error e => exact pass0 pins σ H s e s' I hq
  | ok fl =>
    cases fl with
    | ret u => exact I.after hq
    | next => exact False.elim hq
    | brk => exact False.elim hq
    | cont => exact False.elim hq
theorem pe_callN' (F : FnOk X.prog X.w X.K X.mg X.base CX0 k f fd ps sp) (hr : Room k X.A) (hg : Gl X x) (hm : X.mg x = some (.ref f)) (hk : PySem.W.keepIn X.K (.ref f) = true) (hb : KBn X.K fd ps n ks g gV)
    (ha : PA X (e :: es) t) (hkw : PK X kws tk) (hall : (backToKw pos (keywordEach kws X.env)).all (·.1.isSome) = true) (hks : (backToKw pos (keywordEach kws X.env)).filterMap (·.1) = ks)
    (hdb : (x == ("__debug__" : Str)) = false) (he : starEach (e :: es) X.env = (false, eval e X.env) :: starEach es X.env)
    (hpl : ((backTo pos (starEach (e :: es) X.env)).any (·.1) || (backToKw pos (keywordEach kws X.env)).any (·.1.isNone)) = false) :
    PE X (.Call (.Name x p) (e :: es) kws pos) (tCallN n ks.length sp gV E0 t tk) := by
  refine ⟨fun pins s σ H Q I h => ?_⟩
  refine wpAny_Call_Name_kw (ld_glob I hg hm ?_ hdb)
  refine PySem.W.callWith_KW (h₀ := X.base) I.ok.mod.kin hk hall (thn (ha.run pos pins s σ H _ I h) fun us s1 ⟨vs, H1, I1, r, q⟩ => ?_) hpl he
  refine thn (hkw.run pos pins s1 σ H1 _ I1 q) fun ws s2 ⟨zs, H2, I2, rz, l1, l2, q2⟩ => ⟨I2.kIn, ?_⟩
  rw [hks]
  exact run_fnn F hr hb I2 r rz l1 l2 q2
theorem pe_w1 {key : Str} {first : V} (c : CalW X.prog X.w X.K X.mg X.base k x n first sp key) (hr : Room j X.A) (hk : k ≤ j) (hg : Gl X x) (ha : PA X (e :: es) t) (hkw : PK X kws tk)
    (h0 : ((backToKw pos (keywordEach kws X.env)).all fun x => x.fst.isSome) = true := by rfl)
    (h1 : List.filterMap (fun x => x.fst) (backToKw pos (keywordEach kws X.env)) = [key] := by rfl)
    (h2 : (x == Str.ofString "__debug__") = false := by decide)
    (h3 : starEach (e :: es) X.env = (false, eval e X.env) :: starEach es X.env := by rfl)
    (h4 : (((backTo pos (starEach (e :: es) X.env)).any fun x => x.fst) || (backToKw pos (keywordEach kws X.env)).any fun x => x.fst.isNone) = false := by rfl) :
    PE X (.Call (.Name x p) (e :: es) kws pos) (tCallN n 1 sp (fun vs zs => vs ++ zs) E0 t tk) := by
  obtain ⟨f, fd, ps, g0, g1, F, hm, kp, b0, b1⟩ := c.ex
  exact pe_callN' (ks := [key]) F (hr.mono hk) hg hm kp b1 ha hkw h0 h1 h2 h3 h4
theorem pe_w0 {key : Str} {first : V} (c : CalW X.prog X.w X.K X.mg X.base k x n first sp key) (hr : Room j X.A) (hk : k ≤ j) (hg : Gl X x) (ha : PA X (e :: es) t)
    (h2 : (x == Str.ofString "__debug__") = false := by decide)
    (h3 : starEach (e :: es) X.env = (false, eval e X.env) :: starEach es X.env := by rfl)
    (h4 : (((backTo pos (starEach (e :: es) X.env)).any fun x => x.fst) || (backToKw pos (keywordEach [] X.env)).any fun x => x.fst.isNone) = false := by rfl) :
    PE X (.Call (.Name x p) (e :: es) [] pos) (tCallN n 0 sp (fun vs _ => vs ++ [first]) E0 t tNil) := by
  obtain ⟨f, fd, ps, g0, g1, F, hm, kp, b0, b1⟩ := c.ex
  exact pe_callN' (ks := []) F (hr.mono hk) hg hm kp b0 ha pk_nil (by rfl) (by rfl) h2 h3 h4
/-- what is never come to -/
theorem ps_never {X : Cx} {st : Stmt} : PS X st (fun _ _ _ => False) := ⟨fun _ _ _ _ _ _ h => h.elim⟩
end
end Lk
end
section
set_option maxRecDepth 100000
set_option maxHeartbeats 2000000
namespace Lk
open PySem PySem.Spec PyProof.Rows L2
/-- a coder's own text is read back -/
def spReadC : Sp := fun vs H Q _ => ∃ c : Cd, vs = [.str (SX.S (showL c))] ∧ CdOk c ∧ (∀ n ∈ c.2, n < 10 ^ 40) ∧ ∀ v H', Same H H' → Cat H' v c → Q v H'
abbrev nRC : List Str := ["text", "words", "coder", "word"]
section
variable {P : Program} {w : World} {K : PySem.W.Frag} {mg : Str → Option Value} {base : Heap}
theorem sc_readC : FnScope nRC ["text"] (defScope s_read_coder) := ⟨rfl, rfl, rfl, by decide +kernel, rfl, by decide +kernel, by decide +kernel⟩
theorem ok_readC {f : Addr} {fd : FuncData} (F : Fun K "read_coder" "read_coder" s_read_coder f fd) (rn : C8.Cal P w K mg base 1 "read_number" spReadN []) (ic : C8.Cal P w K mg base 3 "is_coder" spIsCoder []) (mi : mg "isinstance" = none) (ms : mg "str" = none) (ml : mg "len" = none) (mt : mg "tuple" = none) : FnOk P w K mg base CX0 4 f fd ["text"] spReadC := by
  refine F.ok sc_readC (fun vs H Q E h => ?_) (fun cdv A outer s H vs Q E hr h => ?_)
  · obtain ⟨c, rfl, _⟩ := h
    rfl
  · obtain ⟨c, rfl, hc, sm, q⟩ := h
    have nd := sc_readC.nd
    refine ⟨_, (pss_cons (by exact (ps_if (pt_not (pt_val (pe_callB call_isi (by rfl) mi (by decide +kernel) (pa_cons (pv 0) (pa_cons (pe_bltn (v := .ty "str") (by rfl) ms (by decide +kernel) rfl) pa_nil))))) (pss_one (by exact (ps_never))) pss_nil))
      (pss_cons (by exact (ps_set (i := 1) nd rfl (Or.inl rfl) (pe_split (pv 0) pe_str)))
      (pss_cons (by exact (ps_if (PW.pt (pw_or (pt_cmpR op_lt (pe_callB call_len_seq (by rfl) ml PySem.boot_len (pa_cons (pv 1) pa_nil)) pe_int (nomark _)) (pw_or (pt_cmpR op_ne (pe_ix ix_list (pv 1) pe_int (fun _ _ => rfl)) pe_str (nomark _)) (pw_or1 (pt_cmpR op_ne (pe_ix ix_list (pv 1) pe_int (fun _ _ => rfl)) pe_str (nomark _)))))) (pss_one (by exact (ps_never))) pss_nil))
      (pss_cons (by exact (ps_set (i := 2) nd rfl (Or.inl rfl) (pe_tupS (pa_cons (C8.pe_c rn hr (by decide) rfl (pa_cons (pe_ix ix_list (pv 1) pe_int (fun _ _ => rfl)) pa_nil)) (pa_cons (pe_callTy call_tupS (by rfl) mt (by decide +kernel) (pa_cons (pe_lc (own := [("word", 3)]) (g := (gName 3)) (tt := tYes) rfl nd (pi_list (pe_slice sl_list (pv 1) (po_some pe_int) po_none)) (blkOk_by (N := nRC) (sc := defScope s_read_coder) (by decide +kernel)) (fun _ _ _ _ _ => (pg_name (i := 3) nd rfl (Or.inl rfl))) (fun _ _ _ _ _ => pts_nil) (fun _ _ _ _ _ => (C8.pe_c rn hr (by decide) rfl (pa_cons (pv 3) pa_nil)))) pa_nil)) pa_nil)))))
      (pss_cons (by exact (ps_if (pt_not (pt_val (C8.pe_c ic hr (by decide) rfl (pa_cons (pv 2) pa_nil)))) (pss_one (by exact (ps_never))) pss_nil))
      (pss_one (by exact (ps_ret (pv 2))))))))), ?_⟩
    have c12 := hc.2
    have cp : c.1 < c.2.length := hc.1
    have p45 : (10 : Nat) ^ 40 ≤ 10 ^ 45 := by decide +kernel
    have c40 : c.1 < 10 ^ 40 := Nat.lt_of_lt_of_le (show c.1 < 12 by omega) (by decide +kernel)
    have hlen : (showL c).length ≤ 1000 := by
      have z := joinL_len (wordsC c) (B := 45) fun w hw => by
        unfold wordsC at hw
        rcases List.mem_cons.mp hw with rfl | hw
        · decide
        rcases List.mem_cons.mp hw with rfl | hw
        · exact dec_len (by decide) (Nat.lt_of_lt_of_le c40 p45)
        rcases List.mem_cons.mp hw with rfl | hw
        · decide
        obtain ⟨n, hn, rfl⟩ := List.mem_map.mp hw
        exact dec_len (by decide) (Nat.lt_of_lt_of_le (sm n hn) p45)
      have e : (wordsC c).length = c.2.length + 3 := by
        unfold wordsC
        rw [List.length_cons, List.length_cons, List.length_cons, List.length_map]
      rw [e] at z
      exact Nat.le_trans z (by omega)
    have hsp : Txt.split (SX.S (showL c)) (Str.ofString " ") = (wordsC c).map SX.S := by
      have e : Str.ofString " " = SX.S [32] := by decide +kernel
      rw [e, SX.split_S (List.cons_ne_nil _ _) (by decide), split_show]
    refine ⟨_, rfl, .str _, .ty "str", _, _, true, rfl, .ty _, .base (.str _), kit_ty (by decide +kernel), _, rfl, iteF ?_⟩
    refine ⟨_, rfl, ⟨_, rfl⟩, SX.S (showL c), Str.ofString " ", rfl, rfl, by decide +kernel, by rw [SX.S_len]; exact Nat.le_trans (show (showL c).length + 2 ≤ 1002 by omega) (by decide), fun W nW => ?_⟩
    rw [hsp]
    obtain ⟨ys, eys⟩ : ∃ ys, ys = ((wordsC c).map SX.S).map V.str := ⟨_, rfl⟩
    rw [← eys]
    have yl : ys.length = c.2.length + 3 := by
      rw [eys, List.length_map, List.length_map]
      unfold wordsC
      rw [List.length_cons, List.length_cons, List.length_cons, List.length_map]
    have y0 : ys[0]? = some (.str (SX.S [97, 116])) := by rw [eys]; rfl
    have y1 : ys[1]? = some (.str (SX.S (dec c.1))) := by rw [eys]; rfl
    have y2 : ys[2]? = some (.str (SX.S [107, 110, 111, 119, 115])) := by rw [eys]; rfl
    have y3 : ys.drop 3 = (c.2.map dec).map fun w => V.str (SX.S w) := by
      rw [eys, List.map_map]
      rfl
    have sW := same_new (o := .lst ys) nW
    generalize hHW : upd H W (.lst ys) = HW at sW ⊢
    have eW : HW W = some (.lst ys) := by rw [← hHW]; exact upd_same
    have eat : Str.ofString "at" = SX.S [97, 116] := by decide +kernel
    have ekn : Str.ofString "knows" = SX.S [107, 110, 111, 119, 115] := by decide +kernel
    refine ⟨_, rfl, W, ys, rfl, .inl (SqL.of eW), _, _, rfl, rfl, _, rfl, ?_⟩
    dsimp only
    rw [decide_eq_false (show ¬ ((ys.length : Int) < 3) by omega)]
    refine iteF ⟨_, rfl, W, ys, ((0 : Nat) : Int), _, rfl, rfl, SqL.of eW, atI_nat y0, rfl, _, rfl, ?_⟩
    dsimp only
    rw [eat, decide_eq_true rfl]
    refine iteF ⟨_, rfl, W, ys, ((2 : Nat) : Int), _, rfl, rfl, SqL.of eW, atI_nat y2, rfl, _, rfl, ?_⟩
    dsimp only
    rw [ekn, decide_eq_true rfl]
    refine iteF ?_
    have b1 : (dec c.1).length ≤ 100000 := Nat.le_trans (dec_len (k := 45) (by decide) (Nat.lt_of_lt_of_le c40 p45)) (by decide)
    refine ⟨_, rfl, W, ys, ((1 : Nat) : Int), _, rfl, rfl, SqL.of eW, atI_nat y1, dec c.1, rfl, b1, fun H3 s3 => ?_⟩
    rw [read_dec c40]
    have eW3 := s3 _ _ eW
    refine ⟨_, rfl, _, rfl, W, ys, rfl, SqL.of eW3, fun S3 nS => ?_⟩
    have ct : cutV ys (some (3 : Int)) Option.none = ys.drop 3 := cut_from (n := 3)
    rw [ct, y3]
    have sS := same_new (o := .lst ((c.2.map dec).map fun w => V.str (SX.S w))) nS
    generalize hHS : upd H3 S3 (.lst ((c.2.map dec).map fun w => V.str (SX.S w))) = HS at sS ⊢
    have eS : HS S3 = some (.lst ((c.2.map dec).map fun w => V.str (SX.S w))) := by rw [← hHS]; exact upd_same
    refine ⟨S3, rfl, ⟨_, SqL.of eS⟩, fun D nD => ?_⟩
    refine lc_list (xs := (c.2.map dec).map fun w => V.str (SX.S w)) (fun i H4 => Same HS H4 ∧ H4 D = some (.lst ((c.2.take i).map vN))) ⟨same_new nD, upd_same⟩ (fun i H4 _ z => SqL.of (z.1 _ _ eS)) ?_ ?_
    · rintro i x H4 hx ⟨s4, e4⟩
      rw [List.getElem?_map, List.getElem?_map] at hx
      obtain ⟨w', hw', rfl⟩ := Option.map_eq_some_iff.mp hx
      obtain ⟨n, hn, rfl⟩ := Option.map_eq_some_iff.mp hw'
      have il := (List.getElem?_eq_some_iff.mp hn).1
      have n40 := sm n (List.mem_of_getElem? hn)
      refine ⟨rfl, _, rfl, dec n, rfl, Nat.le_trans (dec_len (k := 40) (by decide) n40) (by decide), fun H5 s5 => ?_⟩
      rw [read_dec n40]
      refine ⟨_, s5 _ _ e4, ?_, same_push (s4.trans s5) nD, ?_⟩
      · rw [List.length_map, List.length_take]
        exact Nat.lt_of_le_of_lt (show min i c.2.length ≤ 12 by omega) (by decide)
      · rw [upd_same, List.take_add_one, hn, List.map_append]
        rfl
    · rintro H4 ⟨s4, e4⟩
      rw [List.length_map, List.length_map, List.take_length] at e4
      refine ⟨D, _, rfl, .inl ⟨e4, fun T H5 nT s5 eT => ⟨(by show 2 ≤ sizeLine; decide), fun U H6 nU s6 eU => ?_⟩⟩⟩
      have cat : Cat H6 (.ref U) c := ⟨U, T, rfl, eU, s6 _ _ eT⟩
      refine ⟨_, rfl, .ref U, cdD c, rfl, cat.th, fun H7 s7 => ?_⟩
      rw [isCd_cdD hc]
      refine ⟨_, rfl, iteF ⟨_, rfl, ?_⟩⟩
      exact q _ H7 (sW.trans (s3.trans (sS.trans (s4.trans (s5.trans (s6.trans s7)))))) (cat.same s7)
end
end Lk
end
section
set_option maxRecDepth 100000
set_option maxHeartbeats 2000000
namespace Lk
open PySem PySem.Spec PyProof.Rows L2
section
variable {P : Program} {w : World} {K : PySem.W.Frag} {mg : Str → Option Value} {base : Heap}
abbrev nPail : List Str := ["script", "k", "cell"]
theorem sc_pail : FnScope nPail ["script", "k"] (defScope s_law_pail) := ⟨rfl, rfl, rfl, by decide +kernel, rfl, by decide +kernel, by decide +kernel⟩
theorem ok_pail {f : Addr} {fd : FuncData} (F : Fun K "_law_pail" "_law_pail" s_law_pail f fd) (mmax : mg "max" = none) (ml : mg "len" = none) : FnOk P w K mg base CX0 1 f fd ["script", "k"] (spPot K) := by
  refine F.ok sc_pail (fun vs H Q E h => ?_) (fun cdv A outer s H vs Q E hr h => ?_)
  · obtain ⟨S, ns, k, rfl, _⟩ := h
    rfl
  · obtain ⟨S, ns, k, rfl, hS, hk, hl, q⟩ := h
    have nd := sc_pail.nd
    refine ⟨_, (pss_cons (by exact (ps_set (i := 2) nd rfl (Or.inl rfl) pe_int))
      (C8.pss_cut (by exact (ps_if (pt_cmpR op_lt (pv 1) (pe_callB call_len_seq (by rfl) ml PySem.boot_len (pa_cons (pv 0) pa_nil)) (nomark _)) (pss_one (by exact (ps_set (i := 2) nd rfl (Or.inl rfl) (pe_ix ix_list (pv 0) (pv 1) (fun _ _ => rfl))))) pss_nil))
      (pss_one (by exact (ps_ret (pe_lstS (pa_cons (pe_callB (call_max2 rfl) (by rfl) mmax (by decide +kernel) (pa_cons pe_int (pa_cons (pe_op op_sub (pv 2) (pe_op op_pow pe_int pe_int)) pa_nil))) (pa_cons (pe_op op_add (pe_op op_mul (pe_op op_mod (pv 2) pe_int) pe_int) (pv 1)) (pa_cons pe_int pa_nil))))))))), ?_⟩
    refine ⟨fun σ' H' => ∃ c : Int, σ' = [some (.ref S), some (.int (k : Int)), some (.int c)] ∧ H' = H, ?_, ?_⟩
    · refine ⟨_, rfl, _, rfl, S, _, rfl, .inl hS, _, _, rfl, rfl, _, rfl, ite2 (fun e => ?_) (fun e => ?_)⟩
      · have e2 := of_decide_eq_true e
        rw [List.length_map] at e2
        have hk2 : k < ns.length := by omega
        have at1 : (ns.map V.int)[k]? = some (V.int ns[k]) := by rw [List.getElem?_map, List.getElem?_eq_getElem hk2]; rfl
        exact ⟨_, rfl, _, rfl, S, _, (k : Int), _, rfl, rfl, hS, atI_nat at1, _, rfl, rfl⟩
      · exact ⟨0, rfl, rfl⟩
    · rintro σ0 H2 ⟨c, rfl, rfl⟩
      have e34 : (0 : Int) < 162259276829213363391578010288127 := by decide
      refine ⟨_, rfl, _, _, rfl, rfl, ⟨by decide, by decide, by decide⟩, _, _, rfl, rfl, _, _, rfl, _, rfl, _, _, rfl, rfl, e34, _, _, rfl, rfl, .inr ⟨by decide, by decide⟩, _, rfl, _, _, rfl, rfl, (by show 3 ≤ sizeLine; decide), fun p H1 n1 s1 e1 => q p H1 n1 s1 ⟨_, _, 0, e1, ?_, ?_, by decide, by decide⟩⟩
      · have z := Int.emod_nonneg c (show (162259276829213363391578010288127 : Int) ≠ 0 by decide)
        omega
      · have z := Int.emod_lt_of_pos c e34
        have z2 : (162259276829213363391578010288127 : Int) * 64 + 64 < 10 ^ 36 := by decide
        omega
abbrev nDip : List Str := ["pail", "many", "found", "mixed"]
theorem sc_dip : FnScope nDip ["pail", "many"] (defScope s_law_dip) := ⟨rfl, rfl, rfl, by decide +kernel, rfl, by decide +kernel, by decide +kernel⟩
theorem ok_dip {f : Addr} {fd : FuncData} (F : Fun K "_law_dip" "_law_dip" s_law_dip f fd) : FnOk P w K mg base CX0 1 f fd ["pail", "many"] spPull := by
  refine F.ok sc_dip (fun vs H Q E h => ?_) (fun cdv A outer s H vs Q E hr h => ?_)
  · obtain ⟨a, m, n, rfl, _⟩ := h
    rfl
  · obtain ⟨a, m, n, rfl, ⟨u0, u1, u2, hb, g1, l1, g2, l2⟩, hn, h0, h1, q⟩ := h
    have nd := sc_dip.nd
    refine ⟨_, (pss_cons (by exact (ps_if (pt_cmpR op_gt (pe_ix ix_list (pv 0) pe_int (fun _ _ => rfl)) pe_int (nomark _)) (pss_cons (by exact (ps_set (i := 2) nd rfl (Or.inl rfl) (pe_op op_mod (pe_ix ix_list (pv 0) pe_int (fun _ _ => rfl)) (pv 1))))
      (pss_cons (by exact (ps_asg (pe_op op_fdivW (pe_ix ix_list (pv 0) pe_int (fun _ _ => rfl)) (pv 1)) (pg_sub (pv 0) pe_int set_list)))
      (pss_one (by exact (ps_ret (pv 2)))))) pss_nil))
      (pss_cons (by exact (ps_asg (pe_op op_add (pe_ix ix_list (pv 0) pe_int (fun _ _ => rfl)) pe_int) (pg_sub (pv 0) pe_int set_list)))
      (pss_cons (by exact (ps_set (i := 3) nd rfl (Or.inl rfl) (pe_op op_mod (pe_op op_powW (pe_op op_add (pe_ix ix_list (pv 0) pe_int (fun _ _ => rfl)) (pe_op op_mul pe_int (pe_ix ix_list (pv 0) pe_int (fun _ _ => rfl)))) pe_int) pe_int)))
      (pss_cons (by exact (ps_set (i := 3) nd rfl (Or.inl rfl) (pe_op op_mod (pe_op op_powW (pe_op op_add (pv 3) (pe_op op_mul (pe_op op_mul pe_int (pe_ix ix_list (pv 0) pe_int (fun _ _ => rfl))) (pe_ix ix_list (pv 0) pe_int (fun _ _ => rfl)))) pe_int) pe_int)))
      (pss_one (by exact (ps_ret (pe_op op_mod (pe_op op_fdiv (pv 3) pe_int) (pv 1))))))))), ?_⟩
    refine ⟨_, rfl, a, _, 0, .int u0, rfl, rfl, SqL.of hb, rfl, _, _, rfl, rfl, _, rfl, ite2 (fun c => ?_) (fun c => ?_)⟩
    · refine ⟨_, rfl, a, _, 0, .int u0, rfl, rfl, SqL.of hb, rfl, _, rfl, _, _, rfl, rfl, h0, ?_⟩
      refine ⟨_, rfl, a, _, 0, .int u0, rfl, rfl, SqL.of hb, rfl, _, rfl, _, _, rfl, rfl, pick_div h0 h1, _, rfl, a, _, 0, 0, rfl, rfl, hb, rfl, ?_⟩
      refine ⟨_, rfl, ?_⟩
      refine q _ _ (Int.emod_nonneg _ (by omega)) (Int.emod_lt_of_pos _ h0) ⟨u0 / m, u1, u2, upd_same, g1, l1, g2, by omega⟩ fun p o n e => ?_
      rw [upd_ne n]
      exact e
    · refine ⟨_, rfl, a, _, 2, .int u2, rfl, rfl, SqL.of hb, rfl, _, _, rfl, rfl, _, rfl, a, _, 2, 2, rfl, rfl, hb, rfl, ?_⟩
      have e38 : (0 : Int) < 170141183460469231731687303715884105727 := by decide
      have e36 : (0 : Int) < 162259276829213363391578010288127 := by decide
      have b1 : (u1 + 2654435761 * (u2 + 1)).natAbs < 2 ^ 1000 := by
        have z : (2 : Nat) ^ 1000 > 10 ^ 40 := by decide +kernel
        omega
      refine ⟨_, rfl, a, _, 1, .int u1, rfl, rfl, SqL.of upd_same, rfl, _, rfl, a, _, 2, .int (u2 + 1), rfl, rfl, SqL.of upd_same, rfl, _, _, rfl, rfl, .inl ⟨by decide, by decide⟩, _, _, rfl, rfl, _, _, rfl, rfl, ⟨by decide, by decide, b1⟩, _, _, rfl, rfl, e38, ?_⟩
      dsimp only
      generalize hF : ((u1 + 2654435761 * (u2 + 1)) ^ (3 : Int).toNat % 170141183460469231731687303715884105727 : Int) = F1
      have hF0 : 0 ≤ F1 := by rw [← hF]; exact Int.emod_nonneg _ (by omega)
      have hF1 : F1 < 170141183460469231731687303715884105727 := by rw [← hF]; exact Int.emod_lt_of_pos _ e38
      have hF2 : F1 < 10 ^ 39 := Int.lt_trans hF1 (by decide)
      have b2 : (F1 + 40692 * (u2 + 1) * (u2 + 1)).natAbs < 2 ^ 1000 := by
        have z : (2 : Nat) ^ 1000 > 10 ^ 40 := by decide +kernel
        have y : 40692 * (u2 + 1) * (u2 + 1) ≤ 40692 * 100001 * 100001 := Int.mul_le_mul (by omega) (by omega) (by omega) (by omega)
        have y0 : 0 ≤ 40692 * (u2 + 1) * (u2 + 1) := Int.mul_nonneg (by omega) (by omega)
        omega
      refine ⟨_, rfl, _, rfl, a, _, 2, .int (u2 + 1), rfl, rfl, SqL.of upd_same, rfl, _, _, rfl, rfl, .inl ⟨by decide, by decide⟩, _, rfl, a, _, 2, .int (u2 + 1), rfl, rfl, SqL.of upd_same, rfl, _, _, rfl, rfl, .inr ⟨by omega, by omega⟩, _, _, rfl, rfl, _, _, rfl, rfl, ⟨by decide, by decide, b2⟩, _, _, rfl, rfl, e36, ?_⟩
      refine ⟨_, rfl, _, _, rfl, rfl, ⟨by decide, by decide⟩, _, rfl, _, _, rfl, rfl, h0, ?_⟩
      exact q _ _ (Int.emod_nonneg _ (by omega)) (Int.emod_lt_of_pos _ h0) ⟨u0, u1, u2 + 1, upd_same, g1, l1, by omega, by omega⟩ sameBut_upd
end
end Lk
end
section
set_option maxRecDepth 100000
set_option maxHeartbeats 2000000
namespace Lk
open PySem PySem.Spec PyProof.Rows L2
/-- said n times -/
def rep (n : Nat) (l : List Nat) : List Nat := (List.replicate n l).flatten
theorem rep_len (n : Nat) (l : List Nat) : (rep n l).length = n * l.length := by
  induction n with
  | zero => simp [rep]
  | succ n ih =>
    unfold rep at ih ⊢
    rw [List.replicate_succ, List.flatten_cons, List.length_append, ih, Nat.succ_mul]
    omega
theorem fold_cat (c : Array Nat) : ∀ (n : Nat) (acc : Array Nat), ((List.replicate n c).foldl (· ++ ·) acc).toList = acc.toList ++ rep n c.toList
  | 0, acc => by simp [rep]
  | n + 1, acc => by
    rw [List.replicate_succ, List.foldl_cons, fold_cat c n (acc ++ c)]
    simp [rep, List.replicate_succ]
theorem mul_S (l : List Nat) (n : Nat) : Txt.mul (SX.S l) (n : Int) = SX.S (rep n l) := by
  unfold Txt.mul
  by_cases h0 : (n : Int) < 1
  · rw [if_pos h0]
    have e : n = 0 := by omega
    subst e
    rfl
  · rw [if_neg h0]
    by_cases h1 : ((n : Int) == 1 || (SX.S l).length == 0) = true
    · rw [if_pos h1]
      rw [Bool.or_eq_true, beq_iff_eq, beq_iff_eq, SX.S_len] at h1
      rcases h1 with h1 | h1
      · have e : n = 1 := by omega
        subst e
        simp [rep]
      · have e : l = [] := List.eq_nil_of_length_eq_zero h1
        subst e
        have z : rep n [] = [] := List.eq_nil_of_length_eq_zero (by rw [rep_len]; simp)
        rw [z]
    · rw [if_neg h1]
      have z := fold_cat l.toArray n #[]
      have e : ((List.replicate n l.toArray).foldl (· ++ ·) #[]) = (rep n l).toArray := by
        apply Array.toList_inj.mp
        rw [z]
        simp
      show Str.mk ((List.replicate n l.toArray).foldl (· ++ ·) #[]) = _
      rw [e]
theorem op_mulS {X : Cx} : OpR X (binaryOp .Mult) (fun x y H Q => ∃ (l : List Nat) (n : Nat), x = .str (SX.S l) ∧ y = .int n ∧ n ≤ 100000 ∧ n * l.length ≤ 1000000 ∧ Q (.str (SX.S (rep n l))) H) := by
  intro pins s σ H x y v u Q I rx ry h
  obtain ⟨l, n, rfl, rfl, hn, hl, q⟩ := h
  obtain ⟨t, rfl⟩ := rx
  obtain ⟨t', rfl⟩ := ry
  refine SB.mul ⟨?_, ?_, ?_⟩ fun t2 k => ⟨.str (SX.S (rep n l)), H, I.tok _, ⟨t2, by rw [mul_S]⟩, q⟩
  · rw [Bool.or_eq_false_iff, decide_eq_false_iff_not, decide_eq_false_iff_not]
    omega
  · intro h1 _ h2
    rw [SX.S_len] at h2
    have h3 : (0 : Int) < n := by omega
    have h4 : (2 ^ 63 - 1 : Int) / n < l.length := h2
    have h5 := (Int.ediv_lt_iff_lt_mul h3).mp h4
    have h6 : ((l.length : Int) * n) ≤ 1000000 := by
      have z : ((n * l.length : Nat) : Int) ≤ 1000000 := by omega
      rw [Int.natCast_mul] at z
      rw [Int.mul_comm]
      exact z
    omega
  · intro _ _
    rw [SX.S_len, Int.toNat_natCast, Nat.mul_comm]
    unfold Builtin.Str.tooLong
    rw [sizeLine_eq]
    simp
    omega
section
variable {P : Program} {w : World} {K : PySem.W.Frag} {mg : Str → Option Value} {base : Heap}
theorem az_rep {l : List Nat} (h : Az l) (n : Nat) : Az (rep n l) := by
  intro c hc
  unfold rep at hc
  obtain ⟨m, hm, hc⟩ := List.mem_flatten.mp hc
  rw [List.eq_of_mem_replicate hm] at hc
  exact h c hc
theorem isLoop_of {l : List Nat} (h : Az l) (h1 : 1 ≤ l.length) (h2 : l.length ≤ 12) : isLoop l = true := by
  unfold isLoop
  rw [isAz_iff.mpr h, decide_eq_true h1, decide_eq_true h2]
  rfl
end
theorem KnownV.words2 {H : Hp} {v : V} {b : Bool} (h : KnownV H v b) (hb : b = true) : ∃ a ws, v = .ref a ∧ H a = some (.tup (tx ws)) ∧ isKnown ws = true ∧ ws.length ≤ 100000 ∧ ∀ x ∈ ws, x.length ≤ 100000 := by
  cases h with
  | no h => cases hb
  | bad e hl h hw hb' => cases hb
  | tup e hl h => exact ⟨_, _, rfl, e, hb, hl, h⟩
theorem tx_str (ws : List (List Nat)) : tx ws = (ws.map SX.S).map V.str := by rw [List.map_map]; rfl
/-- sorted of a list of texts, as many as there are -/
def rSortSA (K : PySem.W.Frag) : List V → Hp → VK → Prop := fun vs H Q => ∃ (a : Addr) (xs : List Str), vs = [V.ref a] ∧ SqL K H a (xs.map V.str) ∧ xs.length ≤ 1000000 ∧
  ∀ ys p, ys.Perm xs → sortedS ys = true → H p = none → Q (.ref p) (upd H p (.lst (ys.map V.str)))
theorem cr_sortSA {X : Cx} : CallR X (.builtin "sorted") (rSortSA X.K) := by
  intro pins s σ H vs us Q I r h
  obtain ⟨a, xs, rfl, hs, hl0, q⟩ := h
  obtain ⟨its, rv, hl, _⟩ := I.list hs
  rw [Vals.ref1 r]
  have hlen0 := rv.length
  rw [List.length_map] at hlen0
  have big : xs.length ≤ sizeLine := Nat.le_trans hl0 (by decide)
  refine PyProof.Rows.sorted_strsAny hl.isList rv.strs (by rw [← hlen0]; exact big) fun out ys h1 h2 h3 => ?_
  obtain ⟨ep, he'⟩ := PyProof.Rows.sortedAll_at s.heap its out
  have hlen : (ys.map V.str).length ≤ sizeLine := by rw [List.length_map, h2.length_eq]; exact big
  exact ⟨.ref _, upd H (s.heap.objs.size + 1) (.lst (ys.map V.str)), I.laid (t' := s.toks) (fun _ _ => PyProof.Rows.sortedAll_old) (Nat.le_succ _) ⟨hlen, out.toList, ep, vals_of_strs h1, he'⟩, rfl, q ys _ h2 h3 (I.hok.fresh (Nat.le_succ _))⟩
theorem num_keys : ∀ (n : Nat) (ws : List (List Nat)), ((numFrom n ws).map fun kv => kV kv.1) = tx ws
  | _, [] => rfl
  | n, w :: r => by
    show V.str (SX.S w) :: _ = V.str (SX.S w) :: tx r
    rw [num_keys (n + 1) r]
/-- what stands of the new words -/
theorem Reads.facts {ws : List (List Nat)} {t : List Nat} {a r : Nat} {ns : List (List Nat)} (h : Reads ws t a ns r) (h0 : ([] : List Nat) ∈ ws) (nd : ws.Nodup) :
    (ws ++ ns).Nodup ∧ (∀ l ∈ ns, l ≠ [] ∧ l.length ≤ t.length ∧ l.take (l.length - 1) ∈ ws ++ ns ∧ ∀ c ∈ l, c ∈ t) ∧ r ≤ t.length ∧ a + ns.length ≤ t.length := by
  induction h with
  | done h =>
    have := h.ge
    refine ⟨by rw [List.append_nil]; exact nd, fun l hl => (by cases hl), this, this⟩
  | more h he hr ih =>
    rename_i ws t a e r ns
    have hae := h.ge
    have nin := h.no he
    have nd' : (ws ++ [sub t a (e + 1)]).Nodup := by
      rw [List.nodup_append]
      refine ⟨nd, List.nodup_cons.mpr ⟨by simp, List.nodup_nil⟩, fun x hx y hy z => ?_⟩
      rw [List.mem_singleton] at hy
      exact nin (by rw [← hy, ← z]; exact hx)
    obtain ⟨i1, i2, i3, i4⟩ := ih (List.mem_append_left _ h0) nd'
    rw [List.append_assoc] at i1 i2
    refine ⟨i1, fun l hl => ?_, i3, by rw [List.length_cons]; omega⟩
    rcases List.mem_cons.mp hl with e1 | e1
    · have hlen : (sub t a (e + 1)).length = e + 1 - a := sub_len (by omega) (by omega)
      subst e1
      refine ⟨fun z => by rw [z] at hlen; simp at hlen; omega, by omega, ?_, fun c hc => ?_⟩
      · have e2 : (sub t a (e + 1)).take ((sub t a (e + 1)).length - 1) = sub t a e := by
          rw [hlen]
          unfold sub
          rw [List.take_take, show min (e + 1 - a - 1) (e + 1 - a) = e - a by omega]
        rw [e2]
        by_cases hea : a = e
        · subst hea
          have e3 : sub t a a = [] := by unfold sub; rw [Nat.sub_self]; rfl
          rw [e3]
          exact List.mem_append_left _ h0
        · exact List.mem_append_left _ (h.all e (by omega) (Nat.le_refl _))
      · exact List.mem_of_mem_drop (List.mem_of_mem_take hc)
    · exact i2 l e1
theorem Reads.det {ws : List (List Nat)} {t : List Nat} {a r r' : Nat} {ns ns' : List (List Nat)} (h : Reads ws t a ns r) (h' : Reads ws t a ns' r') : ns = ns' ∧ r = r' := by
  induction h generalizing ns' r' with
  | done h =>
    cases h' with
    | done h' => exact ⟨rfl, rfl⟩
    | more h' he' hr' =>
      have := h.uniq h'
      omega
  | more h he hr ih =>
    cases h' with
    | done h' =>
      have := h'.uniq h
      omega
    | more h' he' hr' =>
      have e := h.uniq h'
      subst e
      obtain ⟨e1, e2⟩ := ih hr'
      exact ⟨by rw [e1], e2⟩
theorem Reads.get : ∀ (n : Nat) (ws : List (List Nat)) (t : List Nat) (a : Nat), a ≤ t.length → t.length - a ≤ n → ∃ ns r, Reads ws t a ns r
  | n, ws, t, a, h, hn => by
    obtain ⟨e, he⟩ := LE.ex ws t a h
    by_cases hlt : e < t.length
    · cases n with
      | zero => have := he.ge; omega
      | succ n =>
        have := he.ge
        obtain ⟨ns, r, hr⟩ := Reads.get n (ws ++ [sub t a (e + 1)]) t (e + 1) (by omega) (by omega)
        exact ⟨_, _, .more he hlt hr⟩
    · have e2 : e = t.length := by have := he.le; omega
      subst e2
      exact ⟨_, _, .done he⟩
theorem Reads.ex (ws : List (List Nat)) (t : List Nat) (a : Nat) (h : a ≤ t.length) : ∃ ns r, Reads ws t a ns r := Reads.get _ ws t a h (Nat.le_refl _)
section
variable {P : Program} {w : World} {K : PySem.W.Frag} {mg : Str → Option Value} {base : Heap}
def spNew : Sp := fun vs H Q _ => ∃ a d ws ns, vs = [.ref a, .ref d] ∧ H a = some (.tup (tx ws)) ∧ H d = some (.dK (numFrom 0 (([] :: ws) ++ ns))) ∧ ∀ p H', H p = none → H' p = some (.lst (tx ns)) → Same H H' → Q (.ref p) H'
end
def trueK (fs : List (List Nat)) : List (Key × V) := fs.map fun l => (Sum.inr (SX.S l), V.bl true)
theorem true_val : ∀ (fs : List (List Nat)) (l : List Nat), valV (trueK fs) (Sum.inr (SX.S l)) = if l ∈ fs then some (V.bl true) else none
  | [], l => by rw [if_neg (by simp)]; rfl
  | x :: r, l => by
    by_cases h : x = l
    · subst h
      rw [if_pos List.mem_cons_self]
      exact valV_pos rfl
    · have e : valV (trueK (x :: r)) (Sum.inr (SX.S l)) = valV (trueK r) (Sum.inr (SX.S l)) := valV_neg fun z => h (SX.S_inj (Sum.inr.inj z))
      rw [e, true_val r l]
      have hm : l ∈ x :: r ↔ l ∈ r := ⟨fun z => (List.mem_cons.mp z).resolve_left fun q => h q.symm, List.mem_cons_of_mem _⟩
      by_cases hr : l ∈ r
      · rw [if_pos hr, if_pos (hm.mpr hr)]
      · rw [if_neg hr, if_neg fun z => hr (hm.mp z)]
def addW (fs : List (List Nat)) (l : List Nat) : List (List Nat) := if l ∈ fs then fs else fs ++ [l]
theorem true_put (fs : List (List Nat)) (l : List Nat) : putK (trueK fs) (Sum.inr (SX.S l)) (.bl true) = trueK (addW fs l) := by
  unfold addW
  by_cases h : l ∈ fs
  · rw [if_pos h]
    have z : (trueK fs).any (fun kv => decide (kv.1 = Sum.inr (SX.S l))) = true := by
      rw [valV_any, true_val, if_pos h]
      rfl
    unfold putK
    rw [if_pos z]
    unfold trueK
    rw [List.map_map]
    refine List.map_congr_left fun x _ => ?_
    show (if (Sum.inr (SX.S x) : Key) = Sum.inr (SX.S l) then ((Sum.inr (SX.S x) : Key), V.bl true) else (Sum.inr (SX.S x), V.bl true)) = _
    split <;> rfl
  · rw [if_neg h]
    have z : valV (trueK fs) (Sum.inr (SX.S l)) = none := by rw [true_val, if_neg h]
    rw [putK_new _ z]
    unfold trueK
    rw [List.map_append]
    rfl
theorem addW_mem {fs : List (List Nat)} {l x : List Nat} : x ∈ addW fs l ↔ x ∈ fs ∨ x = l := by
  unfold addW
  by_cases h : l ∈ fs
  · rw [if_pos h]
    exact ⟨.inl, fun z => z.elim id fun e => e ▸ h⟩
  · rw [if_neg h, List.mem_append, List.mem_singleton]
theorem addW_nodup {fs : List (List Nat)} {l : List Nat} (h : fs.Nodup) : (addW fs l).Nodup := by
  unfold addW
  by_cases c : l ∈ fs
  · rw [if_pos c]; exact h
  · rw [if_neg c, List.nodup_append]
    refine ⟨h, List.nodup_cons.mpr ⟨by simp, List.nodup_nil⟩, fun x hx y hy z => ?_⟩
    rw [List.mem_singleton] at hy
    exact c (by rw [← hy, ← z]; exact hx)
theorem addW_len (fs : List (List Nat)) (l : List Nat) : (addW fs l).length ≤ fs.length + 1 := by
  unfold addW
  split
  · omega
  · rw [List.length_append]; simp
theorem true_len (fs : List (List Nat)) : (trueK fs).length = fs.length := List.length_map _
/-- what the found words are -/
structure Found (fs : List (List Nat)) (m : Nat) : Prop where
  nd : fs.Nodup
  len : fs.length ≤ m
  word : ∀ l ∈ fs, isWord l = true ∧ l.length ≤ 9
  clos : ∀ l ∈ fs, l.take (l.length - 1) ∈ ([] : List Nat) :: fs
theorem Found.add {fs : List (List Nat)} {m : Nat} (h : Found fs m) {l : List Nat} (hw : isWord l = true) (h9 : l.length ≤ 9) (hc : l.take (l.length - 1) ∈ ([] : List Nat) :: fs) : Found (addW fs l) (m + 1) where
  nd := addW_nodup h.nd
  len := Nat.le_trans (addW_len fs l) (Nat.succ_le_succ h.len)
  word := fun x hx => by
    rcases addW_mem.mp hx with z | z
    · exact h.word x z
    · rw [z]; exact ⟨hw, h9⟩
  clos := fun x hx => by
    have up : ∀ y, y ∈ ([] : List Nat) :: fs → y ∈ ([] : List Nat) :: addW fs l := fun y hy => by
      rcases List.mem_cons.mp hy with z | z
      · rw [z]; exact List.mem_cons_self
      · exact List.mem_cons_of_mem _ (addW_mem.mpr (.inl z))
    rcases addW_mem.mp hx with z | z
    · exact up _ (h.clos x z)
    · rw [z]; exact up _ hc
/-- sorted of unlike texts is rising -/
theorem rise_of_sorted : ∀ {us : List (List Nat)}, sortedS (us.map SX.S) = true → us.Nodup → Rise us = true
  | [], _, _ => rfl
  | [_], _, _ => rfl
  | a :: b :: r, h, nd => by
    have h' : (!ltCps (SX.S b).cps.toList (SX.S a).cps.toList && risingS (SX.S b) (r.map SX.S)) = true := h
    rw [Bool.and_eq_true] at h'
    have nd' := List.nodup_cons.mp nd
    have ih := rise_of_sorted (us := b :: r) h'.2 nd'.2
    show (decide (a < b) && Rise (b :: r)) = true
    rw [ih, Bool.and_true, decide_eq_true_eq]
    have h1 := h'.1
    rw [ltCps_eq, Bool.not_eq_true', decide_eq_false_iff_not] at h1
    have h2 : ¬ b < a := h1
    by_cases z : a < b
    · exact z
    · have e : a = b := List.le_antisymm (List.not_lt.mp h2) (List.not_lt.mp z)
      exact absurd (e ▸ List.mem_cons_self) nd'.1
theorem isKnown_of {us fs : List (List Nat)} (p : us.Perm fs) (hs : sortedS (us.map SX.S) = true) (nd : fs.Nodup) (hw : ∀ l ∈ fs, isWord l = true) (hc : ∀ l ∈ fs, l.take (l.length - 1) ∈ ([] : List Nat) :: fs) : isKnown us = true := by
  refine isKnown_iff.mpr ⟨List.all_eq_true.mpr fun l hl => hw l (p.mem_iff.mp hl), rise_of_sorted hs (p.symm.nodup nd), List.all_eq_true.mpr fun l hl => decide_eq_true ?_⟩
  rcases List.mem_cons.mp (hc l (p.mem_iff.mp hl)) with z | z
  · rw [z]; exact List.mem_cons_self
  · exact List.mem_cons_of_mem _ (p.mem_iff.mpr z)

end Lk
end
section
set_option maxRecDepth 100000
set_option maxHeartbeats 4000000
namespace Lk
open PySem PySem.Spec PyProof.Rows L2
/-- a coder of wide lengths -/
def spCoderW : Sp := fun vs H Q _ => ∃ (a : Addr) (n : Int), vs = [.ref a] ∧ Urn H a n ∧ n ≤ 80000 ∧ ∀ v c H', CdOk c → (∀ x ∈ c.2, x < 10 ^ 31) → Urn H' a (n + 60) → SameBut a H H' → Cat H' v c → Q v H'
/-- its text -/
def spWritten : Sp := fun vs H Q _ => ∃ (v : V) (c : Cd), vs = [v] ∧ Cat H v c ∧ CdOk c ∧ (∀ n ∈ c.2, n < 10 ^ 45) ∧ ∀ H', Same H H' → Q (.str (SX.S (showL c))) H'
abbrev nCW : List Str := ["pail", "p", "wide", "some", "place"]
abbrev nWr : List Str := ["coder", "words", "length"]
theorem val_noughts (k : Nat) : NumText.digitsVal (49 :: List.replicate k 48) = 10 ^ k := by
  induction k with
  | zero => rfl
  | succ k ih =>
    rw [List.replicate_succ', ← List.cons_append, NumText.digitsVal_snoc, ih, Nat.pow_succ]
    rfl
theorem int_noughts {k : Nat} (h : k ≤ 100) : intText? (SX.S (49 :: List.replicate k 48)) = some ((10 ^ k : Nat) : Int) := by
  have ad : NumText.AllDigits (49 :: List.replicate k 48) := fun c hc => by
    rcases List.mem_cons.mp hc with rfl | hc
    · decide
    · rw [List.eq_of_mem_replicate hc]; decide
  have z := intText_digits (x := SX.S (49 :: List.replicate k 48)) ad (List.cons_ne_nil _ _) (by rw [SX.S_len, List.length_cons, List.length_replicate]; omega)
  have e : (SX.S (49 :: List.replicate k 48)).cps.toList = 49 :: List.replicate k 48 := rfl
  rw [e, val_noughts] at z
  exact z
theorem rep_one48 (n : Nat) : rep n [48] = List.replicate n 48 := by
  refine List.eq_replicate_iff.mpr ⟨by rw [rep_len]; exact Nat.mul_one _, fun b hb => ?_⟩
  unfold rep at hb
  obtain ⟨x, hx, hb⟩ := List.mem_flatten.mp hb
  rw [List.eq_of_mem_replicate hx] at hb
  exact List.mem_singleton.mp hb
section
variable {P : Program} {w : World} {K : PySem.W.Frag} {mg : Str → Option Value} {base : Heap}
theorem sc_coderW : FnScope nCW ["pail"] (defScope s_law_coder) := ⟨rfl, rfl, rfl, by decide +kernel, rfl, by decide +kernel, by decide +kernel⟩
theorem ok_coderW {f : Addr} {fd : FuncData} (F : Fun K "_law_coder" "_law_coder" s_law_coder f fd) (dip : C8.Cal P w K mg base 1 "_law_dip" spPull []) (mi : mg "int" = none) (mr : mg "range" = none) (mt : mg "tuple" = none) : FnOk P w K mg base CX0 2 f fd ["pail"] spCoderW := by
  refine F.ok sc_coderW (fun vs H Q E h => ?_) (fun cdv A outer s H vs Q E hr h => ?_)
  · obtain ⟨a, n, rfl, _⟩ := h
    rfl
  · obtain ⟨a, n, rfl, u0, n8, q⟩ := h
    have nd := sc_coderW.nd
    refine ⟨_, (pss_cons (by exact (ps_set (i := 1) nd rfl (Or.inl rfl) (pe_op op_add pe_int (C8.pe_c dip hr (by decide) rfl (pa_cons (pv 0) (pa_cons pe_int pa_nil))))))
      (pss_cons (by exact (ps_set (i := 2) nd rfl (Or.inr rfl) (pe_callTy call_int_str (by rfl) mi (by decide +kernel) (pa_cons (pe_op op_add_str pe_str (pe_op op_mulS pe_str (C8.pe_c dip hr (by decide) rfl (pa_cons (pv 0) (pa_cons pe_int pa_nil))))) pa_nil))))
      (pss_cons (by exact (ps_setLc (i := 3) (own := [("place", 4)]) (g := (gName 4)) (by rfl) nd rfl rfl (sw_true rfl rfl rfl (by decide +kernel)) (pi_range1 (by rfl) mr (pa_cons (pv 1) pa_nil)) (blkOk_by (N := nCW) (sc := defScope s_law_coder) (by decide +kernel)) (fun _ _ _ _ _ => (pg_name (i := 4) nd rfl (Or.inl rfl))) (fun _ _ _ _ _ => pts_nil) (fun _ _ _ _ _ => (pe_ix (ix_listK (K := K) rfl) (pe_lstS (pa_cons pe_int (pa_cons (C8.pe_c dip hr (by decide) rfl (pa_cons (pv 0) (pa_cons pe_int pa_nil))) (pa_cons (C8.pe_c dip hr (by decide) rfl (pa_cons (pv 0) (pa_cons (pv 2) pa_nil))) pa_nil)))) (C8.pe_c dip hr (by decide) rfl (pa_cons (pv 0) (pa_cons pe_int pa_nil))) (fun _ _ => rfl)))))
      (pss_one (by exact (ps_ret (pe_tupS (pa_cons (C8.pe_c dip hr (by decide) rfl (pa_cons (pv 0) (pa_cons (pv 1) pa_nil))) (pa_cons (pe_callTy call_tupS (by rfl) mt (by decide +kernel) (pa_cons (pv 3) pa_nil)) pa_nil))))))))), ?_⟩
    have bign : (100 : Int) ≤ 10 ^ 40 := by decide
    obtain ⟨B40, hB⟩ : ∃ B : Int, B = 10 ^ 40 := ⟨_, rfl⟩
    rw [← hB] at bign
    refine ⟨_, rfl, a, 12, _, rfl, u0, by omega, by decide, by decide, fun v1 H1 v10 v11 u1 sb1 => ⟨_, _, rfl, rfl, ?_⟩⟩
    obtain ⟨p0, rfl⟩ := Int.eq_ofNat_of_zero_le v10
    obtain ⟨p, ep⟩ : ∃ p : Nat, p = 1 + p0 := ⟨_, rfl⟩
    have hp : 1 + (p0 : Int) = (p : Int) := by omega
    dsimp only
    rw [hp]
    refine ⟨_, rfl, a, 31, _, rfl, u1, by omega, by decide, by decide, fun v2 H2 v20 v21 u2 sb2 => ?_⟩
    obtain ⟨k, rfl⟩ := Int.eq_ofNat_of_zero_le v20
    have e0 : V.str (Str.ofString "0") = V.str (SX.S [48]) := congrArg V.str (by decide +kernel)
    refine ⟨[48], k, e0, rfl, by omega, by show k * 1 ≤ 1000000; omega, ?_⟩
    rw [rep_one48]
    have e1 : Str.ofString "1" = SX.S [49] := by decide +kernel
    refine ⟨_, _, rfl, rfl, ?_, ?_⟩
    · rw [e1, SX.S_len, SX.S_len, List.length_replicate]
      exact Nat.le_trans (show 1 + k ≤ 32 by omega) (by decide)
    rw [e1, SX.S_cat]
    have k30 : k ≤ 30 := by omega
    obtain ⟨W, eW⟩ : ∃ W : Nat, W = 10 ^ k := ⟨_, rfl⟩
    have W31 : W < 10 ^ 31 := by rw [eW]; exact Nat.pow_lt_pow_right (by decide) (by omega)
    have W0 : 0 < W := by rw [eW]; exact Nat.pow_pos (by decide)
    refine ⟨_, _, rfl, int_noughts (k := k) (by omega), ?_, ?_⟩
    · rw [SX.S_len, List.length_append, List.length_replicate]
      show 1 + k ≤ 640
      omega
    rw [← eW]
    have W40 : (W : Int) ≤ B40 := by
      rw [hB]
      have z : (10 : Nat) ^ 31 ≤ 10 ^ 40 := by decide +kernel
      have y : W ≤ 10 ^ 40 := by omega
      exact_mod_cast y
    have sb02 := sb1.trans sb2
    refine ⟨_, rfl, (p : Int), rfl, by omega, by omega, fun D nD => ?_⟩
    rw [Int.toNat_natCast]
    obtain ⟨_, _, _, ea2, _⟩ := id u2
    have nDa : D ≠ a := (ne_of_none ea2 nD).symm
    refine lc_range (lo := 0) (n := p) (fun i H3 => ∃ ls : List Nat, ls.length = i ∧ (∀ x ∈ ls, x < 10 ^ 31) ∧ H3 D = some (.lst (ls.map vN)) ∧ Urn H3 a (n + 2 + 3 * (i : Int)) ∧ SameBut a H2 H3) ⟨[], rfl, (by intro x hx; cases hx), upd_same, (u2.same (same_new nD)).le (by omega), Same.but (same_new nD)⟩ ?_ ?_
    · rintro i H3 hi ⟨ls, ll, hls, e3, u3, sb3⟩
      refine ⟨rfl, _, rfl, a, 12, _, rfl, u3, by omega, by decide, by decide, fun v4 H4 v40 v41 u4 sb4 => ?_⟩
      refine ⟨_, rfl, _, rfl, a, _, _, rfl, u4, by omega, by omega, by rw [← hB]; omega, fun v5 H5 v50 v51 u5 sb5 => ⟨(by show 3 ≤ sizeLine; decide), fun L H6 nL s6 eL => ?_⟩⟩
      have nLa : L ≠ a := (u5.ne nL).symm
      refine ⟨_, rfl, a, 3, _, rfl, u5.same s6, by omega, by decide, by decide, fun v7 H7 v70 v71 u7 sb7 => ?_⟩
      have e7 : H7 D = _ := sb7 _ _ nDa (s6 _ _ (sb5 _ _ nDa (sb4 _ _ nDa e3)))
      obtain ⟨x, hx, hat⟩ : ∃ x : Nat, x < 10 ^ 31 ∧ atI [V.int 0, V.int v4, V.int v5] v7 = some (.int (x : Int)) := by
        obtain ⟨k4, rfl⟩ := Int.eq_ofNat_of_zero_le v40
        obtain ⟨k5, rfl⟩ := Int.eq_ofNat_of_zero_le v50
        have c : v7 = 0 ∨ v7 = 1 ∨ v7 = 2 := by omega
        rcases c with rfl | rfl | rfl
        · exact ⟨0, by decide +kernel, rfl⟩
        · exact ⟨k4, Nat.lt_of_lt_of_le (show k4 < 12 by omega) (by decide +kernel), rfl⟩
        · exact ⟨k5, by omega, rfl⟩
      refine ⟨L, _, v7, _, rfl, rfl, SqL.of (sb7 _ _ nLa eL), hat, _, e7, ?_, ls ++ [x], by rw [List.length_append, ll]; rfl, fun y hy => ?_, ?_, ?_, ?_⟩
      · rw [List.length_map, ll]
        exact Nat.lt_of_le_of_lt (show i ≤ 12 by omega) (by decide)
      · rcases List.mem_append.mp hy with z | z
        · exact hls y z
        · rw [List.mem_singleton.mp z]; exact hx
      · rw [upd_same, List.map_append]
        rfl
      · obtain ⟨w0, w1, w2, e, z⟩ := u7.le (m := n + 2 + 3 * ((i + 1 : Nat) : Int)) (by push_cast; omega)
        exact ⟨w0, w1, w2, (upd_ne nDa.symm).trans e, z⟩
      · exact fun b o nb e => by
          rw [upd_ne (ne_of_none e nD)]
          exact sb7 _ _ nb (s6 _ _ (sb5 _ _ nb (sb4 _ _ nb (sb3 _ _ nb e))))
    · rintro H3 ⟨ls, ll, hls, e3, u3, sb3⟩
      refine ⟨_, rfl, _, rfl, a, (p : Int), _, rfl, u3, by omega, by omega, by rw [← hB]; omega, fun v4 H4 v40 v41 u4 sb4 => ?_⟩
      obtain ⟨sp, rfl⟩ := Int.eq_ofNat_of_zero_le v40
      have e4 : H4 D = _ := sb4 _ _ nDa e3
      refine ⟨_, rfl, D, _, rfl, .inl ⟨e4, fun T H5 nT s5 eT => ⟨(by show 2 ≤ sizeLine; decide), fun U H6 nU s6 eU => ?_⟩⟩⟩
      exact q (.ref U) (sp, ls) H6 ⟨by show sp < ls.length; omega, by show ls.length ≤ 12; omega⟩ hls (((u4.same s5).same s6).le (by omega)) (sb02.trans (sb3.trans (sb4.trans (Same.but (s5.trans s6))))) ⟨U, T, rfl, eU, s6 _ _ eT⟩
theorem sc_written : FnScope nWr ["coder"] (defScope s_law_written) := ⟨rfl, rfl, rfl, by decide +kernel, rfl, by decide +kernel, by decide +kernel⟩
theorem ok_written {f : Addr} {fd : FuncData} (F : Fun K "_law_written" "_law_written" s_law_written f fd) (ms : mg "str" = none) : FnOk P w K mg base CX0 1 f fd ["coder"] spWritten := by
  refine F.ok sc_written (fun vs H Q E h => ?_) (fun cdv A outer s H vs Q E hr h => ?_)
  · obtain ⟨v, c, rfl, _⟩ := h
    rfl
  · obtain ⟨v, c, rfl, cat, hc, sm, q⟩ := h
    have nd := sc_written.nd
    refine ⟨_, (pss_cons (by exact (ps_set (i := 1) nd rfl (Or.inl rfl) (pe_op op_catS (pe_lstS (pa_cons pe_str (pa_cons (pe_callTy call_str_int (by rfl) ms (by decide +kernel) (pa_cons (pe_ix ix_tup (pv 0) pe_int (fun _ _ => rfl)) pa_nil)) (pa_cons pe_str pa_nil)))) (pe_lc (own := [("length", 2)]) (g := (gName 2)) (tt := tYes) rfl nd (pi_tup (pe_ix ix_tup (pv 0) pe_int (fun _ _ => rfl))) (blkOk_by (N := nWr) (sc := defScope s_law_written) (by decide +kernel)) (fun _ _ _ _ _ => (pg_name (i := 2) nd rfl (Or.inl rfl))) (fun _ _ _ _ _ => pts_nil) (fun _ _ _ _ _ => (pe_callTy call_str_int (by rfl) ms (by decide +kernel) (pa_cons (pv 2) pa_nil)))))))
      (pss_one (by exact (ps_ret (pe_join pe_str (pv 1)))))), ?_⟩
    obtain ⟨a, b, rfl, ha, hb⟩ := id cat
    have c12 := hc.2
    have cp : c.1 < c.2.length := hc.1
    have c45 : c.1 < 10 ^ 45 := Nat.lt_of_lt_of_le (show c.1 < 12 by omega) (by decide +kernel)
    refine ⟨_, rfl, a, _, 0, _, rfl, rfl, SqT.of ha, rfl, _, rfl, small45 c45, (by show 3 ≤ sizeLine; decide), fun L H1 nL s1 eL => ?_⟩
    have ha1 := s1 _ _ ha
    have hb1 := s1 _ _ hb
    refine ⟨_, rfl, a, _, 1, _, rfl, rfl, SqT.of ha1, rfl, b, rfl, ⟨_, SqT.of hb1⟩, fun D nD => ?_⟩
    refine lc_it walk_tup (fun i H3 => Same H1 H3 ∧ H3 D = some (.lst (((c.2.take i).map dec).map fun w => V.str (SX.S w)))) ⟨same_new nD, upd_same⟩ (fun i H3 _ z => SqT.of (z.1 _ _ hb1)) ?_ ?_
    · rintro i x H3 H4 hi ⟨s3, e3⟩ ⟨rfl, hx⟩
      rw [List.length_map] at hi
      rw [nat_at hi] at hx
      cases hx
      have hn : c.2[i]? = some (c.2.getD i 0) := by
        rw [List.getD_eq_getElem?_getD, List.getElem?_eq_getElem hi]
        rfl
      refine ⟨rfl, _, rfl, _, rfl, small45 (sm _ (List.mem_of_getElem? hn)), _, e3, ?_, same_push s3 nD, ?_⟩
      · rw [List.length_map, List.length_map, List.length_take]
        exact Nat.lt_of_le_of_lt (show min i c.2.length ≤ 12 by omega) (by decide)
      · rw [upd_same, List.take_add_one, hn, List.map_append, List.map_append, str_dec]
        rfl
    · rintro H3 ⟨s3, e3⟩
      rw [List.length_map, List.take_length] at e3
      have eat : Str.ofString "at" = SX.S [97, 116] := by decide +kernel
      have ekn : Str.ofString "knows" = SX.S [107, 110, 111, 119, 115] := by decide +kernel
      have eL3 := s3 _ _ eL
      rw [eat, ekn, str_dec] at eL3
      have lens : ∀ w ∈ wordsC c, w.length ≤ 45 := fun w hw => by
        unfold wordsC at hw
        rcases List.mem_cons.mp hw with rfl | hw
        · decide
        rcases List.mem_cons.mp hw with rfl | hw
        · exact dec_len (by decide) c45
        rcases List.mem_cons.mp hw with rfl | hw
        · decide
        obtain ⟨n, hn, rfl⟩ := List.mem_map.mp hw
        exact dec_len (by decide) (sm n hn)
      refine ⟨L, D, _, _, rfl, rfl, eL3, e3, ?_, fun p4 H4 n4 s4 e4 => ?_⟩
      · rw [List.length_map, List.length_map]
        exact Nat.le_trans (show 3 + c.2.length ≤ 15 by omega) (by decide)
      have e4' : H4 p4 = some (.lst (((wordsC c).map SX.S).map V.str)) := by
        rw [e4]
        show some (HO.lst ([V.str (SX.S [97, 116]), V.str (SX.S (dec c.1)), V.str (SX.S [107, 110, 111, 119, 115])] ++ ((c.2.map dec).map fun w => V.str (SX.S w)))) = _
        unfold wordsC
        rw [List.map_cons, List.map_cons, List.map_cons, List.map_cons, List.map_cons, List.map_cons, List.map_map (f := SX.S)]
        rfl
      refine ⟨⟨_, rfl⟩, _, rfl, _, p4, (wordsC c).map SX.S, rfl, rfl, .inl (SqL.of e4'), ?_, ?_⟩
      · have e0 : (Str.ofString " ").length = 1 := by decide +kernel
        rw [e0, List.length_map, SX.lens]
        have wl : (wordsC c).length = c.2.length + 3 := by
          unfold wordsC
          rw [List.length_cons, List.length_cons, List.length_cons, List.length_map]
        have y : ∀ l : List (List Nat), (∀ w ∈ l, w.length ≤ 45) → (l.map (·.length)).sum ≤ l.length * 45 := by
          intro l
          induction l with
          | nil => intro _; exact Nat.zero_le _
          | cons b l ih =>
            intro hl
            have h1 := hl b List.mem_cons_self
            have h2 := ih fun n hn => hl n (List.mem_cons_of_mem _ hn)
            show b.length + (l.map (·.length)).sum ≤ (l.length + 1) * 45
            omega
        have z := y _ lens
        rw [wl] at z
        rw [wl]
        omega
      · rw [join_tl]
        exact q H4 (s1.trans (s3.trans s4))
end
end Lk
end
section
set_option maxRecDepth 100000
set_option maxHeartbeats 2000000
/-! Alike through and through: data that are equal. -/
namespace Lk
open PySem PySem.Spec PyProof.Rows L2
def isSc : PyData → Bool
  | .none => true
  | .bool _ => true
  | .int _ => true
  | .str _ => true
  | _ => false
inductive Up (Pd : PyData → Prop) : PyData → Prop
  | sc (d : PyData) (h : isSc d = true) : Up Pd d
  | lst (ds : List PyData) (h : ∀ x ∈ ds, Pd x) (l : ds.length ≤ 100000) : Up Pd (.list ds)
  | tup (ds : List PyData) (h : ∀ x ∈ ds, Pd x) (l : ds.length ≤ 100000) : Up Pd (.tuple ds)
def Okd : Nat → PyData → Prop
  | 0 => fun _ => False
  | n + 1 => Up (Okd n)
def spSameP (Pd : PyData → Prop) : Sp := fun vs H Q _ => ∃ v u d, vs = [v, u] ∧ Th H v d ∧ Th H u d ∧ Pd d ∧ ∀ H', Same H H' → Q (.bl true) H'
theorem ix_eithK {X : Cx} {K : PySem.W.Frag} (h : X.K = K) : IxR X (fun x y H Q => rIxT K x y H Q ∨ rIxL K x y H Q) := by
  intro value slice pins s σ H x y v u Q I rx ry q e
  rcases q with q | q
  · exact ix_tupK h value slice pins s σ H x y v u Q I rx ry q e
  · exact ix_listK h value slice pins s σ H x y v u Q I rx ry q e
theorem kit_any {K : PySem.W.Frag} (d : PyData) : PySem.W.kitAny K (.type (tyN d)) [.type "list", .type "tuple"] = some (isL d || isT d) := by
  unfold PySem.W.kitAny
  rw [kit_list]
  cases isL d
  · unfold PySem.W.kitAny
    rw [kit_tuple]
    cases isT d <;> rfl
  · rfl
theorem ThAll.at {H : Hp} : ∀ {vs : List V} {ds : List PyData}, ThAll H vs ds → ∀ {i : Nat}, i < ds.length → ∃ v d, vs[i]? = some v ∧ ds[i]? = some d ∧ Th H v d
  | _, _, .nil, i, h => absurd h (Nat.not_lt_zero i)
  | _, _, .cons h m, 0, _ => ⟨_, _, rfl, rfl, h⟩
  | _, _, .cons h m, i + 1, hi => m.at (Nat.lt_of_succ_lt_succ hi)
end Lk
end
section
set_option maxRecDepth 100000
set_option maxHeartbeats 2000000
/-! repr of a tuple of texts. -/
namespace Lk
open PySem PySem.Spec PyProof.Rows L2
/-- texts as data -/
def sD (x : List Nat) : PyData := .str (SX.S x)
def xD (ws : List (List Nat)) : PyData := .tuple (ws.map sD)
theorem th_txs {H : Hp} : ∀ ws : List (List Nat), ThAll H (tx ws) (ws.map sD)
  | [] => .nil
  | w :: r => .cons (.str (SX.S w)) (th_txs r)
theorem th_xD {H : Hp} {p : Addr} {ws : List (List Nat)} (e : H p = some (.tup (tx ws))) : Th H (.ref p) (xD ws) := .tup e (th_txs ws)
theorem depth_sD : ∀ ws : List (List Nat), PyData.depthAll (ws.map sD) = 0
  | [] => by simp [PyData.depthAll]
  | w :: r => by simp [PyData.depthAll, PyData.depth, sD, depth_sD r]
theorem show_sD : ∀ ws : List (List Nat), PyData.showableAll (ws.map sD) = true
  | [] => by simp [PyData.showableAll]
  | w :: r => by simp [PyData.showableAll, PyData.showable, sD, show_sD r]
theorem wt_sD {x : List Nat} {n : Nat} (hz : Az x) (h : x.length ≤ n) : wt (sD x) ≤ 10 * n + 2 := by
  have z := PySem.StrLaws.reprText_len (SX.S x) (fun c hc => Nat.lt_of_le_of_lt (hz c hc).2 (by decide))
  rw [SX.S_len] at z
  exact Nat.le_trans z (Nat.add_le_add_right (Nat.mul_le_mul_left 10 h) 2)
theorem rep_xD {K : PySem.W.Frag} {H : Hp} {Q : VK} {p : Addr} {ws : List (List Nat)} (e : H p = some (.tup (tx ws))) (h : ws.length ≤ 1000) (hl : ∀ x ∈ ws, x.length ≤ 400) (hz : ∀ x ∈ ws, Az x) (q : Q (.str (xD ws).shown) H) : rRep K [.ref p] H Q := by
  refine ⟨.ref p, xD ws, rfl, Th.dq _ (th_xD e), (fun kvs z => nomatch z), ?_, ?_, ?_, q⟩
  · simp only [xD, PyData.showable, show_sD]
  · simp only [xD, PyData.depth, depth_sD]
    decide
  · have a := shown_wt (xD ws)
    have b := wts_le (B := 4002) (ds := ws.map sD) fun d hd => by
      obtain ⟨x, hx, rfl⟩ := List.mem_map.mp hd
      exact wt_sD (hz x hx) (hl x hx)
    rw [List.length_map] at b
    have c : wt (xD ws) = 3 + wts (ws.map sD) := rfl
    have d : ws.length * 4004 ≤ 1000 * 4004 := Nat.mul_le_mul_right _ h
    rw [sizeLine_eq]
    omega
theorem known_az {ws : List (List Nat)} (h : isKnown ws = true) : ∀ x ∈ ws, Az x := fun x hx => (isWord_iff.mp (List.all_eq_true.mp (isKnown_iff.mp h).1 x hx)).1
theorem sqLs {K : PySem.W.Frag} {H H2 : Hp} {a : Addr} {xs : List V} (s : Same H H2) (h : SqL K H a xs) : SqL K H2 a xs := by
  rcases h with (h | ⟨o, h⟩) | h
  · exact .inl (.inl (s _ _ h))
  · exact .inl (.inr ⟨o, s _ _ h⟩)
  · exact .inr h
/-- repr of a truth -/
theorem rep_bl {K : PySem.W.Frag} {H : Hp} {Q : VK} {b : Bool} (q : Q (.str (PyData.bool b).shown) H) : rRep K [.bl b] H Q := by
  refine ⟨.bl b, .bool b, rfl, .bl b, (fun kvs z => nomatch z), by simp [PyData.showable], by simp [PyData.depth], ?_, q⟩
  have a := shown_wt (.bool b)
  have c : wt (.bool b) = 5 := rfl
  rw [sizeLine_eq]
  omega
end Lk
end
section
set_option maxRecDepth 100000
set_option maxHeartbeats 4000000
namespace Lk
open PySem PySem.Spec PyProof.Rows L2
abbrev nSa : List Str := ["found", "due", "k"]
section
variable {P : Program} {w : World} {K : PySem.W.Frag} {mg : Str → Option Value} {base : Heap}
theorem sc_same : FnScope nSa ["found", "due"] (defScope s_law_same) := ⟨rfl, rfl, rfl, by decide +kernel, rfl, by decide +kernel, by decide +kernel⟩
theorem ok_same0 {f : Addr} {fd : FuncData} (F : Fun K "_law_same" "_law_same" s_law_same f fd) : FnOk P w K mg base CX0 1 f fd ["found", "due"] (spSameP (Okd 0)) := by
  refine F.ok sc_same (fun vs H Q E h => ?_) (fun cdv A outer s H vs Q E hr h => ?_)
  · obtain ⟨v, u, d, rfl, _⟩ := h
    rfl
  · obtain ⟨v, u, d, rfl, _, _, h, _⟩ := h
    exact h.elim
theorem ok_same {f : Addr} {fd : FuncData} {n : Nat} (F : Fun K "_law_same" "_law_same" s_law_same f fd) (sa : C8.Cal P w K mg base (n + 1) "_law_same" (spSameP (Okd n)) []) (mi : mg "isinstance" = none) (mls : mg "list" = none) (mt : mg "tuple" = none) (mb : mg "bool" = none) (ml : mg "len" = none) (mr : mg "range" = none) (ma : mg "all" = none) : FnOk P w K mg base CX0 (n + 2) f fd ["found", "due"] (spSameP (Okd (n + 1))) := by
  refine F.ok sc_same (fun vs H Q E h => ?_) (fun cdv A outer s H vs Q E hr h => ?_)
  · obtain ⟨v, u, d, rfl, _⟩ := h
    rfl
  · obtain ⟨v, u, d, rfl, hv, hu, hd, q⟩ := h
    have nd := sc_same.nd
    refine ⟨_, (pss_cons (by exact (ps_if (pt_val (pe_callB call_isiT (by rfl) mi (by decide +kernel) (pa_cons (pv 1) (pa_cons (pe_tupS (pa_cons (pe_bltn (v := .ty "list") (by rfl) mls (by decide +kernel) rfl) (pa_cons (pe_bltn (v := .ty "tuple") (by rfl) mt (by decide +kernel) rfl) pa_nil))) pa_nil)))) (pss_cons (by exact (ps_if (PW.pt (pw_or (pt_cmpR op_ne (pe_callB call_isi (by rfl) mi (by decide +kernel) (pa_cons (pv 0) (pa_cons (pe_bltn (v := .ty "list") (by rfl) mls (by decide +kernel) rfl) pa_nil))) (pe_callB call_isi (by rfl) mi (by decide +kernel) (pa_cons (pv 1) (pa_cons (pe_bltn (v := .ty "list") (by rfl) mls (by decide +kernel) rfl) pa_nil))) (nomark _)) (pw_or1 (pt_cmpR op_ne (pe_callB call_isi (by rfl) mi (by decide +kernel) (pa_cons (pv 0) (pa_cons (pe_bltn (v := .ty "tuple") (by rfl) mt (by decide +kernel) rfl) pa_nil))) (pe_callB call_isi (by rfl) mi (by decide +kernel) (pa_cons (pv 1) (pa_cons (pe_bltn (v := .ty "tuple") (by rfl) mt (by decide +kernel) rfl) pa_nil))) (nomark _))))) (pss_one (by exact (ps_ret pe_bl))) pss_nil))
      (pss_one (by exact (ps_ret (pe_and (pe_cmpR op_eq (pe_callB call_len_seq (by rfl) ml PySem.boot_len (pa_cons (pv 0) pa_nil)) (pe_callB call_len_seq (by rfl) ml PySem.boot_len (pa_cons (pv 1) pa_nil)) (nomark _)) (pe_one (pe_callB (cr_all rfl) (by rfl) ma (by decide +kernel) (pa_cons (pe_lc (own := [("k", 2)]) (g := (gName 2)) (tt := tYes) rfl nd (pi_range1 (by rfl) mr (pa_cons (pe_callB call_len_seq (by rfl) ml PySem.boot_len (pa_cons (pv 1) pa_nil)) pa_nil)) (blkOk_by (N := nSa) (sc := defScope s_law_same) (by decide +kernel)) (fun _ _ _ _ _ => (pg_name (i := 2) nd rfl (Or.inl rfl))) (fun _ _ _ _ _ => pts_nil) (fun _ _ _ _ _ => (C8.pe_c sa hr (Nat.le_refl _) rfl (pa_cons (pe_ix (ix_eithK (K := K) rfl) (pv 0) (pv 2) (fun _ _ => rfl)) (pa_cons (pe_ix (ix_eithK (K := K) rfl) (pv 1) (pv 2) (fun _ _ => rfl)) pa_nil))))) pa_nil)))))))) pss_nil))
      (pss_one (by exact (ps_ret (pe_and (pe_cmpR op_eq (pe_callB call_isi (by rfl) mi (by decide +kernel) (pa_cons (pv 0) (pa_cons (pe_bltn (v := .ty "bool") (by rfl) mb (by decide +kernel) rfl) pa_nil))) (pe_callB call_isi (by rfl) mi (by decide +kernel) (pa_cons (pv 1) (pa_cons (pe_bltn (v := .ty "bool") (by rfl) mb (by decide +kernel) rfl) pa_nil))) (nomark _)) (pe_one (pe_cmpR op_eq (pv 0) (pv 1) (nomark _)))))))), ?_⟩
    refine ⟨_, rfl, (by show 2 ≤ sizeLine; decide), fun T H1 nT s1 e1 => ?_⟩
    refine ⟨u, T, _, _, _, isL d || isT d, rfl, e1, .cons (.ty _) (.cons (.ty _) .nil), (hu.same s1).ty, kit_any d, _, rfl, ?_⟩
    have hv1 := hv.same s1
    have hu1 := hu.same s1
    cases hd with
    | sc _ h =>
      have hvu : v = u := by cases hv <;> cases hu <;> first | rfl | cases h
      subst hvu
      have hs : scal v v = true := by cases hv <;> first | rfl | cases h
      have e : (isL d || isT d) = false := by cases d <;> first | rfl | cases h
      dsimp only
      rw [e]
      refine iteF ?_
      refine ⟨_, rfl, v, .ty "bool", _, _, isB d, rfl, .ty _, hv1.ty, kit_bool d, _, rfl, v, .ty "bool", _, _, isB d, rfl, .ty _, hv1.ty, kit_bool d, rfl, _, rfl, ?_⟩
      rw [decide_eq_true rfl]
      refine iteT ⟨_, rfl, _, rfl, hs, ?_⟩
      rw [decide_eq_true rfl]
      exact q H1 s1
    | lst ds h l =>
      cases hv1 with
      | lst ea ma =>
      cases hu1 with
      | lst eb mb =>
      rename_i a xs b ys
      have hvL := (Th.lst ea ma).ty (K := K)
      have huL := (Th.lst eb mb).ty (K := K)
      refine iteT ?_
      refine ⟨_, rfl, .ref a, .ty "list", _, _, true, rfl, .ty _, hvL, kit_list _, _, rfl, .ref b, .ty "list", _, _, true, rfl, .ty _, huL, kit_list _, rfl, _, rfl, ?_⟩
      rw [decide_eq_true rfl]
      refine iteF ⟨_, rfl, .ref a, .ty "tuple", _, _, false, rfl, .ty _, hvL, kit_tuple _, _, rfl, .ref b, .ty "tuple", _, _, false, rfl, .ty _, huL, kit_tuple _, rfl, _, rfl, ?_⟩
      dsimp only
      rw [decide_eq_true rfl]
      refine iteF ?_
      have lx := ma.length
      have ly := mb.length
      refine ⟨_, rfl, a, xs, rfl, .inl (SqL.of ea), _, rfl, b, ys, rfl, .inl (SqL.of eb), rfl, _, rfl, ?_⟩
      rw [decide_eq_true (congrArg (fun z : Nat => V.int (z : Int)) (lx.trans ly.symm))]
      refine iteT ⟨_, rfl, b, ys, rfl, .inl (SqL.of eb), ((ys.length : Nat) : Int), rfl, by omega, by omega, fun D nD => ?_⟩
      rw [Int.toNat_natCast]
      refine lc_range (lo := 0) (n := ys.length) (fun i H3 => Same H1 H3 ∧ H3 D = some (.lst ((List.replicate i true).map V.bl))) ⟨same_new nD, upd_same⟩ ?_ ?_
      · rintro i H3 hi ⟨s3, e3⟩
        obtain ⟨x, dx, hx, hdx, tx⟩ := ma.at (i := i) (by omega)
        obtain ⟨y, dy, hy, hdy, ty⟩ := mb.at (i := i) (by omega)
        rw [hdx] at hdy
        cases hdy
        refine ⟨rfl, _, rfl, _, rfl, .inr ⟨a, xs, _, x, rfl, rfl, SqL.of (s3 _ _ ea), by rw [Int.zero_add]; exact atI_nat hx, _, rfl, _, rfl, .inr ⟨b, ys, _, y, rfl, rfl, SqL.of (s3 _ _ eb), by rw [Int.zero_add]; exact atI_nat hy, x, y, dx, rfl, tx.same s3, ty.same s3, h dx (List.mem_of_getElem? hdx), fun H4 s4 => ?_⟩⟩⟩
        have big : (100000 : Nat) < sizeLine := by decide
        refine ⟨_, s4 _ _ e3, by rw [List.length_map, List.length_replicate]; omega, same_push (s3.trans s4) nD, ?_⟩
        rw [upd_same, List.replicate_succ', List.map_append]
        rfl
      · rintro H3 ⟨s3, e3⟩
        refine ⟨D, List.replicate ys.length true, rfl, SqL.of e3, ?_⟩
        rw [show (List.replicate ys.length true).all id = true by simp]
        exact q H3 (s1.trans s3)
    | tup ds h l =>
      cases hv1 with
      | tup ea ma =>
      cases hu1 with
      | tup eb mb =>
      rename_i a xs b ys
      have hvL := (Th.tup ea ma).ty (K := K)
      have huL := (Th.tup eb mb).ty (K := K)
      refine iteT ?_
      refine ⟨_, rfl, .ref a, .ty "list", _, _, false, rfl, .ty _, hvL, kit_list _, _, rfl, .ref b, .ty "list", _, _, false, rfl, .ty _, huL, kit_list _, rfl, _, rfl, ?_⟩
      rw [decide_eq_true rfl]
      refine iteF ⟨_, rfl, .ref a, .ty "tuple", _, _, true, rfl, .ty _, hvL, kit_tuple _, _, rfl, .ref b, .ty "tuple", _, _, true, rfl, .ty _, huL, kit_tuple _, rfl, _, rfl, ?_⟩
      dsimp only
      rw [decide_eq_true rfl]
      refine iteF ?_
      have lx := ma.length
      have ly := mb.length
      refine ⟨_, rfl, a, xs, rfl, .inr (SqT.of ea), _, rfl, b, ys, rfl, .inr (SqT.of eb), rfl, _, rfl, ?_⟩
      rw [decide_eq_true (congrArg (fun z : Nat => V.int (z : Int)) (lx.trans ly.symm))]
      refine iteT ⟨_, rfl, b, ys, rfl, .inr (SqT.of eb), ((ys.length : Nat) : Int), rfl, by omega, by omega, fun D nD => ?_⟩
      rw [Int.toNat_natCast]
      refine lc_range (lo := 0) (n := ys.length) (fun i H3 => Same H1 H3 ∧ H3 D = some (.lst ((List.replicate i true).map V.bl))) ⟨same_new nD, upd_same⟩ ?_ ?_
      · rintro i H3 hi ⟨s3, e3⟩
        obtain ⟨x, dx, hx, hdx, tx⟩ := ma.at (i := i) (by omega)
        obtain ⟨y, dy, hy, hdy, ty⟩ := mb.at (i := i) (by omega)
        rw [hdx] at hdy
        cases hdy
        refine ⟨rfl, _, rfl, _, rfl, .inl ⟨a, xs, _, x, rfl, rfl, SqT.of (s3 _ _ ea), by rw [Int.zero_add]; exact atI_nat hx, _, rfl, _, rfl, .inl ⟨b, ys, _, y, rfl, rfl, SqT.of (s3 _ _ eb), by rw [Int.zero_add]; exact atI_nat hy, x, y, dx, rfl, tx.same s3, ty.same s3, h dx (List.mem_of_getElem? hdx), fun H4 s4 => ?_⟩⟩⟩
        have big : (100000 : Nat) < sizeLine := by decide
        refine ⟨_, s4 _ _ e3, by rw [List.length_map, List.length_replicate]; omega, same_push (s3.trans s4) nD, ?_⟩
        rw [upd_same, List.replicate_succ', List.map_append]
        rfl
      · rintro H3 ⟨s3, e3⟩
        refine ⟨D, List.replicate ys.length true, rfl, SqL.of e3, ?_⟩
        rw [show (List.replicate ys.length true).all id = true by simp]
        exact q H3 (s1.trans s3)
end
end Lk
end
section
set_option maxRecDepth 100000
set_option maxHeartbeats 2000000
/-! Any loops: the endless loop's words, how long the known ones are. -/
namespace Lk
open PySem PySem.Spec PyProof.Rows L2
/-- so many letters of the endless loop from a place on -/
def run (b : List Nat) (a n : Nat) : List Nat := (List.range n).map fun i => lat b (a + i)
theorem run_len (b : List Nat) (a n : Nat) : (run b a n).length = n := by
  unfold run
  rw [List.length_map, List.length_range]
theorem run_succ (b : List Nat) (a n : Nat) : run b a (n + 1) = run b a n ++ [lat b (a + n)] := by
  unfold run
  rw [List.range_succ, List.map_append]
  rfl
theorem run_at {b : List Nat} {a n i : Nat} (h : i < n) : (run b a n)[i]? = some (lat b (a + i)) := by
  unfold run
  rw [List.getElem?_map, List.getElem?_range h]
  rfl
theorem run_take {b : List Nat} {a m n : Nat} (h : m ≤ n) : (run b a n).take m = run b a m := by
  refine List.ext_getElem? fun i => ?_
  rw [List.getElem?_take]
  by_cases c : i < m
  · rw [if_pos c, run_at (Nat.lt_of_lt_of_le c h), run_at c]
  · rw [if_neg c, List.getElem?_eq_none (by rw [run_len]; omega)]
theorem rep_get : ∀ (n : Nat) {l : List Nat} {i : Nat}, i < n * l.length → (rep n l)[i]? = some (lat l i)
  | 0, l, i, h => by omega
  | n + 1, l, i, h => by
    have e : rep (n + 1) l = l ++ rep n l := by
      unfold rep
      rw [List.replicate_succ, List.flatten_cons]
    rw [e]
    have h2 : (n + 1) * l.length = n * l.length + l.length := by rw [Nat.add_mul, Nat.one_mul]
    by_cases c : i < l.length
    · rw [List.getElem?_append_left c, List.getElem?_eq_getElem c]
      unfold lat
      rw [Nat.mod_eq_of_lt c, getD_eq c]
    · rw [List.getElem?_append_right (by omega), rep_get n (by omega)]
      unfold lat
      have z : (i - l.length) % l.length = i % l.length := by
        rw [Nat.mod_eq_sub_mod (a := i) (by omega)]
      rw [z]
theorem sub_get {t : List Nat} {a e i : Nat} (h : i < e - a) (he : e ≤ t.length) : (sub t a e)[i]? = t[a + i]? := by
  unfold sub
  rw [List.getElem?_take, if_pos h, List.getElem?_drop]
theorem sub_rep {b : List Nat} {n a e : Nat} (ha : a ≤ e) (he : e ≤ n * b.length) : sub (rep n b) a e = run b a (e - a) := by
  have hl : (rep n b).length = n * b.length := rep_len n b
  refine List.ext_getElem? fun i => ?_
  by_cases c : i < e - a
  · rw [sub_get c (by omega), rep_get n (by omega), run_at c]
  · rw [List.getElem?_eq_none (by rw [sub_len ha (by omega)]; omega), List.getElem?_eq_none (by rw [run_len]; omega)]
/-- from a place on the longest known word of the endless loop has n letters -/
structure LN (ws : List (List Nat)) (b : List Nat) (a n : Nat) : Prop where
  all : ∀ j, 1 ≤ j → j ≤ n → run b a j ∈ ws
  no : run b a (n + 1) ∉ ws
theorem LN.uniq {ws : List (List Nat)} {b : List Nat} {a n m : Nat} (h : LN ws b a n) (k : LN ws b a m) : n = m := by
  rcases Nat.lt_trichotomy n m with c | c | c
  · exact absurd (k.all (n + 1) (by omega) (by omega)) h.no
  · exact c
  · exact absurd (h.all (m + 1) (by omega) (by omega)) k.no
/-- no more than there are words -/
theorem runs_le {ws : List (List Nat)} {b : List Nat} {a n : Nat} (h : ∀ j, 1 ≤ j → j ≤ n → run b a j ∈ ws) : n ≤ ws.length := by
  have z := few_len (ks := (List.range n).map fun j => run b a (j + 1)) (L := ws) ?_ ?_
  · rwa [List.length_map, List.length_range] at z
  · refine List.pairwise_map.mpr (List.Pairwise.imp (fun {i j} hij e => ?_) List.pairwise_lt_range)
    have z := congrArg List.length e
    rw [run_len, run_len] at z
    omega
  · intro y hy
    obtain ⟨j, hj, rfl⟩ := List.mem_map.mp hy
    exact h (j + 1) (by omega) (by have := List.mem_range.mp hj; omega)
theorem LN.le {ws : List (List Nat)} {b : List Nat} {a n : Nat} (h : LN ws b a n) : n ≤ ws.length := runs_le h.all
theorem room {p q : Nat} (hp : 0 < p) : q + p < (q / p + 2) * p := by
  have := Nat.div_add_mod q p
  have := Nat.mod_lt q hp
  rw [Nat.add_mul]
  have e : q / p * p = p * (q / p) := Nat.mul_comm _ _
  omega
/-- what longest_end finds of the loop said over is that -/
theorem LN.of {ws : List (List Nat)} {b : List Nat} {a e : Nat} (ha : a < b.length) (h : LE (([] : List Nat) :: ws) (rep (ws.length / b.length + 2) b) a e) : LN ws b a (e - a) := by
  have hl : (rep (ws.length / b.length + 2) b).length = (ws.length / b.length + 2) * b.length := rep_len _ b
  have hr := room (p := b.length) (q := ws.length) (by omega)
  have hle := h.le
  have hge := h.ge
  have all : ∀ j, 1 ≤ j → j ≤ e - a → run b a j ∈ ws := fun j j1 j2 => by
    have z := h.all (a + j) (by omega) (by omega)
    rw [sub_rep (by omega) (by omega), show a + j - a = j by omega] at z
    rcases List.mem_cons.mp z with y | y
    · have := congrArg List.length y
      rw [run_len] at this
      simp at this
      omega
    · exact y
  have few := runs_le all
  refine ⟨all, fun z => ?_⟩
  have y := h.no (by omega)
  rw [sub_rep (by omega) (by omega), show e + 1 - a = e - a + 1 by omega] at y
  exact y (List.mem_cons_of_mem _ z)
theorem LN.ex (ws : List (List Nat)) {b : List Nat} {a : Nat} (ha : a < b.length) : ∃ n, LN ws b a n := by
  have hl : (rep (ws.length / b.length + 2) b).length = (ws.length / b.length + 2) * b.length := rep_len _ b
  have hr := room (p := b.length) (q := ws.length) (by omega)
  obtain ⟨e, he⟩ := LE.ex (([] : List Nat) :: ws) (rep (ws.length / b.length + 2) b) a (by omega)
  exact ⟨_, LN.of ha he⟩
/-- the lengths on a loop -/
def LNs (ws : List (List Nat)) (b : List Nat) (ls : List Nat) : Prop := ls.length = b.length ∧ ∀ a, a < b.length → LN ws b a (ls.getD a 0)
theorem LNs.uniq {ws : List (List Nat)} {b : List Nat} {ls ms : List Nat} (h : LNs ws b ls) (k : LNs ws b ms) : ls = ms :=
  ext_getD (h.1.trans k.1.symm) fun i hi => (h.2 i (by rw [← h.1]; exact hi)).uniq (k.2 i (by rw [← h.1]; exact hi))
theorem LNs.le {ws : List (List Nat)} {b : List Nat} {ls : List Nat} (h : LNs ws b ls) : ∀ n ∈ ls, n ≤ ws.length := fun n hn => by
  obtain ⟨i, hi, e⟩ := List.getElem_of_mem hn
  have z := (h.2 i (by rw [← h.1]; exact hi)).le
  rw [getD_eq hi, e] at z
  exact z
/-! ### the least part -/
theorem lat_len (l : List Nat) (k : Nat) : lat l (k + l.length) = lat l k := by
  unfold lat
  rw [Nat.add_mod_right]
theorem per_dvd {l : List Nat} {d e : Nat} (h : IsPer l d) (he : ∀ k, lat l (k + e) = lat l k) : e % d = 0 := by
  refine Classical.byContradiction fun ne => ?_
  have p0 : 0 < l.length := Nat.lt_of_lt_of_le h.1 h.2.1
  have lt : e % d < d := Nat.mod_lt _ h.1
  refine h.2.2.2 (e % d) (by omega) lt ((rot_per p0).mpr fun k => ?_)
  have z := per_mul (per_of h) (e / d) (k + e % d)
  rw [← z, show k + e % d + d * (e / d) = k + e by have := Nat.mod_add_div e d; omega]
  exact he k
theorem part_per {l : List Nat} {part : Nat} (h1 : 1 ≤ part) (h2 : part < l.length) (hd : l.length % part = 0) (he : l.drop part = l.take (l.length - part)) : ∀ k, lat l (k + part) = lat l k := by
  have one : ∀ i, i + part < l.length → l.getD (i + part) 0 = l.getD i 0 := fun i hi => by
    have z := congrArg (fun y : List Nat => y[i]?) he
    simp only [List.getElem?_drop, List.getElem?_take] at z
    rw [if_pos (by omega), Nat.add_comm part i] at z
    rw [List.getD_eq_getElem?_getD, List.getD_eq_getElem?_getD, z]
  have many : ∀ m j, j + m * part < l.length → l.getD (j + m * part) 0 = l.getD j 0 := fun m => by
    induction m with
    | zero => intro j _; rw [Nat.zero_mul, Nat.add_zero]
    | succ m ih =>
      intro j hj
      rw [Nat.add_mul, Nat.one_mul, ← Nat.add_assoc] at hj ⊢
      rw [one _ hj]
      exact ih j (by omega)
  intro k
  unfold lat
  have hi : k % l.length < l.length := Nat.mod_lt _ (by omega)
  rw [Nat.add_mod k part, Nat.mod_eq_of_lt h2]
  generalize k % l.length = i at hi
  by_cases c : i + part < l.length
  · rw [Nat.mod_eq_of_lt c]
    exact one i c
  · have e : (i + part) % l.length = i + part - l.length := by
      rw [Nat.mod_eq_sub_mod (by omega), Nat.mod_eq_of_lt (by omega)]
    rw [e]
    obtain ⟨q, hq⟩ := Nat.dvd_of_mod_eq_zero hd
    have q1 : 1 ≤ q := by
      rcases Nat.eq_zero_or_pos q with z | z
      · rw [z] at hq; omega
      · exact z
    have z := many (q - 1) (i + part - l.length)
    have e2 : (q - 1) * part = l.length - part := by
      rw [Nat.mul_comm, Nat.mul_sub, ← hq, Nat.mul_one]
    rw [e2, show i + part - l.length + (l.length - part) = i by omega] at z
    exact (z hi).symm
theorem per_part {l : List Nat} {part : Nat} (h2 : part < l.length) (h : ∀ k, lat l (k + part) = lat l k) : l.drop part = l.take (l.length - part) := by
  refine List.ext_getElem? fun i => ?_
  rw [List.getElem?_drop, List.getElem?_take]
  by_cases c : i < l.length - part
  · rw [if_pos c, List.getElem?_eq_getElem (by omega), List.getElem?_eq_getElem (by omega)]
    have z := h i
    unfold lat at z
    rw [Nat.mod_eq_of_lt (by omega), Nat.mod_eq_of_lt (by omega), getD_eq (by omega), getD_eq (by omega)] at z
    rw [← z]
    exact congrArg some (by congr 1; omega)
  · rw [if_neg c, List.getElem?_eq_none (by omega)]
/-- what the law looks for is the root -/
theorem base_yes {l : List Nat} {d part : Nat} (h : IsPer l d) (h1 : 1 ≤ part) (h2 : part < l.length) (hn : ∀ j, 1 ≤ j → j < part → ¬ (l.length % j = 0 ∧ l.drop j = l.take (l.length - j))) (hd : l.length % part = 0 ∧ l.drop part = l.take (l.length - part)) : part = d := by
  have p0 : 0 < l.length := by omega
  rcases Nat.lt_trichotomy part d with c | c | c
  · exact absurd ((rot_per p0).mpr (part_per h1 h2 hd.1 hd.2)) (h.2.2.2 part h1 c)
  · exact c
  · exact absurd ⟨per_dvd h (lat_len l), per_part (by omega) (per_of h)⟩ (hn d h.1 c)
theorem base_no {l : List Nat} {d : Nat} (h : IsPer l d) (hn : ∀ j, 1 ≤ j → j < l.length → ¬ (l.length % j = 0 ∧ l.drop j = l.take (l.length - j))) : d = l.length := by
  rcases Nat.lt_or_ge d l.length with c | c
  · exact absurd ⟨per_dvd h (lat_len l), per_part c (per_of h)⟩ (hn d h.1 c)
  · exact Nat.le_antisymm h.2.1 c
theorem root_loop {l : List Nat} {d : Nat} (hl : isLoop l = true) (h : IsPer l d) : isLoop (l.take d) = true := by
  obtain ⟨az, l1, l12⟩ := isLoop_len hl
  have e : (l.take d).length = d := by rw [List.length_take]; exact Nat.min_eq_left h.2.1
  have h1 := h.1
  have h2 := h.2.1
  unfold isLoop
  rw [Bool.and_eq_true, Bool.and_eq_true, decide_eq_true_eq, decide_eq_true_eq, e]
  exact ⟨isAz_iff.mpr fun c hc => az c (List.mem_of_mem_take hc), h1, by omega⟩
end Lk
end
section
set_option maxRecDepth 100000
set_option maxHeartbeats 2000000
/-! Any loops: what is told. -/
namespace Lk
open PySem PySem.Spec PyProof.Rows L2
theorem tx_small {ws : List (List Nat)} (h : isKnown ws = true) : (([] : List Nat) :: ws).Nodup := by
  obtain ⟨h1, h2, _⟩ := isKnown_iff.mp h
  exact nodup0 h1 h2
/-- the lengths on a loop's root; NoKnown of what is none -/
def spKL (CK : Addr) : Sp := fun vs H Q E => ∃ b kv k1, vs = [.str (SX.S b), kv] ∧ isLoop b = true ∧ KnownV H kv k1 ∧ (k1 = false → ∀ H', Same H H' → E (.ref CK) none H') ∧
  (k1 = true → ∃ a ws, kv = .ref a ∧ H a = some (.tup (tx ws)) ∧ isKnown ws = true ∧ ws.length ≤ 5000 ∧ ∀ ls p H', LNs ws b ls → Same H H' → H' p = some (.tup (ls.map vN)) → Q (.ref p) H')
/-- NoLoop, then NoKnown; else what is told of the root's lengths -/
def spAny (CL CK : Addr) (T : List (List Nat) → List Nat → List Nat → VK → Hp → Prop) : Sp := fun vs H Q E => ∃ lv kv k0 k1, vs = [lv, kv] ∧ LoopV H lv k0 ∧ KnownV H kv k1 ∧ (k0 = false → ∀ H', Same H H' → E (.ref CL) none H') ∧
  (k0 = true → k1 = false → ∀ H', Same H H' → E (.ref CK) none H') ∧
  (k0 = true → k1 = true → ∃ l d a ws, lv = .str (SX.S l) ∧ isLoop l = true ∧ IsPer l d ∧ kv = .ref a ∧ H a = some (.tup (tx ws)) ∧ isKnown ws = true ∧ ws.length ≤ 5000 ∧ ∀ ls, LNs ws (l.take d) ls → T ws (l.take d) ls Q H)
def toldLens (_ : List (List Nat)) (_ ls : List Nat) (Q : VK) (H : Hp) : Prop := ∀ p H', Same H H' → H' p = some (.tup (ls.map vN)) → Q (.ref p) H'
theorem LNs.ex (ws : List (List Nat)) (b : List Nat) : ∃ ls, LNs ws b ls := by
  refine ⟨(List.range b.length).map fun a => if h : a < b.length then (LN.ex ws h).choose else 0, by rw [List.length_map, List.length_range], fun a ha => ?_⟩
  rw [List.getD_eq_getElem?_getD, List.getElem?_map, List.getElem?_range ha]
  show LN ws b a (if h : a < b.length then _ else 0)
  rw [dif_pos ha]
  exact (LN.ex ws ha).choose_spec
end Lk
end
section
set_option maxRecDepth 100000
set_option maxHeartbeats 4000000
/-! Learners: what stands on the heap where one stands. -/
namespace Lk
open PySem PySem.Spec PyProof.Rows L2
inductive Al2 {α β : Type} (R : α → β → Prop) : List α → List β → Prop
  | nil : Al2 R [] []
  | cons {a : α} {b : β} {as : List α} {bs : List β} (h : R a b) (t : Al2 R as bs) : Al2 R (a :: as) (b :: bs)
namespace Al2
variable {α β : Type} {R S : α → β → Prop}
theorem mono (h : ∀ a b, R a b → S a b) : ∀ {as : List α} {bs : List β}, Al2 R as bs → Al2 S as bs
  | _, _, .nil => .nil
  | _, _, .cons x t => .cons (h _ _ x) (mono h t)
theorem len : ∀ {as : List α} {bs : List β}, Al2 R as bs → as.length = bs.length
  | _, _, .nil => rfl
  | _, _, .cons _ t => congrArg (· + 1) t.len
theorem push {a : α} {b : β} (h : R a b) : ∀ {as : List α} {bs : List β}, Al2 R as bs → Al2 R (as ++ [a]) (bs ++ [b])
  | _, _, .nil => .cons h .nil
  | _, _, .cons x t => .cons x (push h t)
theorem get : ∀ {as : List α} {bs : List β}, Al2 R as bs → ∀ {i : Nat} {a : α}, as[i]? = some a → ∃ b, bs[i]? = some b ∧ R a b
  | _, _, .cons x t, 0, a, e => by
    cases e
    exact ⟨_, rfl, x⟩
  | _, _, .cons x t, i + 1, a, e => get t (by simpa using e)
theorem get' : ∀ {as : List α} {bs : List β}, Al2 R as bs → ∀ {i : Nat} {b : β}, bs[i]? = some b → ∃ a, as[i]? = some a ∧ R a b
  | _, _, .cons x t, 0, b, e => by
    cases e
    exact ⟨_, rfl, x⟩
  | _, _, .cons x t, i + 1, b, e => get' t (by simpa using e)
end Al2
/-! ### the fields -/
theorem f01 : (("_loop" : Str) = "_now") = False := by simp; decide +kernel
theorem f02 : (("_loop" : Str) = "_learnt") = False := by simp; decide +kernel
theorem f03 : (("_loop" : Str) = "_deeds") = False := by simp; decide +kernel
theorem f04 : (("_loop" : Str) = "_ahead") = False := by simp; decide +kernel
theorem f12 : (("_now" : Str) = "_learnt") = False := by simp; decide +kernel
theorem f13 : (("_now" : Str) = "_deeds") = False := by simp; decide +kernel
theorem f14 : (("_now" : Str) = "_ahead") = False := by simp; decide +kernel
theorem f23 : (("_learnt" : Str) = "_deeds") = False := by simp; decide +kernel
theorem f24 : (("_learnt" : Str) = "_ahead") = False := by simp; decide +kernel
theorem f34 : (("_deeds" : Str) = "_ahead") = False := by simp; decide +kernel
def flds (l : List Nat) (v : V) (n : Nat) (D A : Addr) : List (Str × V) := [("_loop", .str (SX.S l)), ("_now", v), ("_learnt", .int (n : Int)), ("_deeds", .ref D), ("_ahead", .ref A)]
theorem flds_mk {l : List Nat} {v : V} {n : Int} {m : Nat} {D A : Addr} (e : n = (m : Int)) : putF "_ahead" (.ref A) (putF "_deeds" (.ref D) (putF "_learnt" (.int n) (putF "_now" v (putF "_loop" (.str (SX.S l)) [])))) = flds l v m D A := by
  subst e
  simp only [putF, f01, f02, f03, f04, f12, f13, f14, f23, f24, f34, if_false, flds]
theorem flds_now {l : List Nat} {v u : V} {n : Nat} {D A : Addr} : putF "_now" u (flds l v n D A) = flds l u n D A := by
  simp only [putF, flds, f01, if_false, if_true]
theorem flds_learnt {l : List Nat} {v : V} {n : Nat} {m : Nat} {k : Int} {D A : Addr} (e : k = (m : Int)) : putF "_learnt" (.int k) (flds l v n D A) = flds l v m D A := by
  subst e
  simp only [putF, flds, f02, f12, if_false, if_true]
theorem get_at {α : Type} {x y : Str} {v : α} {r : List (Str × α)} (h : (x = y) = False) : List.lookup y ((x, v) :: r) = List.lookup y r := by
  have ne : ¬ x = y := fun z => h ▸ z
  have z : (y == x) = false := by
    rw [beq_eq_false_iff_ne]
    exact fun q => ne q.symm
  show (match y == x with | true => some v | false => List.lookup y r) = _
  rw [z]
theorem get_hit {α : Type} {y : Str} {v : α} {r : List (Str × α)} : List.lookup y ((y, v) :: r) = some v := by
  show (match y == y with | true => some v | false => List.lookup y r) = _
  rw [beq_self_eq_true]
section
variable {l : List Nat} {v : V} {n : Nat} {D A : Addr}
theorem fl_loop : List.lookup ("_loop" : Str) (flds l v n D A) = some (.str (SX.S l)) := get_hit
theorem fl_now : List.lookup ("_now" : Str) (flds l v n D A) = some v := (get_at f01).trans get_hit
theorem fl_learnt : List.lookup ("_learnt" : Str) (flds l v n D A) = some (.int (n : Int)) := (get_at f02).trans ((get_at f12).trans get_hit)
theorem fl_deeds : List.lookup ("_deeds" : Str) (flds l v n D A) = some (.ref D) := (get_at f03).trans ((get_at f13).trans ((get_at f23).trans get_hit))
theorem fl_ahead : List.lookup ("_ahead" : Str) (flds l v n D A) = some (.ref A) := (get_at f04).trans ((get_at f14).trans ((get_at f24).trans ((get_at f34).trans get_hit)))
theorem fl_no {m : Str} (h0 : (("_loop" : Str) = m) = False) (h1 : (("_now" : Str) = m) = False) (h2 : (("_learnt" : Str) = m) = False) (h3 : (("_deeds" : Str) = m) = False) (h4 : (("_ahead" : Str) = m) = False) : List.lookup m (flds l v n D A) = none :=
  (get_at h0).trans ((get_at h1).trans ((get_at h2).trans ((get_at h3).trans ((get_at h4).trans rfl))))
end
/-! ### what a Learner is -/
inductive Deed where
  | learn (n : Nat)
  | teach (w : List Nat)
/-- its loop, its coder, how many words it has learnt, and its deeds with what was ahead of each -/
structure Ln where
  loop : List Nat
  now : Cd
  n : Nat
  rows : List (Deed × Cd × Nat)
def DeedV (H : Hp) (u : V) (r : Deed × Cd × Nat) : Prop := ∃ a, u = .ref a ∧ H a = some (.tup (match r.1 with | .learn n => [.str "learn", .int (n : Int)] | .teach w => [.str "teach", .str (SX.S w)]))
def RowV (H : Hp) (u : V) (r : Deed × Cd × Nat) : Prop := ∃ a v, u = .ref a ∧ H a = some (.tup [v, .int (r.2.2 : Int)]) ∧ Cat H v r.2.1
structure LnAt (C : Addr) (H : Hp) (p D A : Addr) (x : Ln) : Prop where
  ob : ∃ dx v, H p = some (.ins C dx (flds x.loop v x.n D A)) ∧ Cat H v x.now
  dd : ∃ us, H D = some (.lst us) ∧ Al2 (DeedV H) us x.rows
  ah : ∃ us, H A = some (.lst us) ∧ Al2 (RowV H) us x.rows
  ne : D ≠ A
/-- all else is as it was -/
def Rest (p D A : Addr) (H H' : Hp) : Prop := ∀ b o, H b = some o → b ≠ p → b ≠ D → b ≠ A → H' b = some o
theorem Rest.refl {p D A : Addr} {H : Hp} : Rest p D A H H := fun _ _ e _ _ _ => e
theorem Rest.trans {p D A : Addr} {H H1 H2 : Hp} (a : Rest p D A H H1) (b : Rest p D A H1 H2) : Rest p D A H H2 := fun x o e h1 h2 h3 => b x o (a x o e h1 h2 h3) h1 h2 h3
theorem Rest.of {p D A : Addr} {H H1 : Hp} (s : Same H H1) : Rest p D A H H1 := fun x o e _ _ _ => s x o e
theorem Rest.upd {p D A q : Addr} {H H1 : Hp} {o : HO} (s : Rest p D A H H1) (hq : q = p ∨ q = D ∨ q = A ∨ H q = none) : Rest p D A H (L2.upd H1 q o) := fun x y e h1 h2 h3 => by
  have ne : x ≠ q := by
    rintro rfl
    rcases hq with rfl | rfl | rfl | z
    · exact h1 rfl
    · exact h2 rfl
    · exact h3 rfl
    · rw [z] at e
      cases e
  rw [upd_ne ne]
  exact s x y e h1 h2 h3
/-- a new learner's deeds change nothing that stood ahead of it -/
theorem Rest.same {p D A : Addr} {H0 H H1 : Hp} (r : Rest p D A H H1) (s : Same H0 H) (hp : H0 p = none) (hD : H0 D = none) (hA : H0 A = none) : Same H0 H1 := fun b o e => r b o (s b o e) (ne_of_none e hp) (ne_of_none e hD) (ne_of_none e hA)
theorem tup_ne {H : Hp} {a b : Addr} {xs : List V} {o : HO} (h : H a = some (.tup xs)) (k : H b = some o) (no : ∀ ys, o ≠ .tup ys) : a ≠ b := by
  rintro rfl
  rw [h] at k
  exact no xs (Option.some.inj k).symm
/-- what is told by tuples stays where only a learner changes -/
def Tups (H H' : Hp) : Prop := ∀ a xs, H a = some (.tup xs) → H' a = some (.tup xs)
theorem Tups.cat {H H' : Hp} (t : Tups H H') {v : V} {c : Cd} (h : Cat H v c) : Cat H' v c := by
  obtain ⟨a, b, e, h1, h2⟩ := h
  exact ⟨a, b, e, t _ _ h1, t _ _ h2⟩
theorem Tups.row {H H' : Hp} (t : Tups H H') {u : V} {r : Deed × Cd × Nat} (h : RowV H u r) : RowV H' u r := by
  obtain ⟨a, v, e, h1, h2⟩ := h
  exact ⟨a, v, e, t _ _ h1, t.cat h2⟩
theorem Tups.deed {H H' : Hp} (t : Tups H H') {u : V} {r : Deed × Cd × Nat} (h : DeedV H u r) : DeedV H' u r := by
  obtain ⟨a, e, h1⟩ := h
  exact ⟨a, e, t _ _ h1⟩
theorem Tups.of {H H' : Hp} (s : Same H H') : Tups H H' := fun a xs e => s a _ e
theorem Tups.trans {H H1 H2 : Hp} (a : Tups H H1) (b : Tups H1 H2) : Tups H H2 := fun x xs e => b x xs (a x xs e)
theorem LnAt.tups {C : Addr} {H H' : Hp} {p D A : Addr} {x : Ln} (L : LnAt C H p D A x) (r : Rest p D A H H') : Tups H H' := fun a xs e => by
  obtain ⟨dx, v, hp, _⟩ := L.ob
  obtain ⟨us, hD, _⟩ := L.dd
  obtain ⟨ts, hA, _⟩ := L.ah
  exact r a _ e (tup_ne e hp (fun _ z => nomatch z)) (tup_ne e hD (fun _ z => nomatch z)) (tup_ne e hA (fun _ z => nomatch z))
theorem LnAt.same {C : Addr} {H H' : Hp} {p D A : Addr} {x : Ln} (L : LnAt C H p D A x) (s : Same H H') : LnAt C H' p D A x := by
  obtain ⟨⟨dx, v, h1, h2⟩, ⟨us, h3, h4⟩, ⟨ts, h5, h6⟩, ne⟩ := L
  have t := Tups.of s
  exact ⟨⟨dx, v, s _ _ h1, h2.same s⟩, ⟨us, s _ _ h3, h4.mono fun _ _ z => t.deed z⟩, ⟨ts, s _ _ h5, h6.mono fun _ _ z => t.row z⟩, ne⟩
/-! ### what is told of one -/
def Ln.learn (x : Ln) (k : Nat) : Ln := ⟨x.loop, it k x.now, x.n + k, x.rows ++ [(.learn k, x.now, x.n)]⟩
def Ln.teach (x : Ln) (w : List Nat) (a : Nat) : Ln := ⟨x.loop, (x.now.1, x.now.2.set a (x.now.2.getD a 0 + 1)), x.n, x.rows ++ [(.teach w, x.now, x.n)]⟩
/-- the row that the word of this number was learnt by -/
def Ln.row (x : Ln) (k : Nat) : Option (Deed × Cd × Nat) := (x.rows.filter fun r => decide (r.2.2 < k)).getLast?
/-- where in the loop the word stands -/
def standsAt (l w : List Nat) (k : Nat) : Bool := decide (w.head? = l[k]?) && decide (run l k w.length = w)
def placeOf (l w : List Nat) : Option Nat := (List.range l.length).find? (standsAt l w)
theorem place_some {l w : List Nat} {i : Nat} (hi : i < l.length) (h : standsAt l w i = true) (no : ∀ k, k < i → standsAt l w k = false) : placeOf l w = some i := by
  unfold placeOf
  rw [List.find?_range_eq_some]
  exact ⟨h, List.mem_range.mpr hi, fun j hj => by rw [no j hj]; rfl⟩
theorem place_none {l w : List Nat} (no : ∀ k, k < l.length → standsAt l w k = false) : placeOf l w = none := by
  unfold placeOf
  rw [List.find?_range_eq_none]
  exact fun j hj => by rw [no j hj]; rfl
theorem place_run {l : List Nat} {k n : Nat} (nd : l.Nodup) (hk : k < l.length) (hn : 0 < n) : placeOf l (run l k n) = some k := by
  have hd : (run l k n).head? = l[k]? := by
    rw [List.head?_eq_getElem?, run_at hn]
    show some (lat l (k + 0)) = _
    unfold lat
    rw [Nat.add_zero, Nat.mod_eq_of_lt hk, List.getElem?_eq_getElem hk]
    rw [getD_eq hk]
  refine place_some hk (by unfold standsAt; rw [decide_eq_true hd, run_len, decide_eq_true rfl]; rfl) fun j hj => ?_
  have ne : ¬ (run l k n).head? = l[j]? := by
    rw [hd]
    intro z
    rw [List.getElem?_eq_getElem hk, List.getElem?_eq_getElem (Nat.lt_trans hj hk)] at z
    have e := (List.getElem_inj nd).mp (Option.some.inj z)
    omega
  unfold standsAt
  rw [decide_eq_false ne]
  rfl
def optV : Option Nat → V
  | some k => .int (k : Int)
  | none => .non
/-- so many letters of the loop said for ever -/
def spFrom : Sp := fun vs H Q _ => ∃ (l : List Nat) (x n : Nat), vs = [.str (SX.S l), .int (x : Int), .int (n : Int)] ∧ x < l.length ∧ l.length ≤ 12 ∧ n ≤ 50000 ∧ Q (.str (SX.S (run l x n))) H
def spPlaceOf : Sp := fun vs H Q _ => ∃ (l : List Nat) (v : V) (b : Bool), vs = [.str (SX.S l), v] ∧ 0 < l.length ∧ l.length ≤ 12 ∧ WordV H v b ∧ (∀ w, v = .str (SX.S w) → w.length ≤ 50000) ∧ (b = false → ∀ H', Same H H' → Q .non H') ∧ (b = true → ∀ w, v = .str (SX.S w) → isWord w = true → ∀ H', Same H H' → Q (optV (placeOf l w)) H')
/-- a count that is one -/
def spCountG : Sp := fun vs H Q _ => ∃ v d a b, vs = [v, .int a, .int b] ∧ Th H v d ∧ inR d a b = true ∧ Q .non H
end Lk
namespace Lk
open PySem PySem.Spec PyProof.Rows L2
/-- what the walk asks of the class as the top has made it -/
structure LT (K : PySem.W.Frag) (C : Addr) : Prop where
  cl : Cls K C
  n0 : NoAttr K C "_loop"
  n1 : NoAttr K C "_now"
  n2 : NoAttr K C "_learnt"
  n3 : NoAttr K C "_deeds"
  n4 : NoAttr K C "_ahead"
def spInit (C : Addr) : Sp := fun vs H Q _ => ∃ (p dx kp : Addr) (l : List Nat) (ws : List (List Nat)) (ls : List Nat) (s : Nat), vs = [.ref p, .str (SX.S l), .ref kp, .int (s : Int)] ∧ H p = some (.ins C dx []) ∧ isLoop l = true ∧ l.Nodup ∧
  H kp = some (.tup (tx ws)) ∧ isKnown ws = true ∧ ws.length ≤ 5000 ∧ (∀ x ∈ ws, x.length ≤ 100000) ∧ LNs ws l ls ∧ s < l.length ∧
  ∀ D A H', H D = none → H A = none → LnAt C H' p D A ⟨l, (s, ls), 0, []⟩ → (∀ b o, H b = some o → b ≠ p → H' b = some o) → Q .non H'
def spKeep (C : Addr) : Sp := fun vs H Q _ => ∃ (p D A : Addr) (x : Ln) (u : V) (d : Deed), vs = [.ref p, u] ∧ LnAt C H p D A x ∧ DeedV H u (d, x.now, x.n) ∧ x.rows.length ≤ 100000 ∧
  ∀ H', LnAt C H' p D A ⟨x.loop, x.now, x.n, x.rows ++ [(d, x.now, x.n)]⟩ → Rest p D A H H' → Q .non H'
def spLearnL (C : Addr) : Sp := fun vs H Q _ => ∃ (p D A : Addr) (x : Ln) (n : Nat), vs = [.ref p, .int (n : Int)] ∧ LnAt C H p D A x ∧ CdOk x.now ∧ 1 ≤ n ∧ n ≤ 1000000000000000000 ∧ x.rows.length ≤ 100000 ∧
  ∀ H', LnAt C H' p D A (x.learn n) → Rest p D A H H' → Q .non H'
def spTeachL (C : Addr) : Sp := fun vs H Q _ => ∃ (p D A : Addr) (x : Ln) (w : List Nat) (a : Nat), vs = [.ref p, .str (SX.S w)] ∧ LnAt C H p D A x ∧ 0 < x.loop.length ∧ x.loop.length ≤ 12 ∧ x.now.2.length = x.loop.length ∧ isWord w = true ∧ w.length ≤ 50000 ∧
  placeOf x.loop w = some a ∧ a < x.now.2.length ∧ w.length = x.now.2.getD a 0 + 1 ∧ x.rows.length ≤ 100000 ∧
  ∀ H', LnAt C H' p D A (x.teach w a) → Rest p D A H H' → Q .non H'
def spCoderL (C : Addr) : Sp := fun vs H Q _ => ∃ (p D A : Addr) (x : Ln), vs = [.ref p] ∧ LnAt C H p D A x ∧ ∀ v, Cat H v x.now → Q v H
def spCountL (C : Addr) : Sp := fun vs H Q _ => ∃ (p D A : Addr) (x : Ln), vs = [.ref p] ∧ LnAt C H p D A x ∧ Q (.int (x.n : Int)) H
def spWordL (C : Addr) : Sp := fun vs H Q _ => ∃ (p D A : Addr) (x : Ln) (n : Nat) (r : Deed × Cd × Nat), vs = [.ref p, .int (n : Int)] ∧ LnAt C H p D A x ∧ 1 ≤ n ∧ n ≤ x.n ∧ x.rows.length ≤ 100000 ∧ x.row n = some r ∧ CdOk r.2.1 ∧ r.2.2 < n ∧ n - r.2.2 ≤ 1000000000000000000 ∧
  ∀ q H', Same H H' → H' q = some (.tup [.int ((wd (it (n - r.2.2 - 1) r.2.1)).1 : Int), .int ((wd (it (n - r.2.2 - 1) r.2.1)).2 : Int)]) → Q (.ref q) H'
/-- whether the word is known -/
def Ln.knows (x : Ln) (w : List Nat) : Bool := match placeOf x.loop w with
  | some a => decide (w.length ≤ x.now.2.getD a 0)
  | none => false
def spKnowsL (C : Addr) : Sp := fun vs H Q _ => ∃ (p D A : Addr) (x : Ln) (v : V) (b : Bool), vs = [.ref p, v] ∧ LnAt C H p D A x ∧ 0 < x.loop.length ∧ x.loop.length ≤ 12 ∧ x.now.2.length = x.loop.length ∧ WordV H v b ∧ (∀ w, v = .str (SX.S w) → w.length ≤ 50000) ∧
  (b = false → ∀ H', Same H H' → Q (.bl false) H') ∧ (b = true → ∀ w, v = .str (SX.S w) → isWord w = true → ∀ H', Same H H' → Q (.bl (x.knows w)) H')
end Lk
namespace Lk
open PySem PySem.Spec PyProof.Rows L2
theorem atI_last {α : Type} {xs : List α} {v : α} (h : xs.getLast? = some v) : atI xs (-1) = some v := by
  unfold atI ixN
  have h0 : 0 < xs.length := by
    cases xs with
    | nil => cases h
    | cons => exact Nat.succ_pos _
  rw [List.getLast?_eq_getElem?] at h
  rw [if_neg (by decide), if_pos (by omega), show (-1 + (xs.length : Int)).toNat = xs.length - 1 by omega]
  exact h
theorem place_lt {l w : List Nat} {a : Nat} (h : placeOf l w = some a) : a < l.length := by
  unfold placeOf at h
  rw [List.find?_range_eq_some] at h
  exact List.mem_range.mp h.2.1
theorem Al2.last {α β : Type} {R : α → β → Prop} {as : List α} {bs : List β} (h : Al2 R as bs) {b : β} (e : bs.getLast? = some b) : ∃ a, as.getLast? = some a ∧ R a b := by
  rw [List.getLast?_eq_getElem?] at e
  obtain ⟨a, e2, r⟩ := h.get' e
  refine ⟨a, ?_, r⟩
  rw [List.getLast?_eq_getElem?, h.len]
  exact e2
/-- the coder and the number told anew -/
theorem LnAt.put {C : Addr} {H H1 : Hp} {p D A : Addr} {x : Ln} (L : LnAt C H p D A x) (s : Same H H1) (dx : Addr) {v : V} {c : Cd} (hv : Cat H1 v c) (n : Nat) :
    LnAt C (upd H1 p (.ins C dx (flds x.loop v n D A))) p D A ⟨x.loop, c, n, x.rows⟩ ∧ Rest p D A H (upd H1 p (.ins C dx (flds x.loop v n D A))) := by
  have r : Rest p D A H1 (upd H1 p (.ins C dx (flds x.loop v n D A))) := Rest.refl.upd (.inl rfl)
  have L1 := L.same s
  have tp := L1.tups r
  obtain ⟨⟨dy, u, hp, hu⟩, ⟨ds, hD, aD⟩, ⟨as, hA, aA⟩, ne⟩ := L1
  have npD : D ≠ p := (ne_of hp hD (by intro z; cases z)).symm
  have npA : A ≠ p := (ne_of hp hA (by intro z; cases z)).symm
  exact ⟨⟨⟨dx, v, upd_same, tp.cat hv⟩, ⟨ds, (upd_ne npD).trans hD, aD.mono fun _ _ z => tp.deed z⟩, ⟨as, (upd_ne npA).trans hA, aA.mono fun _ _ z => tp.row z⟩, ne⟩, (Rest.of s).trans r⟩
end Lk
end
section
set_option maxRecDepth 100000
set_option maxHeartbeats 2000000
namespace Lk
open PySem PySem.Spec PyProof.Rows L2
section
variable {P : Program} {w : World} {K : PySem.W.Frag} {mg : Str → Option Value} {base : Heap}
end
section
variable {P : Program} {w : World} {K : PySem.W.Frag} {mg : Str → Option Value} {base : Heap}
end
/-- of what is known and a text: refused, or R of what is told -/
def spT (CK CT : Addr) (R : List (List Nat) → List Nat → List (List Nat) → Nat → Hp → Hp → V → Prop) : Sp := fun vs H Q E => ∃ kv tv b1 b2, vs = [kv, tv] ∧ KnownV H kv b1 ∧ TextV H tv b2 ∧ (b1 = false → ∀ H', Same H H' → E (.ref CK) none H') ∧ (b1 = true → b2 = false → ∀ H', Same H H' → E (.ref CT) none H') ∧
  (b1 = true → b2 = true → ∀ a ws t, kv = .ref a → H a = some (.tup (tx ws)) → isKnown ws = true → tv = .str (SX.S t) → ∀ ns r, Reads ([] :: ws) t 0 ns r → ∀ v H', Same H H' → R ws t ns r H H' v → Q v H')
def RCut (ws : List (List Nat)) (t : List Nat) (ns : List (List Nat)) (r : Nat) (H H' : Hp) (v : V) : Prop := ∃ p L, v = .ref p ∧ H p = none ∧ H L = none ∧ H' p = some (.tup [.ref L, .str (SX.S (t.drop r))]) ∧ H' L = some (.lst (tx ns))
theorem none_of {H H' : Hp} {p : Addr} (s : Same H H') (h : H' p = none) : H p = none := by
  cases e : H p with
  | none => rfl
  | some o => rw [s _ _ e] at h; cases h
section
variable {P : Program} {w : World} {K : PySem.W.Frag} {mg : Str → Option Value} {base : Heap}
/-- the pair of a new word -/
def pairV (ws ns : List (List Nat)) (l : List Nat) : List V := [.int ((([] :: ws) ++ ns).idxOf (l.take (l.length - 1)) : Nat), .str (SX.S (l.drop (l.length - 1)))]
def RPairs (ws : List (List Nat)) (t : List Nat) (ns : List (List Nat)) (r : Nat) (H H' : Hp) (v : V) : Prop := ∃ (L : Addr) (ps : List Addr), v = .ref L ∧ H L = none ∧ H' L = some (.lst (ps.map V.ref)) ∧ ps.length = ns.length ∧ (∀ q ∈ ps, H q = none) ∧
  ∀ (j : Nat) (q : Addr) (l : List Nat), ps[j]? = some q → ns[j]? = some l → H' q = some (.tup (pairV ws ns l))
abbrev nPw : List Str := ["known", "text", "numbers", "_", "word"]
end
theorem num_at : ∀ (n : Nat) (ws : List (List Nat)) (i : Nat) (k : Key) (v : V), (numFrom n ws)[i]? = some (k, v) → ∃ l, ws[i]? = some l ∧ k = Sum.inr (SX.S l)
  | _, [], i, k, v, h => by cases i <;> cases h
  | n, w :: r, 0, k, v, h => by
    have e : ((Sum.inr (SX.S w) : Key), V.int (n : Nat)) = (k, v) := Option.some.inj h
    exact ⟨w, rfl, (congrArg Prod.fst e).symm⟩
  | n, w :: r, i + 1, k, v, h => num_at (n + 1) r i k v h
/-- slot i's truth, as a test -/
def tFull (K : PySem.W.Frag) (i : Nat) : TT := fun σ H Q => tVar i σ H fun x H' => ∃ k, TruV K x H' k ∧ Q k H'
def fullT (l : List Nat) : Bool := decide (0 < l.length)
theorem full_words {ws : List (List Nat)} (h : ∀ l ∈ ws, l ≠ []) : (([] : List Nat) :: ws).filter fullT = ws := by
  rw [List.filter_cons_of_neg (by decide)]
  exact List.filter_eq_self.mpr fun l hl => decide_eq_true (List.length_pos_iff.mpr (h l hl))
def RBehind (ws : List (List Nat)) (t : List Nat) (ns : List (List Nat)) (r : Nat) (H H' : Hp) (v : V) : Prop := ∃ p us, v = .ref p ∧ H p = none ∧ H' p = some (.tup (tx us)) ∧ us.Perm (ws ++ ns) ∧ sortedS (us.map SX.S) = true
section
variable {P : Program} {w : World} {K : PySem.W.Frag} {mg : Str → Option Value} {base : Heap}
end
/-- what is neither a number nor a truth -/
inductive NoInt (H : Hp) : V → Prop where
  | non : NoInt H .non
  | str (z : Str) : NoInt H (.str z)
  | lst {a : Addr} {xs : List V} (e : H a = some (.lst xs)) : NoInt H (.ref a)
  | tup {a : Addr} {xs : List V} (e : H a = some (.tup xs)) : NoInt H (.ref a)
  | dK {a : Addr} {kvs : List (Key × V)} (e : H a = some (.dK kvs)) : NoInt H (.ref a)
theorem NoInt.same {H H' : Hp} {v : V} (h : NoInt H v) (s : Same H H') : NoInt H' v := by
  cases h with
  | non => exact .non
  | str z => exact .str z
  | lst e => exact .lst (s _ _ e)
  | tup e => exact .tup (s _ _ e)
  | dK e => exact .dK (s _ _ e)
theorem NoInt.ty {K : PySem.W.Frag} {H : Hp} {v : V} (h : NoInt H v) : ∃ n, TyX K H v (.type n) ∧ kitB n "int" = some false := by
  cases h with
  | non => exact ⟨"NoneType", .base .non, by decide +kernel⟩
  | str z => exact ⟨"str", .base (.str z), by decide +kernel⟩
  | lst e => exact ⟨"list", .base (.lst e), by decide +kernel⟩
  | tup e => exact ⟨"tuple", .base (.tup e), by decide +kernel⟩
  | dK e => exact ⟨"dict", .base (.dK e), by decide +kernel⟩
/-- v as a whole number, or none -/
inductive WholeV (H : Hp) : V → Option Int → Prop where
  | int (i : Int) : WholeV H (.int i) (some i)
  | bl (b : Bool) : WholeV H (.bl b) none
  | oth {v : V} (h : NoInt H v) : WholeV H v none
theorem WholeV.same {H H' : Hp} {v : V} {o : Option Int} (h : WholeV H v o) (s : Same H H') : WholeV H' v o := by
  cases h with
  | int i => exact .int i
  | bl b => exact .bl b
  | oth h => exact .oth (h.same s)
theorem WholeV.is {H : Hp} {v : V} {i : Int} (h : WholeV H v (some i)) : v = .int i := by
  cases h
  rfl
/-- whether v is one letter is b -/
inductive OneV (H : Hp) : V → Bool → Prop where
  | str (l : List Nat) (h : l.length ≤ 100000) : OneV H (.str (SX.S l)) (isAz l && decide (l.length = 1))
  | oth {v : V} (h : NoStr H v) : OneV H v false
theorem OneV.same {H H' : Hp} {v : V} {b : Bool} (h : OneV H v b) (s : Same H H') : OneV H' v b := by
  cases h with
  | str l z => exact .str l z
  | oth z => exact .oth (z.same s)
def inB (o : Option Int) (m : Int) : Bool := match o with
  | none => false
  | some i => decide (0 ≤ i) && decide (i < m)
/-- is_pair of v, with so many known texts, is b -/
inductive PairV (H : Hp) (m : Int) : V → Bool → Prop where
  | no {v : V} (h : NoTup H v) : PairV H m v false
  | long {a : Addr} {xs : List V} (e : H a = some (.tup xs)) (hl : xs.length ≠ 2) (hz : xs.length ≤ 100000) : PairV H m (.ref a) false
  | two {a : Addr} {x y : V} {o : Option Int} {b : Bool} (e : H a = some (.tup [x, y])) (hx : WholeV H x o) (hy : OneV H y b) : PairV H m (.ref a) (inB o m && b)
section
variable {P : Program} {w : World} {K : PySem.W.Frag} {mg : Str → Option Value} {base : Heap}
def spWholeT : Sp := fun vs H Q _ => ∃ v o, vs = [v] ∧ WholeV H v o ∧ Q (.bl o.isSome) H
def spPair : Sp := fun vs H Q _ => ∃ v m b, vs = [v, .int m] ∧ PairV H m v b ∧ ∀ H', Same H H' → Q (.bl b) H'
def spWithinW : Sp := fun vs H Q _ => ∃ (v : V) (o : Option Int) (m : Int), vs = [v, .int 0, .int (m - 1)] ∧ WholeV H v o ∧ Q (.bl (inB o m)) H
end
/-- a row of pairs that tells new words, one behind the other -/
inductive GoodR : List (List Nat) → List (Nat × Nat) → List (List Nat) → Prop where
  | nil (W : List (List Nat)) : GoodR W [] []
  | cons {W : List (List Nat)} {n c : Nat} {l : List Nat} {r : List (Nat × Nat)} {ns : List (List Nat)} (h : W[n]? = some l) (hc : 97 ≤ c ∧ c ≤ 122) (hn : l ++ [c] ∉ W) (hr : GoodR (W ++ [l ++ [c]]) r ns) : GoodR W ((n, c) :: r) ((l ++ [c]) :: ns)
theorem tx_snoc (W : List (List Nat)) (l : List Nat) : tx (W ++ [l]) = tx W ++ [V.str (SX.S l)] := by
  rw [tx, tx, List.map_append]
  rfl
theorem joinL_nil : ∀ l : List (List Nat), TL.joinL [] l = l.flatten
  | [] => rfl
  | [a] => by simp [TL.joinL]
  | a :: b :: r => by
    show a ++ ([] ++ TL.joinL [] (b :: r)) = _
    rw [joinL_nil (b :: r)]
    rfl
theorem join_tx (ns : List (List Nat)) : Txt.join (Str.ofString "") (ns.map SX.S) = SX.S ns.flatten := by
  have h := SX.join_S [] ns
  rw [joinL_nil] at h
  exact h
section
variable {P : Program} {w : World} {K : PySem.W.Frag} {mg : Str → Option Value} {base : Heap}
abbrev nQ : List Str := ["known", "row", "words", "numbers", "at", "pair", "number", "letter", "word"]
/-- where each pair tells a new word -/
def spReadP (CK : Addr) : Sp := fun vs H Q E => ∃ kv L b1, vs = [kv, .ref L] ∧ KnownV H kv b1 ∧ (b1 = false → ∀ H', Same H H' → E (.ref CK) none H') ∧
  (b1 = true → ∀ a ws, kv = .ref a → H a = some (.tup (tx ws)) → isKnown ws = true → ∃ (ps : List Addr) (prs : List (Nat × Nat)) (ns : List (List Nat)), H L = some (.lst (ps.map V.ref)) ∧ ps.length = prs.length ∧ prs.length ≤ 10000 ∧
    (∀ (j : Nat) (q : Addr) (n c : Nat), ps[j]? = some q → prs[j]? = some (n, c) → H q = some (.tup [.int (n : Nat), .str (SX.S [c])])) ∧ GoodR ([] :: ws) prs ns ∧ ns.flatten.length ≤ 10000000 ∧ ∀ v H', v = .str (SX.S ns.flatten) → Same H H' → Q v H')
end

end Lk
end
section
set_option maxRecDepth 100000
set_option maxHeartbeats 4000000
namespace Lk
open PySem PySem.Spec PyProof.Rows L2
def spLaw (K : PySem.W.Frag) : Sp := fun vs H Q _ => ∃ (a : Addr) (ns : List Int), vs = [.ref a] ∧ SqL K H a (ns.map V.int) ∧ ns.length ≤ 63 ∧ ∀ H', Q (.bl true) H'
abbrev nL : List Str := ["script", "k", "pail", "coder", "spot", "lengths", "at", "some", "one", "text", "kept"]
structure LCalls (P : Program) (w : World) (K : PySem.W.Frag) (mg : Str → Option Value) (base : Heap) (CE : Addr) : Prop where
  pail : C8.Cal P w K mg base 1 "_law_pail" (spPot K) []
  dip : C8.Cal P w K mg base 1 "_law_dip" spPull []
  coder : C8.Cal P w K mg base 2 "_law_coder" spCoderW []
  written : C8.Cal P w K mg base 1 "_law_written" spWritten []
  show_ : CalX P w K mg base 5 "show_coder" (spOne CE toldShow)
  read : C8.Cal P w K mg base 4 "read_coder" spReadC []
  same : C8.Cal P w K mg base 5 "_law_same" (spSameP (Okd 4)) []
  range : mg "range" = none
  len : mg "len" = none
  max : mg "max" = none
  min : mg "min" = none
  repr : mg "repr" = none
section
variable {P : Program} {w : World} {K : PySem.W.Frag} {mg : Str → Option Value} {base : Heap}
theorem use_show {CE : Addr} {H : Hp} {v : V} {c : Cd} {Q : VK} {E : XK} (cat : Cat H v c) (hc : CdOk c) (sm : ∀ n ∈ c.2, n < 10 ^ 45) (q : ∀ H', Same H H' → Q (.str (SX.S (showL c))) H') : spOne CE toldShow [v] H Q E :=
  ⟨v, cdD c, rfl, cat.th, (fun hd => by rw [isCd_cdD hc] at hd; cases hd), (fun d e hd => by
    have z : c = d := by
      have y := eqv_cd c d
      rw [e, SeqAt.eqv_refl _ (lay_cd d)] at y
      exact of_decide_eq_true y.symm
    subst z
    exact ⟨sm, q⟩)⟩
def Tups' (H H' : Hp) : Prop := ∀ t xs, H t = some (.tup xs) → H' t = some (.tup xs)
theorem catT {H H' : Hp} (t : Tups' H H') {v : V} {c : Cd} (h : Cat H v c) : Cat H' v c := by
  obtain ⟨a, b, e, h1, h2⟩ := h
  exact ⟨a, b, e, t _ _ h1, t _ _ h2⟩
def GoodC (c : Cd) : Prop := CdOk c ∧ ∀ n ∈ c.2, n < 10 ^ 40
theorem GoodC.big {c : Cd} (g : GoodC c) : ∀ n ∈ c.2, n < 10 ^ 45 := fun n hn => Nat.lt_trans (g.2 n hn) (by decide +kernel)
theorem sc_law : FnScope nL ["script"] (defScope s_law) := ⟨rfl, rfl, rfl, by decide +kernel, rfl, by decide +kernel, by decide +kernel⟩
theorem ok_law {f CE : Addr} {fd : FuncData} (F : Fun K "law" "law" s_law f fd) (T : LCalls P w K mg base CE) : FnG P w K mg base CX0 8 f fd ["script"] (spLaw K) := by
  refine fnG F sc_law (fun {vs H Q E} h => ?_) (fun cdv A0 outer s H vs Q E gA hr h => ?_)
  · obtain ⟨a, ns, rfl, _⟩ := h
    rfl
  · obtain ⟨a, ns, rfl, hS, h63, q⟩ := h
    have nd := sc_law.nd
    have hun := hr.un
    have hu : (A0.deeper (envOfC "law" (defScope s_law) s.heap.objs.size f cdv)).units + 100 < cLine := by omega
    have hu64 : (A0.deeper (envOfC "law" (defScope s_law) s.heap.objs.size f cdv)).units + 64 < cLine := by omega
    refine ⟨_, (pss_cons (by exact (ps_for PassesOwn.never rfl (pi_range1 (by rfl) T.range (pa_cons (pe_callB (call_max2 rfl) (by rfl) T.max (by decide +kernel) (pa_cons pe_int (pa_cons (pe_callB (call_min2 rfl) (by rfl) T.min (by decide +kernel) (pa_cons pe_int (pa_cons (pe_callB call_len_seq (by rfl) T.len PySem.boot_len (pa_cons (pv 0) pa_nil)) pa_nil))) pa_nil))) pa_nil)) (pg_name (i := 1) nd rfl (Or.inl rfl)) (pss_cons (by exact (ps_set (i := 2) nd rfl (Or.inl rfl) (C8.pe_c T.pail hr (by decide) rfl (pa_cons (pv 0) (pa_cons (pv 1) pa_nil)))))
      (pss_cons (by exact (ps_set (i := 3) nd rfl (Or.inl rfl) (C8.pe_c T.coder hr (by decide) rfl (pa_cons (pv 2) pa_nil))))
      (pss_cons (by exact (ps_asg (pv 3) (pg_tup rfl (pgs_cons (pg_name (i := 4) nd rfl (Or.inl rfl)) (pgs_cons (pg_name (i := 5) nd rfl (Or.inl rfl)) pgs_nil)))))
      (pss_cons (by exact (ps_set (i := 6) nd rfl (Or.inl rfl) (C8.pe_c T.dip hr (by decide) rfl (pa_cons (pv 2) (pa_cons (pe_callB call_len_seq (by rfl) T.len PySem.boot_len (pa_cons (pv 5) pa_nil)) pa_nil)))))
      (pss_cons (by exact (ps_set (i := 7) nd rfl (Or.inl rfl) (pe_lstS (pa_cons (pv 3) (pa_cons (pe_tupS (pa_cons pe_int (pa_cons (pv 5) pa_nil))) (pa_cons (pe_tupS (pa_cons (pv 4) (pa_cons (pe_op op_addT (pe_op op_addT (pe_slice sl_cutT (pv 5) po_none (po_some (pv 6))) (pe_tupS (pa_cons (pe_op op_add (pe_ix ix_tup (pv 5) (pv 6) (fun _ _ => rfl)) pe_int) pa_nil))) (pe_slice sl_cutT (pv 5) (po_some (pe_op op_add (pv 6) pe_int)) po_none)) pa_nil))) pa_nil))))))
      (pss_cons (by exact (ps_expr (pe_bm PySem.F.plainAttrs_list PySem.F.slot_list_append PySem.F.type_list_append mt_append (pv 7) (pa_cons (pe_tupS (pa_cons (pv 4) (pa_cons (pe_op op_addT (pe_tupS (pa_cons (pe_op op_pow pe_int pe_int) pa_nil)) (pe_slice sl_cutT (pv 5) (po_some pe_int) po_none)) pa_nil))) pa_nil))))
      (C8.pss_cut (by exact (ps_if (pt_cmpR op_lt (pe_callB call_len_seq (by rfl) T.len PySem.boot_len (pa_cons (pv 5) pa_nil)) pe_int (nomark _)) (pss_one (by exact (ps_expr (pe_bm PySem.F.plainAttrs_list PySem.F.slot_list_append PySem.F.type_list_append mt_append (pv 7) (pa_cons (pe_tupS (pa_cons (pv 4) (pa_cons (pe_op op_addT (pv 5) (pe_tupS (pa_cons pe_int pa_nil))) pa_nil))) pa_nil))))) pss_nil))
      (pss_one (by exact (ps_for PassesOwn.never rfl (pi_list (pv 7)) (pg_name (i := 8) nd rfl (Or.inl rfl)) (pss_cons (by exact (ps_set (i := 9) nd rfl (Or.inl rfl) (C8.pe_c T.written hr (by decide) rfl (pa_cons (pv 8) pa_nil))))
      (pss_cons (by exact (ps_set (i := 10) nd rfl (Or.inl rfl) (pe_callB (call_rep gA hu) (by rfl) T.repr (by decide +kernel) (pa_cons (pv 8) pa_nil))))
      (pss_cons (by exact (ps_if (PW.pt (pw_or (pt_not (pt_val (C8.pe_c T.same hr (by decide) rfl (pa_cons (pe_lstS (pa_cons (pe_c0 T.show_ hr (by decide) rfl (pa_cons (pv 8) pa_nil)) (pa_cons (C8.pe_c T.read hr (by decide) rfl (pa_cons (pv 9) pa_nil)) pa_nil))) (pa_cons (pe_lstS (pa_cons (pv 9) (pa_cons (pv 8) pa_nil))) pa_nil))))) (pw_or1 (pt_cmpR op_ne (pe_callB (call_rep gA hu) (by rfl) T.repr (by decide +kernel) (pa_cons (pv 8) pa_nil)) (pv 10) (nomark _))))) (pss_one (by exact (ps_ret pe_bl))) pss_nil))
      (pss_one (by exact (ps_if (pt_cmpR op_ne (pe_cmpR op_eq (pe_c0 T.show_ hr (by decide) rfl (pa_cons (pv 8) pa_nil)) (pe_c0 T.show_ hr (by decide) rfl (pa_cons (pv 3) pa_nil)) (nomark _)) (pe_cmpR (op_eqD hu64) (pv 8) (pv 3) (nomark _)) (nomark _)) (pss_one (by exact (ps_ret pe_bl))) pss_nil))))))))))))))))))
      (pss_one (by exact (ps_ret (pe_cmpR op_eq (pe_c0 T.show_ hr (by decide) rfl (pa_cons (pe_tupS (pa_cons pe_int (pa_cons (pe_tupS (pa_cons pe_int pa_nil)) pa_nil))) pa_nil)) pe_str (nomark _)))))), ?_⟩
    obtain ⟨N, hN, eN⟩ : ∃ N : Nat, N ≤ 8 ∧ (if (if (ns.length : Int) < 8 then (ns.length : Int) else 8) > 1 then (if (ns.length : Int) < 8 then (ns.length : Int) else 8) else 1) = (N : Int) := by
      by_cases g : (ns.length : Int) < 8
      · rw [if_pos g]
        by_cases g2 : (ns.length : Int) > 1
        · rw [if_pos g2]
          exact ⟨ns.length, by omega, rfl⟩
        · rw [if_neg g2]
          exact ⟨1, by decide, rfl⟩
      · rw [if_neg g, if_pos (by decide)]
        exact ⟨8, by decide, rfl⟩
    refine ⟨_, rfl, a, _, rfl, .inl hS, _, _, rfl, _, _, rfl, (N : Int), ?_, by omega, by omega, ?_⟩
    · refine congrArg (fun z => [V.int z]) ?_
      rw [List.length_map]
      exact eN
    rw [Int.toNat_natCast]
    have bign : (100 : Int) ≤ 10 ^ 40 := by decide
    obtain ⟨B40, hB⟩ : ∃ B : Int, B = 10 ^ 40 := ⟨_, rfl⟩
    rw [← hB] at bign
    refine for_range (lo := 0) (n := N) (fun i σ H1 => ∃ y1 y2 y3 y4 y5 y6 y7 y8 y9 y10, σ = [some (.ref a), y1, y2, y3, y4, y5, y6, y7, y8, y9, y10] ∧ Same H H1) ⟨none, none, none, none, none, none, none, none, none, none, rfl, Same.refl _⟩ ?_ ?_
    · rintro i σ H1 hi ⟨y1, y2, y3, y4, y5, y6, y7, y8, y9, y10, rfl, s1⟩
      have hS1 : SqL K H1 a (ns.map V.int) := hS.imp (fun r => r.imp (fun e => s1 _ _ e) (fun ⟨o, e⟩ => ⟨o, s1 _ _ e⟩)) id
      refine ⟨_, rfl, _, rfl, a, ns, i, by rw [Int.zero_add]; rfl, hS1, by omega, h63, fun A1 H2 nA sA u2 => ?_⟩
      have nAH : H A1 = none := s1.free nA
      refine ⟨_, rfl, A1, _, rfl, u2, by decide, fun v c H3 hc c31 u3 sb3 cat3 => ?_⟩
      have same_but : ∀ {H0 H H1 : Hp} {a : Addr}, Same H0 H → H0 a = none → SameBut a H H1 → Same H0 H1 := fun s ha sb b o e => sb b o (ne_of_none e ha) (s b o e)
      have s03 := same_but (s1.trans sA) nAH sb3
      obtain ⟨ca, cb, rfl, hca, hcb⟩ := id cat3
      have c12 := hc.2
      have cp : c.1 < c.2.length := hc.1
      have p45 : (10 : Nat) ^ 31 + 1 < 10 ^ 40 := by decide +kernel
      have gc : GoodC c := ⟨hc, fun n hn => Nat.lt_trans (c31 n hn) (by decide +kernel)⟩
      refine ⟨_, rfl, ca, _, rfl, SqT.of hca, rfl, _, _, rfl, _, _, rfl, rfl, ?_⟩
      refine ⟨_, rfl, _, rfl, cb, _, rfl, .inr (SqT.of hcb), A1, _, _, rfl, u3, by decide, by rw [List.length_map]; omega, by rw [List.length_map, ← hB]; omega, fun v4 H4 v40 v41 u4 sb4 => ?_⟩
      rw [List.length_map] at v41
      obtain ⟨at_, rfl⟩ := Int.eq_ofNat_of_zero_le v40
      have hat : at_ < c.2.length := by omega
      have cat4 := u3.cat sb4 cat3
      have s04 := same_but s03 nAH sb4
      have hcb4 : H4 cb = some (.tup (c.2.map vN)) := by
        obtain ⟨_, _, _, ea, _⟩ := u3
        exact sb4 _ _ (fun z => by rw [z, ea] at hcb; cases hcb) hcb
      -- coders like it
      refine ⟨_, rfl, _, rfl, (by show 2 ≤ sizeLine; decide), fun t1 H5 nt1 s5 et1 => ?_⟩
      have hcb5 := s5 _ _ hcb4
      refine ⟨_, rfl, _, rfl, _, rfl, _, rfl, cb, _, rfl, hcb5, fun b1 H6 s6 e6 => ?_⟩
      have ct : cutV (c.2.map vN) Option.none (some (at_ : Int)) = (c.2.map vN).take at_ := cut_to (by rw [List.length_map]; omega)
      rw [ct] at e6
      have hcb6 := s6 _ _ hcb5
      refine ⟨_, rfl, _, rfl, cb, _, (at_ : Int), _, rfl, rfl, SqT.of hcb6, atI_nat (nat_at hat), _, _, rfl, rfl, (by show 1 ≤ sizeLine; decide), fun b2 H7 nb2 s7 e7 => ?_⟩
      refine ⟨b1, b2, _, _, rfl, rfl, s7 _ _ e6, e7, ?_, fun b3 H8 s8 e8 => ?_⟩
      · rw [List.length_take, List.length_map]
        exact Nat.le_trans (show min at_ c.2.length + 1 ≤ 13 by omega) (by decide)
      refine ⟨_, rfl, _, rfl, _, _, rfl, rfl, _, rfl, cb, _, rfl, s8 _ _ (s7 _ _ hcb6), fun b4 H9 s9 e9 => ?_⟩
      have cf : cutV (c.2.map vN) (some ((at_ : Int) + 1)) Option.none = (c.2.map vN).drop (at_ + 1) := cut_from (n := at_ + 1)
      rw [cf] at e9
      refine ⟨b3, b4, _, _, rfl, rfl, s9 _ _ e8, e9, ?_, fun b5 H10 s10 e10 => ⟨(by show 2 ≤ sizeLine; decide), fun t2 H11 nt2 s11 et2 => ⟨(by show 3 ≤ sizeLine; decide), fun SL H12 nSL s12 eSL => ?_⟩⟩⟩
      · rw [List.length_append, List.length_take, List.length_drop, List.length_map]
        exact Nat.le_trans (show min at_ c.2.length + 1 + (c.2.length - (at_ + 1)) ≤ 30 by omega) (by decide)
      have es : (c.2.map vN).take at_ ++ [V.int (((c.2.getD at_ 0 : Nat) : Int) + 1)] ++ (c.2.map vN).drop (at_ + 1) = (c.2.set at_ (c.2.getD at_ 0 + 1)).map vN := by
        rw [List.map_set, List.set_eq_take_append_cons_drop, if_pos (by rw [List.length_map]; exact hat), List.append_assoc]
        rfl
      obtain ⟨c2, ec2⟩ : ∃ c2 : Cd, c2 = (c.1, c.2.set at_ (c.2.getD at_ 0 + 1)) := ⟨_, rfl⟩
      obtain ⟨c1, ec1⟩ : ∃ c1 : Cd, c1 = (0, c.2) := ⟨_, rfl⟩
      have s512 := s6.trans (s7.trans (s8.trans (s9.trans (s10.trans (s11.trans s12)))))
      have s412 := s5.trans s512
      have cat12 := cat4.same s412
      have catA : Cat H12 (.ref t1) c1 := by rw [ec1]; exact ⟨t1, cb, rfl, s512 _ _ et1, s412 _ _ hcb4⟩
      have catB : Cat H12 (.ref t2) c2 := by
        rw [ec2]
        have e10' : H10 b5 = some (.tup ((c.2.set at_ (c.2.getD at_ 0 + 1)).map vN)) := by rw [e10, ← es]
        exact ⟨t2, b5, rfl, s12 _ _ et2, s12 _ _ (s11 _ _ e10')⟩
      have g1 : GoodC c1 := by rw [ec1]; exact ⟨⟨by show 0 < c.2.length; omega, c12⟩, gc.2⟩
      have g2 : GoodC c2 := by
        rw [ec2]
        refine ⟨⟨by show c.1 < (c.2.set _ _).length; rw [List.length_set]; exact cp, by show (c.2.set _ _).length ≤ 12; rw [List.length_set]; exact c12⟩, fun n hn => ?_⟩
        rcases List.mem_or_eq_of_mem_set hn with z | z
        · exact gc.2 n z
        · have y := c31 (c.2.getD at_ 0) (by rw [getD_eq hat]; exact List.getElem_mem _)
          omega
      have e10p : ((10 : Int) ^ (30 : Int).toNat) = ((10 ^ 30 : Nat) : Int) := by decide
      have hcb12 := s412 _ _ hcb4
      have tpS : ∀ {H' : Hp} {us : List V} {o : HO}, H' SL = some (.lst us) → Tups' H' (upd H' SL o) := fun e t xs et => (upd_ne (fun z => by rw [z, e] at et; cases et)).trans et
      refine ⟨_, rfl, .inl ⟨rfl, _, SqL.of eSL⟩, _, rfl, _, _, rfl, rfl, ⟨by decide, by decide, by decide⟩, (by show 1 ≤ sizeLine; decide), fun b6 H13 nb6 s13 e13 => ?_⟩
      refine ⟨_, rfl, _, rfl, cb, _, rfl, s13 _ _ hcb12, fun b7 H14 s14 e14 => ?_⟩
      have cf1 : cutV (c.2.map vN) (some (1 : Int)) Option.none = (c.2.map vN).drop 1 := cut_from (n := 1)
      rw [cf1] at e14
      refine ⟨b6, b7, _, _, rfl, rfl, s14 _ _ e13, e14, ?_, fun b8 H15 s15 e15 => ⟨(by show 2 ≤ sizeLine; decide), fun t3 H16 nt3 s16 et3 => ⟨SL, _, .ref t3, rfl, rfl, s16 _ _ (s15 _ _ (s14 _ _ (s13 _ _ eSL))), (by show 3 < sizeLine; decide), ?_⟩⟩⟩
      · rw [List.length_drop, List.length_map]
        exact Nat.le_trans (show 1 + (c.2.length - 1) ≤ 30 by omega) (by decide)
      have s1216 := s13.trans (s14.trans (s15.trans s16))
      have eSL16 := s1216 _ _ eSL
      obtain ⟨c3, ec3⟩ : ∃ c3 : Cd, c3 = (c.1, 10 ^ 30 :: c.2.drop 1) := ⟨_, rfl⟩
      have catC : Cat H16 (.ref t3) c3 := by
        rw [ec3]
        refine ⟨t3, b8, rfl, et3, ?_⟩
        rw [s16 _ _ e15, List.map_cons, List.map_drop]
        show some (HO.tup ([V.int ((10 : Int) ^ (30 : Int).toNat)] ++ _)) = _
        rw [e10p]
        rfl
      have g3 : GoodC c3 := by
        rw [ec3]
        refine ⟨⟨by show c.1 < (10 ^ 30 :: c.2.drop 1).length; rw [List.length_cons, List.length_drop]; omega, by show (10 ^ 30 :: c.2.drop 1).length ≤ 12; rw [List.length_cons, List.length_drop]; omega⟩, fun n hn => ?_⟩
        rcases List.mem_cons.mp hn with z | z
        · rw [z]; decide +kernel
        · exact gc.2 n (List.mem_of_mem_drop z)
      obtain ⟨HS, eHS⟩ : ∃ HS : Hp, HS = upd H16 SL (.lst ([.ref ca, .ref t1, .ref t2] ++ [.ref t3])) := ⟨_, rfl⟩
      have tp16 : Tups' H16 HS := eHS ▸ tpS eSL16
      have s0S : Same H HS := by
        rw [eHS]
        exact same_push (s04.trans (s412.trans s1216)) (none_of (s04.trans ((s5.trans (s6.trans (s7.trans (s8.trans (s9.trans (s10.trans s11)))))))) nSL)
      have eS : HS SL = some (.lst [.ref ca, .ref t1, .ref t2, .ref t3]) := by rw [eHS]; exact upd_same
      have catS : Cat HS (.ref ca) c := catT tp16 (cat12.same s1216)
      have alS : Al2 (fun u c => Cat HS u c) [.ref ca, .ref t1, .ref t2, .ref t3] [c, c1, c2, c3] := .cons catS (.cons (catT tp16 (catA.same s1216)) (.cons (catT tp16 (catB.same s1216)) (.cons (catT tp16 catC) .nil)))
      have gS : ∀ c' ∈ [c, c1, c2, c3], GoodC c' := fun c' hc' => by
        simp only [List.mem_cons, List.not_mem_nil, or_false] at hc'
        rcases hc' with rfl | rfl | rfl | rfl
        · exact gc
        · exact g1
        · exact g2
        · exact g3
      have hcbS : HS cb = some (.tup (c.2.map vN)) := tp16 _ _ (s1216 _ _ hcb12)
      have hcbX : (upd H16 SL (.lst ([.ref ca, .ref t1, .ref t2] ++ [.ref t3]))) cb = some (.tup (c.2.map vN)) := eHS ▸ hcbS
      refine ⟨fun σ' H' => ∃ us cs, σ' = [some (.ref a), some (.int (0 + (i : Int))), some (.ref A1), some (.ref ca), some (.int (c.1 : Int)), some (.ref cb), some (.int (at_ : Int)), some (.ref SL), y8, y9, y10] ∧ H' SL = some (.lst us) ∧ Al2 (fun u c => Cat H' u c) us cs ∧ (∀ c ∈ cs, GoodC c) ∧ us.length ≤ 10 ∧ Cat H' (.ref ca) c ∧ Same H H', ?_, ?_⟩
      · refine ⟨_, rfl, cb, _, rfl, .inr (SqT.of hcbX), _, _, rfl, rfl, _, rfl, ite2 (fun cc => ?_) (fun cc => ?_)⟩
        · rw [List.length_map] at cc
          have l11 : c.2.length < 12 := by have := of_decide_eq_true cc; omega
          refine ⟨_, rfl, .inl ⟨rfl, _, SqL.of upd_same⟩, _, rfl, _, rfl, (by show 1 ≤ sizeLine; decide), fun b9 H17 nb9 s17 e17 => ?_⟩
          have s17' : Same HS H17 := eHS ▸ s17
          refine ⟨cb, b9, _, _, rfl, rfl, s17' _ _ hcbS, e17, ?_, fun b10 H18 s18 e18 => ⟨(by show 2 ≤ sizeLine; decide), fun t4 H19 nt4 s19 et4 => ⟨SL, _, .ref t4, rfl, rfl, s19 _ _ (s18 _ _ (s17' _ _ eS)), (by show 4 < sizeLine; decide), ?_⟩⟩⟩
          · rw [List.length_map]
            exact Nat.le_trans (show c.2.length + 1 ≤ 30 by omega) (by decide)
          have sS19 := s17'.trans (s18.trans s19)
          have eS19 := sS19 _ _ eS
          have tp19 := tpS (o := .lst ([.ref ca, .ref t1, .ref t2, .ref t3] ++ [.ref t4])) eS19
          obtain ⟨c4, ec4⟩ : ∃ c4 : Cd, c4 = (c.1, c.2 ++ [0]) := ⟨_, rfl⟩
          have catD : Cat H19 (.ref t4) c4 := by
            rw [ec4]
            refine ⟨t4, b10, rfl, et4, ?_⟩
            rw [s19 _ _ e18, List.map_append]
            rfl
          have g4 : GoodC c4 := by
            rw [ec4]
            refine ⟨⟨by show c.1 < (c.2 ++ [0]).length; rw [List.length_append]; omega, by show (c.2 ++ [0]).length ≤ 12; rw [List.length_append]; show c.2.length + 1 ≤ 12; omega⟩, fun n hn => ?_⟩
            rcases List.mem_append.mp hn with z | z
            · exact gc.2 n z
            · rw [List.mem_singleton.mp z]; decide +kernel
          refine ⟨[.ref ca, .ref t1, .ref t2, .ref t3] ++ [.ref t4], [c, c1, c2, c3] ++ [c4], rfl, upd_same, ?_, fun c' hc' => ?_, (by show 5 ≤ 10; decide), catT tp19 (catS.same sS19), same_push (s0S.trans sS19) (none_of (s04.trans ((s5.trans (s6.trans (s7.trans (s8.trans (s9.trans (s10.trans s11)))))))) nSL)⟩
          · exact Al2.push (catT tp19 catD) (alS.mono fun _ _ z => catT tp19 (Cat.same sS19 z))
          · rcases List.mem_append.mp hc' with z | z
            · exact gS c' z
            · rw [List.mem_singleton.mp z]; exact g4
        · exact ⟨_, [c, c1, c2, c3], rfl, upd_same, eHS ▸ alS, gS, (by show 4 ≤ 10; decide), eHS ▸ catS, eHS ▸ s0S⟩
      rintro σ' H20 ⟨us, cs, rfl, e20, al20, g20, few20, cat20, s020⟩
      refine ⟨_, rfl, SL, rfl, ⟨_, SqL.of e20⟩, ?_⟩
      refine for_list (K := K) (a := SL) (xs := us) (fun j σ H' => ∃ z8 z9 z10, σ = [some (.ref a), some (.int (0 + (i : Int))), some (.ref A1), some (.ref ca), some (.int (c.1 : Int)), some (.ref cb), some (.int (at_ : Int)), some (.ref SL), z8, z9, z10] ∧ Same H20 H') ⟨_, _, _, rfl, Same.refl _⟩ (fun j σ H' _ z => by
        obtain ⟨_, _, _, _, s⟩ := z
        exact SqL.of (s _ _ e20)) ?_ ?_
      · rintro j u σ H21 hx ⟨z8, z9, z10, rfl, s21⟩
        obtain ⟨d, hd, catd⟩ := al20.get hx
        have gd := g20 d (List.mem_of_getElem? hd)
        have big := gd.big
        have cd21 : Cat H21 u d := Cat.same s21 catd
        have cc21 : Cat H21 (.ref ca) c := cat20.same s21
        refine ⟨_, rfl, u, d, rfl, cd21, gd.1, big, fun H22 s22 => ?_⟩
        have cd22 := cd21.same s22
        refine ⟨_, rfl, ?_⟩
        dsimp only [tNil]
        refine rep_cd cd22 gd.1 big ?_
        refine ⟨_, rfl, use_show cd22 gd.1 big fun H23 s23 => ⟨_, rfl, d, rfl, gd.1, gd.2, fun v' H24 s24 cat24 => ⟨(by show 2 ≤ sizeLine; decide), fun L1 H25 nL1 s25 e25 => ⟨_, rfl, _, rfl, (by show 2 ≤ sizeLine; decide), fun L2 H26 nL2 s26 e26 => ?_⟩⟩⟩⟩
        have s2226 := s23.trans (s24.trans (s25.trans s26))
        have cd26 := cd22.same s2226
        refine ⟨_, _, .list [.str (SX.S (showL d)), cdD d], rfl, .lst (s26 _ _ e25) (.cons (.str _) (.cons (cat24.same (s25.trans s26)).th .nil)), .lst e26 (.cons (.str _) (.cons cd26.th .nil)), .lst _ (fun x hx => ?_) (by show 2 ≤ 100000; decide), fun H27 s27 => ⟨_, rfl, iteF ?_⟩⟩
        · rcases List.mem_cons.mp hx with rfl | hx
          · exact .sc _ rfl
          · rw [List.mem_singleton.mp hx]
            refine .tup _ (fun y hy => ?_) (by show 2 ≤ 100000; decide)
            rcases List.mem_cons.mp hy with rfl | hy
            · exact .sc _ rfl
            · rw [List.mem_singleton.mp hy]
              refine .tup _ (fun y hy => ?_) (by rw [List.length_map]; have := gd.1.2; omega)
              obtain ⟨k, _, rfl⟩ := List.mem_map.mp hy
              exact .sc _ rfl
        have cd27 := cd26.same s27
        have s2127 := s22.trans (s2226.trans s27)
        have cc27 := cc21.same s2127
        refine ⟨_, rfl, ?_⟩
        dsimp only [tNil]
        refine rep_cd cd27 gd.1 big ⟨_, rfl, rfl, _, rfl, ?_⟩
        rw [decide_eq_true rfl]
        refine iteF ⟨_, rfl, use_show cd27 gd.1 big fun H28 s28 => ⟨_, rfl, use_show (cc27.same s28) hc gc.big fun H29 s29 => ⟨rfl, ?_⟩⟩⟩
        have cd29 := cd27.same (s28.trans s29)
        have cc29 := cc27.same (s28.trans s29)
        refine ⟨_, rfl, _, rfl, cdD d, cdD c, Th.dp _ (lay_cd _) cd29.th, Th.dp _ (lay_cd _) cc29.th, shaped_cd _, shaped_cd _, rfl, _, rfl, ?_⟩
        rw [eqv_cd]
        have ev : (decide (V.str (SX.S (showL d)) = V.str (SX.S (showL c)))) = decide (d = c) := by
          by_cases z : d = c
          · rw [decide_eq_true z, decide_eq_true (congrArg (fun x => V.str (SX.S (showL x))) z)]
          · rw [decide_eq_false z, decide_eq_false (fun y => z (show_inj (SX.S_inj (V.str.inj y))))]
        rw [ev, decide_eq_true rfl]
        exact iteF ⟨_, _, _, rfl, s21.trans (s2127.trans (s28.trans s29))⟩
      · rintro σ H21 ⟨z8, z9, z10, rfl, s21⟩
        exact ⟨_, _, _, _, _, _, _, _, _, _, rfl, s020.trans s21⟩
    · rintro σ H1 ⟨y1, y2, y3, y4, y5, y6, y7, y8, y9, y10, rfl, s1⟩
      refine ⟨(by show 1 ≤ sizeLine; decide), fun t1 H2 n1 s2 e2 => ⟨(by show 2 ≤ sizeLine; decide), fun t2 H3 n2 s3 e3 => ?_⟩⟩
      have cat0 : Cat H3 (.ref t2) (0, [0]) := ⟨t2, t1, rfl, e3, s3 _ _ e2⟩
      refine use_show cat0 ⟨(show 0 < 1 by decide), (show 1 ≤ 12 by decide)⟩ (fun n hn => by rw [List.mem_singleton.mp hn]; decide +kernel) fun H4 s4 => ⟨rfl, ?_⟩
      rw [show (decide (V.str (SX.S (showL (0, [0]))) = V.str (Str.ofString "at 0 knows 0"))) = true from decide_eq_true (congrArg V.str (by decide +kernel))]
      exact q _
end
end Lk
end
section
set_option maxRecDepth 100000
set_option maxHeartbeats 4000000
namespace Lk
open PySem PySem.Spec PyProof.Rows L2
theorem mkCal {P : Program} {w : World} {K : PySem.W.Frag} {mg : Str → Option Value} {base : Heap} {k : Nat} {x q : Str} {st : Stmt} {f : Addr} {fd : FuncData} {ps : List Str} {sp : Sp} (F : Fun K x q st f fd) (g : mg x = some (.ref f)) (b : Binds K fd ps []) (ok : FnOk P w K mg base CX0 k f fd ps sp) : C8.Cal P w K mg base k x sp [] :=
  ⟨f, fd, ps, [], ok, g, F.kp, b, .nil⟩
theorem mkCalX {P : Program} {w : World} {K : PySem.W.Frag} {mg : Str → Option Value} {base : Heap} {k : Nat} {x q : Str} {st : Stmt} {f : Addr} {fd : FuncData} {ps : List Str} {sp : Sp} (F : Fun K x q st f fd) (g : mg x = some (.ref f)) (b : Binds K fd ps []) (ok : FnOk P w K mg base (L2.CX P w) k f fd ps sp) : CalX P w K mg base k x sp :=
  ⟨f, fd, ps, ok, g, F.kp, b⟩
theorem mkCalG {P : Program} {w : World} {K : PySem.W.Frag} {mg : Str → Option Value} {base : Heap} {k : Nat} {x q : Str} {st : Stmt} {f : Addr} {fd : FuncData} {ps : List Str} {sp : Sp} (F : Fun K x q st f fd) (g : mg x = some (.ref f)) (b : Binds K fd ps []) (ok : FnG P w K mg base CX0 k f fd ps sp) : CalG P w K mg base k x sp :=
  ⟨f, fd, ps, ok, g, F.kp, b⟩
theorem kit_no {K : PySem.W.Frag} {C D : Addr} (self : PySem.W.subIn K (.ref C) (.ref C) = some true) (hc : PySem.W.isClsIn K D = true) (ht : PySem.W.typeIn K (.ref D) = some (.type "type")) (hs : PySem.W.subIn K (.ref C) (.ref D) = some false) : PySem.W.kitOne K (.ref C) (.ref D) = some false := by
  have ne : ¬ ((Value.ref C == Value.ref D) = true) := fun z => by
    have e : C = D := Value.ref.inj (eq_of_beq z)
    rw [← e, self] at hs
    cases hs
  have hc' : (PySem.W.clsIn K D).isSome = true := hc
  unfold PySem.W.kitOne
  rw [if_neg ne]
  show (if ((PySem.W.clsIn K D).isSome && PySem.W.typeIn K (.ref D) == some (.type "type")) = true then PySem.W.subIn K (.ref C) (.ref D) else none) = some false
  rw [hc', ht, if_pos (by rfl)]
  exact hs
theorem kit_ve {K : PySem.W.Frag} {C : Addr} (hs : PySem.W.subIn K (.ref C) (.type "ValueError") = some true) : PySem.W.kitOne K (.ref C) (.type "ValueError") = some true := by
  unfold PySem.W.kitOne
  rw [if_neg (show ¬ ((Value.ref C == Value.type "ValueError") = true) from fun z => nomatch z)]
  show (if PySem.W.kitMeta "ValueError" = true then PySem.W.subIn K (.ref C) (.type "ValueError") else none) = some true
  rw [if_pos (by decide +kernel)]
  exact hs
theorem all_mk {l : PySem.W.OpenLaw} {w : World} {K : PySem.W.Frag} {h : Heap} {mg : Str → Option Value} {fa : Addr} (X : K.In h) (G : h.Ns mainGlobals mg) (hfa : mg "law" = some (.ref fa))
    {f_is_whole f_is_within f_is_coder f_refuse_no_coder f_with_blanks f_read_number f_show_coder f_read_coder f__law_pail f__law_dip f__law_coder f__law_written f__law_same f_law : Addr} {od_is_whole an_is_whole od_is_within an_is_within od_is_coder an_is_coder od_refuse_no_coder an_refuse_no_coder od_with_blanks an_with_blanks od_read_number an_read_number od_show_coder an_show_coder od_read_coder an_read_coder od__law_pail an__law_pail od__law_dip an__law_dip od__law_coder an__law_coder od__law_written an__law_written od__law_same an__law_same od_law an_law : Option Addr} {sl_is_whole sl_is_within sl_is_coder sl_refuse_no_coder sl_with_blanks sl_read_number sl_show_coder sl_read_coder sl__law_pail sl__law_dip sl__law_coder sl__law_written sl__law_same sl_law : Array (Option Value)} {oc_is_whole kV_is_whole dc_is_whole pm_is_whole cd_is_whole ct_is_whole oc_is_within kV_is_within dc_is_within pm_is_within cd_is_within ct_is_within oc_is_coder kV_is_coder dc_is_coder pm_is_coder cd_is_coder ct_is_coder oc_refuse_no_coder kV_refuse_no_coder dc_refuse_no_coder pm_refuse_no_coder cd_refuse_no_coder ct_refuse_no_coder oc_with_blanks kV_with_blanks dc_with_blanks pm_with_blanks cd_with_blanks ct_with_blanks oc_read_number kV_read_number dc_read_number pm_read_number cd_read_number ct_read_number oc_show_coder kV_show_coder dc_show_coder pm_show_coder cd_show_coder ct_show_coder oc_read_coder kV_read_coder dc_read_coder pm_read_coder cd_read_coder ct_read_coder oc__law_pail kV__law_pail dc__law_pail pm__law_pail cd__law_pail ct__law_pail oc__law_dip kV__law_dip dc__law_dip pm__law_dip cd__law_dip ct__law_dip oc__law_coder kV__law_coder dc__law_coder pm__law_coder cd__law_coder ct__law_coder oc__law_written kV__law_written dc__law_written pm__law_written cd__law_written ct__law_written oc__law_same kV__law_same dc__law_same pm__law_same cd__law_same ct__law_same oc_law kV_law dc_law pm_law cd_law ct_law : Value}
    {A_NoCoder : Addr}
    {t_MOST_PLACES t_MOST_FIGURES : Tok}
    (a_is_whole : PySem.W.nsIn K mainGlobals "is_whole" = some (some (.ref f_is_whole))) (l_is_whole : K.lookup f_is_whole = some ⟨oc_is_whole, od_is_whole, .func (PySem.W.fnOf "is_whole" "is_whole" (defArgs s_is_whole) (defBody s_is_whole) (defScope s_is_whole) .none kV_is_whole dc_is_whole pm_is_whole an_is_whole cd_is_whole ct_is_whole), sl_is_whole⟩) (c_is_whole : PySem.W.codeIn K cd_is_whole "is_whole" = true) (k_is_whole : PySem.W.keepIn K (.ref f_is_whole) = true)
    (a_is_within : PySem.W.nsIn K mainGlobals "is_within" = some (some (.ref f_is_within))) (l_is_within : K.lookup f_is_within = some ⟨oc_is_within, od_is_within, .func (PySem.W.fnOf "is_within" "is_within" (defArgs s_is_within) (defBody s_is_within) (defScope s_is_within) .none kV_is_within dc_is_within pm_is_within an_is_within cd_is_within ct_is_within), sl_is_within⟩) (c_is_within : PySem.W.codeIn K cd_is_within "is_within" = true) (k_is_within : PySem.W.keepIn K (.ref f_is_within) = true)
    (a_is_coder : PySem.W.nsIn K mainGlobals "is_coder" = some (some (.ref f_is_coder))) (l_is_coder : K.lookup f_is_coder = some ⟨oc_is_coder, od_is_coder, .func (PySem.W.fnOf "is_coder" "is_coder" (defArgs s_is_coder) (defBody s_is_coder) (defScope s_is_coder) .none kV_is_coder dc_is_coder pm_is_coder an_is_coder cd_is_coder ct_is_coder), sl_is_coder⟩) (c_is_coder : PySem.W.codeIn K cd_is_coder "is_coder" = true) (k_is_coder : PySem.W.keepIn K (.ref f_is_coder) = true)
    (a_refuse_no_coder : PySem.W.nsIn K mainGlobals "refuse_no_coder" = some (some (.ref f_refuse_no_coder))) (l_refuse_no_coder : K.lookup f_refuse_no_coder = some ⟨oc_refuse_no_coder, od_refuse_no_coder, .func (PySem.W.fnOf "refuse_no_coder" "refuse_no_coder" (defArgs s_refuse_no_coder) (defBody s_refuse_no_coder) (defScope s_refuse_no_coder) .none kV_refuse_no_coder dc_refuse_no_coder pm_refuse_no_coder an_refuse_no_coder cd_refuse_no_coder ct_refuse_no_coder), sl_refuse_no_coder⟩) (c_refuse_no_coder : PySem.W.codeIn K cd_refuse_no_coder "refuse_no_coder" = true) (k_refuse_no_coder : PySem.W.keepIn K (.ref f_refuse_no_coder) = true)
    (a_with_blanks : PySem.W.nsIn K mainGlobals "with_blanks" = some (some (.ref f_with_blanks))) (l_with_blanks : K.lookup f_with_blanks = some ⟨oc_with_blanks, od_with_blanks, .func (PySem.W.fnOf "with_blanks" "with_blanks" (defArgs s_with_blanks) (defBody s_with_blanks) (defScope s_with_blanks) .none kV_with_blanks dc_with_blanks pm_with_blanks an_with_blanks cd_with_blanks ct_with_blanks), sl_with_blanks⟩) (c_with_blanks : PySem.W.codeIn K cd_with_blanks "with_blanks" = true) (k_with_blanks : PySem.W.keepIn K (.ref f_with_blanks) = true)
    (a_read_number : PySem.W.nsIn K mainGlobals "read_number" = some (some (.ref f_read_number))) (l_read_number : K.lookup f_read_number = some ⟨oc_read_number, od_read_number, .func (PySem.W.fnOf "read_number" "read_number" (defArgs s_read_number) (defBody s_read_number) (defScope s_read_number) .none kV_read_number dc_read_number pm_read_number an_read_number cd_read_number ct_read_number), sl_read_number⟩) (c_read_number : PySem.W.codeIn K cd_read_number "read_number" = true) (k_read_number : PySem.W.keepIn K (.ref f_read_number) = true)
    (a_show_coder : PySem.W.nsIn K mainGlobals "show_coder" = some (some (.ref f_show_coder))) (l_show_coder : K.lookup f_show_coder = some ⟨oc_show_coder, od_show_coder, .func (PySem.W.fnOf "show_coder" "show_coder" (defArgs s_show_coder) (defBody s_show_coder) (defScope s_show_coder) .none kV_show_coder dc_show_coder pm_show_coder an_show_coder cd_show_coder ct_show_coder), sl_show_coder⟩) (c_show_coder : PySem.W.codeIn K cd_show_coder "show_coder" = true) (k_show_coder : PySem.W.keepIn K (.ref f_show_coder) = true)
    (a_read_coder : PySem.W.nsIn K mainGlobals "read_coder" = some (some (.ref f_read_coder))) (l_read_coder : K.lookup f_read_coder = some ⟨oc_read_coder, od_read_coder, .func (PySem.W.fnOf "read_coder" "read_coder" (defArgs s_read_coder) (defBody s_read_coder) (defScope s_read_coder) .none kV_read_coder dc_read_coder pm_read_coder an_read_coder cd_read_coder ct_read_coder), sl_read_coder⟩) (c_read_coder : PySem.W.codeIn K cd_read_coder "read_coder" = true) (k_read_coder : PySem.W.keepIn K (.ref f_read_coder) = true)
    (a__law_pail : PySem.W.nsIn K mainGlobals "_law_pail" = some (some (.ref f__law_pail))) (l__law_pail : K.lookup f__law_pail = some ⟨oc__law_pail, od__law_pail, .func (PySem.W.fnOf "_law_pail" "_law_pail" (defArgs s_law_pail) (defBody s_law_pail) (defScope s_law_pail) .none kV__law_pail dc__law_pail pm__law_pail an__law_pail cd__law_pail ct__law_pail), sl__law_pail⟩) (c__law_pail : PySem.W.codeIn K cd__law_pail "_law_pail" = true) (k__law_pail : PySem.W.keepIn K (.ref f__law_pail) = true)
    (a__law_dip : PySem.W.nsIn K mainGlobals "_law_dip" = some (some (.ref f__law_dip))) (l__law_dip : K.lookup f__law_dip = some ⟨oc__law_dip, od__law_dip, .func (PySem.W.fnOf "_law_dip" "_law_dip" (defArgs s_law_dip) (defBody s_law_dip) (defScope s_law_dip) .none kV__law_dip dc__law_dip pm__law_dip an__law_dip cd__law_dip ct__law_dip), sl__law_dip⟩) (c__law_dip : PySem.W.codeIn K cd__law_dip "_law_dip" = true) (k__law_dip : PySem.W.keepIn K (.ref f__law_dip) = true)
    (a__law_coder : PySem.W.nsIn K mainGlobals "_law_coder" = some (some (.ref f__law_coder))) (l__law_coder : K.lookup f__law_coder = some ⟨oc__law_coder, od__law_coder, .func (PySem.W.fnOf "_law_coder" "_law_coder" (defArgs s_law_coder) (defBody s_law_coder) (defScope s_law_coder) .none kV__law_coder dc__law_coder pm__law_coder an__law_coder cd__law_coder ct__law_coder), sl__law_coder⟩) (c__law_coder : PySem.W.codeIn K cd__law_coder "_law_coder" = true) (k__law_coder : PySem.W.keepIn K (.ref f__law_coder) = true)
    (a__law_written : PySem.W.nsIn K mainGlobals "_law_written" = some (some (.ref f__law_written))) (l__law_written : K.lookup f__law_written = some ⟨oc__law_written, od__law_written, .func (PySem.W.fnOf "_law_written" "_law_written" (defArgs s_law_written) (defBody s_law_written) (defScope s_law_written) .none kV__law_written dc__law_written pm__law_written an__law_written cd__law_written ct__law_written), sl__law_written⟩) (c__law_written : PySem.W.codeIn K cd__law_written "_law_written" = true) (k__law_written : PySem.W.keepIn K (.ref f__law_written) = true)
    (a__law_same : PySem.W.nsIn K mainGlobals "_law_same" = some (some (.ref f__law_same))) (l__law_same : K.lookup f__law_same = some ⟨oc__law_same, od__law_same, .func (PySem.W.fnOf "_law_same" "_law_same" (defArgs s_law_same) (defBody s_law_same) (defScope s_law_same) .none kV__law_same dc__law_same pm__law_same an__law_same cd__law_same ct__law_same), sl__law_same⟩) (c__law_same : PySem.W.codeIn K cd__law_same "_law_same" = true) (k__law_same : PySem.W.keepIn K (.ref f__law_same) = true)
    (a_law : PySem.W.nsIn K mainGlobals "law" = some (some (.ref f_law))) (l_law : K.lookup f_law = some ⟨oc_law, od_law, .func (PySem.W.fnOf "law" "law" (defArgs s_law) (defBody s_law) (defScope s_law) .none kV_law dc_law pm_law an_law cd_law ct_law), sl_law⟩) (c_law : PySem.W.codeIn K cd_law "law" = true) (k_law : PySem.W.keepIn K (.ref f_law) = true)
    (z_isinstance : PySem.W.nsIn K mainGlobals "isinstance" = some none)
    (z_int : PySem.W.nsIn K mainGlobals "int" = some none)
    (z_bool : PySem.W.nsIn K mainGlobals "bool" = some none)
    (z_tuple : PySem.W.nsIn K mainGlobals "tuple" = some none)
    (z_len : PySem.W.nsIn K mainGlobals "len" = some none)
    (z_all : PySem.W.nsIn K mainGlobals "all" = some none)
    (z_str : PySem.W.nsIn K mainGlobals "str" = some none)
    (z_max : PySem.W.nsIn K mainGlobals "max" = some none)
    (z_range : PySem.W.nsIn K mainGlobals "range" = some none)
    (z_list : PySem.W.nsIn K mainGlobals "list" = some none)
    (z_min : PySem.W.nsIn K mainGlobals "min" = some none)
    (z_repr : PySem.W.nsIn K mainGlobals "repr" = some none)
    (m_MOST_PLACES : PySem.W.nsIn K mainGlobals "MOST_PLACES" = some (some (.int 12 t_MOST_PLACES)))
    (m_MOST_FIGURES : PySem.W.nsIn K mainGlobals "MOST_FIGURES" = some (some (.int 40 t_MOST_FIGURES)))
    (gC_NoCoder : PySem.W.nsIn K mainGlobals "NoCoder" = some (some (.ref A_NoCoder)))
    (kC_NoCoder : PySem.W.keepIn K (.ref A_NoCoder) = true) (xC_NoCoder : PySem.W.excIn K A_NoCoder [.type "ValueError", .type "Exception", .type "BaseException", .type "object"] "ValueError.__new__" = true)
    (bC_NoCoder : PySem.W.subIn K (.ref A_NoCoder) (.type "BaseException") = some true) (tC_NoCoder : PySem.W.typeIn K (.ref A_NoCoder) = some (.type "type"))
    :
    ∃ fd : FuncData, (∀ (s : Shared) (v : Value), BindsTo s fd ⟨[v], []⟩ [("script", v)]) ∧ ∀ base : Heap, K.In base → base.Ns mainGlobals mg → FnG l.prog w K mg base CX0 8 fa fd ["script"] (spLaw K) := by
  have e := hfa.symm.trans (PySem.W.mg_of X G a_law)
  cases e
  have F_is_whole := fun_mk (st := s_is_whole) l_is_whole c_is_whole k_is_whole
  have F_is_within := fun_mk (st := s_is_within) l_is_within c_is_within k_is_within
  have F_is_coder := fun_mk (st := s_is_coder) l_is_coder c_is_coder k_is_coder
  have F_refuse_no_coder := fun_mk (st := s_refuse_no_coder) l_refuse_no_coder c_refuse_no_coder k_refuse_no_coder
  have F_with_blanks := fun_mk (st := s_with_blanks) l_with_blanks c_with_blanks k_with_blanks
  have F_read_number := fun_mk (st := s_read_number) l_read_number c_read_number k_read_number
  have F_show_coder := fun_mk (st := s_show_coder) l_show_coder c_show_coder k_show_coder
  have F_read_coder := fun_mk (st := s_read_coder) l_read_coder c_read_coder k_read_coder
  have F__law_pail := fun_mk (st := s_law_pail) l__law_pail c__law_pail k__law_pail
  have F__law_dip := fun_mk (st := s_law_dip) l__law_dip c__law_dip k__law_dip
  have F__law_coder := fun_mk (st := s_law_coder) l__law_coder c__law_coder k__law_coder
  have F__law_written := fun_mk (st := s_law_written) l__law_written c__law_written k__law_written
  have F__law_same := fun_mk (st := s_law_same) l__law_same c__law_same k__law_same
  have F_law := fun_mk (st := s_law) l_law c_law k_law
  have b_is_whole := F_is_whole.binds (ps := ["thing"]) fun _ _ _ _ _ _ us hl => match us, hl with | [_], _ => rfl
  have b_is_within := F_is_within.binds (ps := ["thing", "least", "most"]) fun _ _ _ _ _ _ us hl => match us, hl with | [_, _, _], _ => rfl
  have b_is_coder := F_is_coder.binds (ps := ["thing"]) fun _ _ _ _ _ _ us hl => match us, hl with | [_], _ => rfl
  have b_refuse_no_coder := F_refuse_no_coder.binds (ps := ["coder"]) fun _ _ _ _ _ _ us hl => match us, hl with | [_], _ => rfl
  have b_with_blanks := F_with_blanks.binds (ps := ["numbers"]) fun _ _ _ _ _ _ us hl => match us, hl with | [_], _ => rfl
  have b_read_number := F_read_number.binds (ps := ["text"]) fun _ _ _ _ _ _ us hl => match us, hl with | [_], _ => rfl
  have b_show_coder := F_show_coder.binds (ps := ["coder"]) fun _ _ _ _ _ _ us hl => match us, hl with | [_], _ => rfl
  have b_read_coder := F_read_coder.binds (ps := ["text"]) fun _ _ _ _ _ _ us hl => match us, hl with | [_], _ => rfl
  have b__law_pail := F__law_pail.binds (ps := ["script", "k"]) fun _ _ _ _ _ _ us hl => match us, hl with | [_, _], _ => rfl
  have b__law_dip := F__law_dip.binds (ps := ["pail", "many"]) fun _ _ _ _ _ _ us hl => match us, hl with | [_, _], _ => rfl
  have b__law_coder := F__law_coder.binds (ps := ["pail"]) fun _ _ _ _ _ _ us hl => match us, hl with | [_], _ => rfl
  have b__law_written := F__law_written.binds (ps := ["coder"]) fun _ _ _ _ _ _ us hl => match us, hl with | [_], _ => rfl
  have b__law_same := F__law_same.binds (ps := ["found", "due"]) fun _ _ _ _ _ _ us hl => match us, hl with | [_, _], _ => rfl
  have g_is_whole := PySem.W.mg_of X G a_is_whole
  have g_is_within := PySem.W.mg_of X G a_is_within
  have g_is_coder := PySem.W.mg_of X G a_is_coder
  have g_refuse_no_coder := PySem.W.mg_of X G a_refuse_no_coder
  have g_with_blanks := PySem.W.mg_of X G a_with_blanks
  have g_read_number := PySem.W.mg_of X G a_read_number
  have g_show_coder := PySem.W.mg_of X G a_show_coder
  have g_read_coder := PySem.W.mg_of X G a_read_coder
  have g__law_pail := PySem.W.mg_of X G a__law_pail
  have g__law_dip := PySem.W.mg_of X G a__law_dip
  have g__law_coder := PySem.W.mg_of X G a__law_coder
  have g__law_written := PySem.W.mg_of X G a__law_written
  have g__law_same := PySem.W.mg_of X G a__law_same
  have g_law := PySem.W.mg_of X G a_law
  have w_isinstance := PySem.W.mg_none_of X G z_isinstance
  have w_int := PySem.W.mg_none_of X G z_int
  have w_bool := PySem.W.mg_none_of X G z_bool
  have w_tuple := PySem.W.mg_none_of X G z_tuple
  have w_len := PySem.W.mg_none_of X G z_len
  have w_all := PySem.W.mg_none_of X G z_all
  have w_str := PySem.W.mg_none_of X G z_str
  have w_max := PySem.W.mg_none_of X G z_max
  have w_range := PySem.W.mg_none_of X G z_range
  have w_list := PySem.W.mg_none_of X G z_list
  have w_min := PySem.W.mg_none_of X G z_min
  have w_repr := PySem.W.mg_none_of X G z_repr
  have h_MOST_PLACES := PySem.W.mg_of X G m_MOST_PLACES
  have h_MOST_FIGURES := PySem.W.mg_of X G m_MOST_FIGURES
  have hC_NoCoder := PySem.W.mg_of X G gC_NoCoder
  have TE_NoCoder : ErrC K mg "NoCoder" A_NoCoder := ⟨hC_NoCoder, kC_NoCoder, xC_NoCoder, bC_NoCoder, tC_NoCoder⟩
  refine ⟨PySem.W.fnOf "law" "law" (defArgs s_law) (defBody s_law) (defScope s_law) .none kV_law dc_law pm_law an_law cd_law ct_law, fun s v => .of_eq rfl, fun base _ _ => ?_⟩
  have E_is_whole := mkCal (P := l.prog) (w := w) (base := base) F_is_whole g_is_whole b_is_whole (ok_whole F_is_whole w_isinstance w_int w_bool)
  have E_is_within := mkCal (P := l.prog) (w := w) (base := base) F_is_within g_is_within b_is_within (ok_within F_is_within E_is_whole)
  have E_is_coder := mkCal (P := l.prog) (w := w) (base := base) F_is_coder g_is_coder b_is_coder (ok_isCoder F_is_coder E_is_whole E_is_within w_isinstance w_tuple w_len w_all h_MOST_PLACES)
  have E_refuse_no_coder := mkCalX (P := l.prog) (w := w) (base := base) F_refuse_no_coder g_refuse_no_coder b_refuse_no_coder (ok_refCoder F_refuse_no_coder E_is_coder TE_NoCoder h_MOST_PLACES)
  have E_with_blanks := mkCal (P := l.prog) (w := w) (base := base) F_with_blanks g_with_blanks b_with_blanks (ok_blanks F_with_blanks w_str)
  have E_read_number := mkCal (P := l.prog) (w := w) (base := base) F_read_number g_read_number b_read_number (ok_readN F_read_number h_MOST_FIGURES w_len w_all w_int)
  have E_show_coder := mkCalX (P := l.prog) (w := w) (base := base) F_show_coder g_show_coder b_show_coder (ok_showC F_show_coder E_refuse_no_coder E_with_blanks)
  have E_read_coder := mkCal (P := l.prog) (w := w) (base := base) F_read_coder g_read_coder b_read_coder (ok_readC F_read_coder E_read_number E_is_coder w_isinstance w_str w_len w_tuple)
  have E__law_pail := mkCal (P := l.prog) (w := w) (base := base) F__law_pail g__law_pail b__law_pail (ok_pail F__law_pail w_max w_len)
  have E__law_dip := mkCal (P := l.prog) (w := w) (base := base) F__law_dip g__law_dip b__law_dip (ok_dip F__law_dip)
  have E__law_coder := mkCal (P := l.prog) (w := w) (base := base) F__law_coder g__law_coder b__law_coder (ok_coderW F__law_coder E__law_dip w_int w_range w_tuple)
  have E__law_written := mkCal (P := l.prog) (w := w) (base := base) F__law_written g__law_written b__law_written (ok_written F__law_written w_str)
  have E__law_same := mkCal (P := l.prog) (w := w) (base := base) F__law_same g__law_same b__law_same (ok_same0 F__law_same)
  have E__law_same := mkCal (P := l.prog) (w := w) (base := base) F__law_same g__law_same b__law_same (ok_same F__law_same E__law_same w_isinstance w_list w_tuple w_bool w_len w_range w_all)
  have E__law_same := mkCal (P := l.prog) (w := w) (base := base) F__law_same g__law_same b__law_same (ok_same F__law_same E__law_same w_isinstance w_list w_tuple w_bool w_len w_range w_all)
  have E__law_same := mkCal (P := l.prog) (w := w) (base := base) F__law_same g__law_same b__law_same (ok_same F__law_same E__law_same w_isinstance w_list w_tuple w_bool w_len w_range w_all)
  have E__law_same := mkCal (P := l.prog) (w := w) (base := base) F__law_same g__law_same b__law_same (ok_same F__law_same E__law_same w_isinstance w_list w_tuple w_bool w_len w_range w_all)
  exact ok_law F_law ⟨E__law_pail, E__law_dip, E__law_coder, E__law_written, E_show_coder, E_read_coder, E__law_same, w_range, w_len, w_max, w_min, w_repr⟩
end Lk
end
open PySem PySem.W PyProof.Rows
set_option maxRecDepth 100000 in
set_option maxHeartbeats 0 in
theorem PySem.Challenge.cw_looplearn_k59_coders_as_texts_holds : PySem.Challenge.rw_looplearn_k59_coders_as_texts.Holds := by
  w_on; o_law; k_head; (case hw => w_witness2)
  k_fill
  refine Lk.walkG (l := PySem.Challenge.rw_looplearn_k59_coders_as_texts) (n := 63) (k := 8) (x := "script") (sp := fun w => Lk.spLaw _) rfl (by decide) rfl ⟨rfl, by decide, by decide⟩ (fun w h Y => PySem.W.kIn_of Y) ?F (fun _ _ a ns hl hS => ⟨a, ns, rfl, hS, hl, fun _ => rfl⟩)
  case F =>
    intro w mg fa h KX G hmg
    refine' Lk.all_mk KX G hmg ?a_is_whole ?l_is_whole ?c_is_whole ?k_is_whole ?a_is_within ?l_is_within ?c_is_within ?k_is_within ?a_is_coder ?l_is_coder ?c_is_coder ?k_is_coder ?a_refuse_no_coder ?l_refuse_no_coder ?c_refuse_no_coder ?k_refuse_no_coder ?a_with_blanks ?l_with_blanks ?c_with_blanks ?k_with_blanks ?a_read_number ?l_read_number ?c_read_number ?k_read_number ?a_show_coder ?l_show_coder ?c_show_coder ?k_show_coder ?a_read_coder ?l_read_coder ?c_read_coder ?k_read_coder ?a__law_pail ?l__law_pail ?c__law_pail ?k__law_pail ?a__law_dip ?l__law_dip ?c__law_dip ?k__law_dip ?a__law_coder ?l__law_coder ?c__law_coder ?k__law_coder ?a__law_written ?l__law_written ?c__law_written ?k__law_written ?a__law_same ?l__law_same ?c__law_same ?k__law_same ?a_law ?l_law ?c_law ?k_law ?z_isinstance ?z_int ?z_bool ?z_tuple ?z_len ?z_all ?z_str ?z_max ?z_range ?z_list ?z_min ?z_repr ?m_MOST_PLACES ?m_MOST_FIGURES ?gC_NoCoder ?kC_NoCoder ?xC_NoCoder ?bC_NoCoder ?tC_NoCoder
    (case a_is_whole => k_is)
    (case l_is_whole => k_is)
    (case c_is_whole => k_is)
    (case k_is_whole => k_is)
    (case a_is_within => k_is)
    (case l_is_within => k_is)
    (case c_is_within => k_is)
    (case k_is_within => k_is)
    (case a_is_coder => k_is)
    (case l_is_coder => k_is)
    (case c_is_coder => k_is)
    (case k_is_coder => k_is)
    (case a_refuse_no_coder => k_is)
    (case l_refuse_no_coder => k_is)
    (case c_refuse_no_coder => k_is)
    (case k_refuse_no_coder => k_is)
    (case a_with_blanks => k_is)
    (case l_with_blanks => k_is)
    (case c_with_blanks => k_is)
    (case k_with_blanks => k_is)
    (case a_read_number => k_is)
    (case l_read_number => k_is)
    (case c_read_number => k_is)
    (case k_read_number => k_is)
    (case a_show_coder => k_is)
    (case l_show_coder => k_is)
    (case c_show_coder => k_is)
    (case k_show_coder => k_is)
    (case a_read_coder => k_is)
    (case l_read_coder => k_is)
    (case c_read_coder => k_is)
    (case k_read_coder => k_is)
    (case a__law_pail => k_is)
    (case l__law_pail => k_is)
    (case c__law_pail => k_is)
    (case k__law_pail => k_is)
    (case a__law_dip => k_is)
    (case l__law_dip => k_is)
    (case c__law_dip => k_is)
    (case k__law_dip => k_is)
    (case a__law_coder => k_is)
    (case l__law_coder => k_is)
    (case c__law_coder => k_is)
    (case k__law_coder => k_is)
    (case a__law_written => k_is)
    (case l__law_written => k_is)
    (case c__law_written => k_is)
    (case k__law_written => k_is)
    (case a__law_same => k_is)
    (case l__law_same => k_is)
    (case c__law_same => k_is)
    (case k__law_same => k_is)
    (case a_law => k_is)
    (case l_law => k_is)
    (case c_law => k_is)
    (case k_law => k_is)
    (case z_isinstance => k_is)
    (case z_int => k_is)
    (case z_bool => k_is)
    (case z_tuple => k_is)
    (case z_len => k_is)
    (case z_all => k_is)
    (case z_str => k_is)
    (case z_max => k_is)
    (case z_range => k_is)
    (case z_list => k_is)
    (case z_min => k_is)
    (case z_repr => k_is)
    (case m_MOST_PLACES => k_is)
    (case m_MOST_FIGURES => k_is)
    (case gC_NoCoder => k_is)
    (case kC_NoCoder => k_is)
    (case xC_NoCoder => k_exc)
    (case bC_NoCoder => k_is)
    (case tC_NoCoder => k_is)
