import PyProof.Rows.All
import Wide.All
import OpenK.AllK
import Wide.FinOn
import HandS.ForMost
import HandS.Exc
import HandS.ExcValue
import PyProof.ReprRoads
import PyProof.ReprReads
import HandS.Codes
import HandS.Walk
import KE.GoesEnum
import HandS.Star
import HandS.TupAny
import HandS.IsInst
import HandS.FStr
import HandS.RaiseMore
import HandS.TryOnly
import HandS.ExcOwn
import HandS.WordsExc
import HandS.Flow
import HandS.More
import HandS.Deep
import HandS.ExcIs
import HandS.TupMul
import HandS.SetFor
import HandS.Wide
import HandS.Conv
import KE.GoesEnumKw
import PyProof.Rows.CallKwBuiltin
import PyProof.WalkInts
import PyProof.WalksMore
import KE.GoesZip
import HandS.Zip
import HandS.List
import KE.IntTextText
import PyProof.FitsInt
import HandS.Style
import KE.KRevSl
import PyProof.Rows.SumAny
import PySem.Challenge.RW_looplearn_k09_rings
set_option Elab.async false
set_option linter.all false
section
set_option maxRecDepth 100000
set_option maxHeartbeats 2000000
/-! repr of lists and tuples at any depth, where nothing is guarded; defs that are called so. -/
namespace Lk
open PySem PySem.Spec PyProof.Rows L2
mutual
/-- as Dp, and a dict with nothing in it -/
inductive Dq (K : PySem.W.Frag) (H : Hp) : V → PyData → Prop
  | non : Dq K H .non .none
  | bl (b : Bool) : Dq K H (.bl b) (.bool b)
  | int (i : Int) : Dq K H (.int i) (.int i)
  | str (x : Str) : Dq K H (.str x) (.str x)
  | lst {a : Addr} {xs : List V} {ds : List PyData} (h : SqL K H a xs) (m : DqAll K H xs ds) : Dq K H (.ref a) (.list ds)
  | tup {a : Addr} {xs : List V} {ds : List PyData} (h : SqT K H a xs) (m : DqAll K H xs ds) : Dq K H (.ref a) (.tuple ds)
  | dct {a : Addr} (h : H a = some (.dK [])) : Dq K H (.ref a) (.dict [])
inductive DqAll (K : PySem.W.Frag) (H : Hp) : List V → List PyData → Prop
  | nil : DqAll K H [] []
  | cons {v : V} {vs : List V} {d : PyData} {ds : List PyData} (h : Dq K H v d) (m : DqAll K H vs ds) : DqAll K H (v :: vs) (d :: ds)
end
section
variable {X : Cx} {pins : List (Addr × Obj)} {σ : L2.St} {H : Hp} {s : Shared}
/-- what is read of data so told, and that it is shown -/
def Sh (X : Cx) (s : Shared) (u : Value) (d : PyData) : Prop :=
  ∃ as bs, PySem.Reads s.heap u d as ∧ ReadAtMost s.heap d.depth bs ∧ ReprK X.prog X.w bs s.heap d.depth u d.shown
def ShAll (X : Cx) (s : Shared) (us : List Value) (ds : List PyData) : Prop :=
  ∃ as bs, PySem.ReadsAll s.heap us ds as ∧ ReadAtMost s.heap (PyData.depthAll ds) bs ∧ ReprAllK X.prog X.w bs s.heap (PyData.depthAll ds) us (PyData.shownAll ds)
theorem sh_flat {u : Value} {d : PyData} {as : List Addr} (r : PySem.Reads s.heap u d as) (h : d.showable = true) (n : d.hasDict = false) (z : d.shown.length ≤ sizeLine) : Sh X s u d := by
  obtain ⟨bs, h1, h2⟩ := ReprK.of_reads (prog := X.prog) (w := X.w) r h (PyData.noDict_hsm n) z
  exact ⟨as, bs, r, h1, h2⟩
mutual
theorem Dq.shows (I : Inv X pins σ H s) : ∀ (d : PyData) (v : V) (u : Value), Dq X.K H v d → RelV v u → d.showable = true → d.shown.length ≤ sizeLine → Sh X s u d
  | .none, _, _, h, r, hs, z => by
    cases h
    cases r
    exact sh_flat .none hs (by simp only [PyData.hasDict]) z
  | .bool b, _, _, h, r, hs, z => by
    cases h
    cases r
    exact sh_flat (.bool b) hs (by simp only [PyData.hasDict]) z
  | .int i, _, _, h, r, hs, z => by
    cases h
    obtain ⟨t, rfl⟩ := r
    exact sh_flat (.int i t) hs (by simp only [PyData.hasDict]) z
  | .str x, _, _, h, r, hs, z => by
    cases h
    obtain ⟨t, rfl⟩ := r
    exact sh_flat (.str x t) hs (by simp only [PyData.hasDict]) z
  | .list ds, _, _, h, r, hs, z => by
    cases h with
    | lst hq m =>
      rename_i a xs
      cases r
      obtain ⟨its, rv, ⟨o, n, ho, hc, _, hd⟩, _⟩ := I.list hq
      have z2 : (listText (PyData.shownAll ds)).length ≤ sizeLine := by simpa only [PyData.shown] using z
      obtain ⟨as, bs, r2, hb, hk⟩ := DqAll.shows I ds xs its m rv (by simpa [PyData.showable] using hs) fun t ht => Nat.le_trans (listText_mem_le ht) z2
      have r3 : PySem.Reads s.heap (.ref a) (.list ds) (a :: as) := .list ho hc hd r2
      have out : a ∉ bs := not_mem_of_deeper (n := PyData.depthAll ds) r3 (by simp only [PyData.depth]; omega) hb
      refine ⟨_, a :: bs, r3, .cons r3 (n := PyData.depthAll ds) (by simp only [PyData.depth]; omega) hb, ?_⟩
      simp only [PyData.depth, PyData.shown]
      cases its with
      | nil =>
        cases r2
        simp only [PyData.shownAll, listText_nil]
        exact ReprK.listEmpty ho hc hd
      | cons y ys => exact ReprK.list ho hc hd out (by simpa using hk.length_eq) fun i y e => hk.item i y (by simpa using e)
  | .tuple ds, _, _, h, r, hs, z => by
    cases h with
    | tup hq m =>
      rename_i a xs
      cases r
      obtain ⟨its, rv, ⟨o, ho, hc, n, hd⟩, _⟩ := I.tuple hq
      have z2 : (tupleText (PyData.shownAll ds)).length ≤ sizeLine := by simpa only [PyData.shown] using z
      obtain ⟨as, bs, r2, hb, hk⟩ := DqAll.shows I ds xs its m rv (by simpa [PyData.showable] using hs) fun t ht => Nat.le_trans (tupleText_mem_le ht) z2
      have r3 : PySem.Reads s.heap (.ref a) (.tuple ds) as := .tuple ho hc hd r2
      have out : a ∉ bs := not_mem_of_deeper (n := PyData.depthAll ds) r3 (by simp only [PyData.depth]; omega) hb
      refine ⟨_, a :: bs, r3, .cons r3 (n := PyData.depthAll ds) (by simp only [PyData.depth]; omega) hb, ?_⟩
      simp only [PyData.depth, PyData.shown]
      exact ReprK.tuple ho hc hd out hk
  | .dict kvs, _, _, h, r, hs, z => by
    cases h with
    | dct hq =>
      rename_i a
      cases r
      obtain ⟨_, far, vs, kv, o, es, ep, ho, ex, hd, _, hp, _⟩ := dk_of I.hok hq
      cases kv
      have e0 : es.toList = [] := List.eq_nil_of_length_eq_zero (by rw [hp.length]; rfl)
      obtain ⟨el⟩ := es
      dsimp only at e0
      subst e0
      have r3 : PySem.Reads s.heap (.ref a) (.dict []) [a] := .dict (as := []) (bs := []) ho ex.1 hd .nil .nil
      refine ⟨_, [a], r3, .cons r3 (n := 0) (Nat.zero_le _) (fun _ q => nomatch q), ?_⟩
      have q := ReprK.dict (prog := X.prog) (w := X.w) (as := []) (d := PyData.depthKv []) ho ex.1 hd far (fun q => nomatch q) .nil
      simpa only [PyData.depth, PyData.shown, PyData.shownKv] using q
theorem DqAll.shows (I : Inv X pins σ H s) : ∀ (ds : List PyData) (vs : List V) (us : List Value), DqAll X.K H vs ds → Vals vs us → PyData.showableAll ds = true → (∀ t ∈ PyData.shownAll ds, t.length ≤ sizeLine) → ShAll X s us ds
  | [], _, _, h, r, _, _ => by
    cases h
    cases r
    exact ⟨[], [], .nil, (fun _ q => nomatch q), .nil⟩
  | d :: ds, _, _, h, r, hs, z => by
    cases h with
    | cons h1 h2 =>
      cases r with
      | cons r1 r2 =>
        have hs2 : d.showable = true ∧ PyData.showableAll ds = true := by simpa [PyData.showableAll] using hs
        obtain ⟨as1, bs1, p1, q1, k1⟩ := Dq.shows I d _ _ h1 r1 hs2.1 (z _ (by simp only [PyData.shownAll]; exact List.mem_cons_self))
        obtain ⟨as2, bs2, p2, q2, k2⟩ := DqAll.shows I ds _ _ h2 r2 hs2.2 fun t ht => z t (by simp only [PyData.shownAll]; exact List.mem_cons_of_mem _ ht)
        refine ⟨_, bs1 ++ bs2, .cons p1 p2, ?_, ?_⟩
        · simp only [PyData.depthAll]
          exact (q1.mono (Nat.le_max_left _ _)).append (q2.mono (Nat.le_max_right _ _))
        · simp only [PyData.depthAll, PyData.shownAll]
          exact .cons ((k1.more fun b hb => List.mem_append_left _ hb).level_le (Nat.le_max_left _ _)) (k2.more_le (fun b hb => List.mem_append_right bs1 hb) (Nat.le_max_right _ _))
end
/-- repr of data, where nothing is guarded -/
def rRep (K : PySem.W.Frag) : List V → Hp → VK → Prop := fun xs H Q => ∃ v d, xs = [v] ∧ Dq K H v d ∧ (∀ kvs, d ≠ .dict kvs) ∧ d.showable = true ∧ d.depth ≤ 64 ∧ d.shown.length ≤ sizeLine ∧ Q (.str d.shown) H
theorem call_rep (hg : X.A.guards = some []) (hu : X.A.units + 100 < cLine) : CallR X (.builtin "repr") (rRep X.K) := by
  intro pins s σ H xs us Q I ru h
  obtain ⟨v, d, rfl, hd, nd, hs, dp, z, q⟩ := h
  obtain ⟨u, rfl, r⟩ := vals1 ru
  clear ru
  cases hd with
  | non =>
    cases r
    simp only [PyData.shown] at q
    exact PySem.P.repr_of_none ⟨.str _, H, I.tok _, ⟨_, rfl⟩, q⟩
  | bl b =>
    cases r
    simp only [PyData.shown] at q
    exact PySem.P.repr_of_bool ⟨.str _, H, I.tok _, ⟨_, rfl⟩, q⟩
  | int i =>
    obtain ⟨t, rfl⟩ := r
    simp only [PyData.shown] at q
    exact PySem.P.repr_of_int (by simpa [PyData.showable] using hs) ⟨.str _, H, I.tok _, ⟨_, rfl⟩, q⟩
  | str x =>
    obtain ⟨t, rfl⟩ := r
    simp only [PyData.shown] at q z
    exact PySem.P.repr_of_str ⟨.str _, H, I.tok _, ⟨_, rfl⟩, q⟩ z
  | dct e => exact absurd rfl (nd [])
  | lst hq m =>
    rename_i a xs ds
    cases r
    obtain ⟨its, rv, ⟨o, n, ho, hc, _, hd⟩, _⟩ := I.list hq
    simp only [PyData.shown, PyData.depth] at q z dp
    obtain ⟨as, bs, r2, hb, hk⟩ := DqAll.shows I ds xs its m rv (by simpa [PyData.showable] using hs) fun t ht => Nat.le_trans (listText_mem_le ht) z
    have out : a ∉ bs := not_mem_of_deeper (n := PyData.depthAll ds) (PySem.Reads.list ho hc hd r2) (by simp only [PyData.depth]; omega) hb
    have ty : s.TypeIs (.ref a) "list" := ⟨o, ho, hc⟩
    refine call_repr_slot (by omega) ty PySem.F.slot_list_repr.toG ?_
    cases its with
    | nil =>
      cases r2
      simp only [PyData.shownAll, listText_nil] at q
      exact call_list_repr_empty ty ho hd ⟨_, _, rfl, ⟨.str _, H, I.tok _, ⟨_, rfl⟩, q⟩⟩
    | cons y ys =>
      refine call_list_reprK ho hc hd out (by simpa using hk.length_eq) (fun i y e => hk.item i y (by simpa using e)) hg (fun b _ => Clear.nil b) (by show X.A.units + 1 + _ < cLine; omega) (fun _ _ e => e) (fun h2 u tk k => ?_) z
      exact ⟨_, _, rfl, ⟨.str _, H, I.kept k, ⟨_, rfl⟩, q⟩⟩
  | tup hq m =>
    rename_i a xs ds
    cases r
    obtain ⟨its, rv, ⟨o, ho, hc, n, hd⟩, _⟩ := I.tuple hq
    simp only [PyData.shown, PyData.depth] at q z dp
    obtain ⟨as, bs, r2, hb, hk⟩ := DqAll.shows I ds xs its m rv (by simpa [PyData.showable] using hs) fun t ht => Nat.le_trans (tupleText_mem_le ht) z
    have out : a ∉ bs := not_mem_of_deeper (n := PyData.depthAll ds) (PySem.Reads.tuple ho hc hd r2) (by simp only [PyData.depth]; omega) hb
    have ty : s.TypeIs (.ref a) "tuple" := ⟨o, ho, hc⟩
    refine call_repr_slot (by omega) ty PySem.F.slot_tuple_repr ?_
    refine call_tuple_reprK ho hc hd out hk hg (fun b _ => Clear.nil b) (by show X.A.units + 1 + _ < cLine; omega) (fun _ _ e => e) (fun h2 u tk k => ?_) z
    exact ⟨_, _, rfl, ⟨.str _, H, I.kept k, ⟨_, rfl⟩, q⟩⟩
end
end Lk
end
section
set_option maxRecDepth 100000
set_option maxHeartbeats 2000000
/-! Defs that are called where nothing is guarded. -/
namespace Lk
open PySem PySem.Spec PyProof.Rows L2
structure FnG (P : Program) (w : World) (K : PySem.W.Frag) (mg : Str → Option Value) (base : Heap) (T : CXT) (k : Nat) (f : Addr) (fd : FuncData) (ps : List Str) (sp : Sp) : Prop where
  many : ∀ {vs H Q E}, sp vs H Q E → vs.length = ps.length
  go : ∀ {A : Around} {outer : List Env} {s : Shared} {H : Hp} {args : Args} {us : List Value} {vs : List V} {Q : VK} {E : XK}, A.guards = some [] → Room k A → Env0 P w K mg base A outer s H →
    BindsTo s fd args (ps.zip us) → Vals vs us → sp vs H Q E → codeAny (model P w) A (.call (.ref f) args) (CR T outer P w H s Q E) s
section
variable {P : Program} {w : World} {K : PySem.W.Frag} {mg : Str → Option Value} {base : Heap}
theorem fnG {x qual : Str} {st : Stmt} {f : Addr} {fd : FuncData} {N ps : List Str} {k : Nat} {sp : Sp} (F : Fun K x qual st f fd) (S : FnScope N ps (defScope st)) (many : ∀ {vs H Q E}, sp vs H Q E → vs.length = ps.length)
    (body : ∀ (cdv : Value) (A : Around) (outer : List Env) (s : Shared) (H : Hp) (vs : List V) (Q : VK) (E : XK), (A.deeper (envOfC qual (defScope st) s.heap.objs.size f cdv)).guards = some [] →
      Room k (A.deeper (envOfC qual (defScope st) s.heap.objs.size f cdv)) → sp vs H Q E →
      ∃ t, PSs (cxOf CX0 P w K mg base N qual (defScope st) f cdv A outer s H E).nox (defBody st) t ∧ t { nx := fun _ H2 => Q .non H2, rt := Q } (start N vs) H) : FnG P w K mg base CX0 (k + 1) f fd ps sp := by
  obtain ⟨oc, od, kV, doc, pm, an, cdv, ct, osl, rfl, lk, code⟩ := F.ex
  refine ⟨many, fun {A outer s H args us vs Q E} gA hr e0 hb r h => ?_⟩
  have len := many h
  have inK : K.In s.heap := e0.mod.kin.keeps fun b o q => (e0.bs b o q).1
  have free : s.heap.NoLimit := e0.mod.nolimit.keeps fun b o q => (e0.bs b o q).1
  refine codeAny_call_function hr.depth (inK _ _ lk) rfl S.co S.gen rfl (PySem.W.codeRec_of inK code) (hb _ _ _ _ (wpAny_newFunctionEnv_cells S.kind (fun ⟨n, v⟩ hy => ?_) fun env he s1 x1 => ?_))
  · exact (S.par n (List.of_mem_zip hy).1).imp id fun q => ⟨q, PySem.W.cellsFrom_some _ _ _ (.inl q)⟩
  · subst he
    obtain ⟨t, ht, q⟩ := body cdv A outer s H vs Q E gA (hr.deeper _) h
    have I0 : Inv (cxOf CX0 P w K mg base N qual (defScope st) f cdv A outer s H E) [] (start N vs) H s1 := inv_start S hr.hd e0 len r x1
    refine ⟨free.keeps x1.toInCall.keep, codeAny_func (wpAny_mono (ht.nox.run [] s1 (start N vs) H _ I0 q) (fun fl s2 z => ?_) fun _ _ z => z)⟩
    match fl, z with
    | .ret u, ⟨v, _, H2, J, rv, q2⟩ => exact ⟨v, H2, J.os, J.bare, J.base, J.hok, rv, q2⟩
    | .next, ⟨_, H2, J, q2⟩ => exact ⟨V.non, H2, J.os, J.bare, J.base, J.hok, (rfl : RelV .non Value.none), q2⟩
    | .brk, ⟨_, _, _, no⟩ => exact no.elim
    | .cont, ⟨_, _, _, no⟩ => exact no.elim
end
/-- a def that is called by its name where nothing is guarded -/
structure CalG (P : Program) (w : World) (K : PySem.W.Frag) (mg : Str → Option Value) (base : Heap) (k : Nat) (x : Str) (sp : Sp) : Prop where
  ex : ∃ (f : Addr) (fd : FuncData) (ps : List Str), FnG P w K mg base CX0 k f fd ps sp ∧ mg x = some (.ref f) ∧ PySem.W.keepIn K (.ref f) = true ∧ Binds K fd ps []
section
variable {X : Cx} {k j : Nat} {x : Str} {sp : Sp} {p pos : Pos} {e : Expr} {es : List Expr} {t : TA}
theorem pe_cG (c : CalG X.prog X.w X.K X.mg X.base k x sp) (gX : X.A.guards = some []) (hr : Room j X.A) (hk : k ≤ j) (hg : Gl X x) (ha : PA X (e :: es) t)
    (hdb : (x == ("__debug__" : Str)) = false := by decide) (he : starEach (e :: es) X.env = (false, eval e X.env) :: starEach es X.env := by rfl) (hpl : (backTo pos (starEach es X.env)).any (·.1) = false := by rfl) :
    PE X (.Call (.Name x p) (e :: es) [] pos) (tCall sp [] E0 t) := by
  obtain ⟨f, fd, ps, F, hm, kp, b⟩ := c.ex
  refine ⟨fun pins s σ H Q I h => wpAny_Call_Name_kw (ld_glob I hg hm ?_ hdb)⟩
  refine PySem.W.callWith_K (h₀ := X.base) I.ok.mod.kin kp (thn (ha.run pos pins s σ H _ I h) fun us s1 ⟨vs, H1, I1, r, q⟩ => ⟨I1.kIn, ?_⟩) he hpl
  dsimp only at q
  rw [List.append_nil] at q
  have hl : (us ++ []).length = ps.length := by rw [List.append_nil, ← r.length]; exact F.many q
  have b1 := b s1 us I1.kIn hl
  rw [List.append_nil] at b1
  refine wpAny_call (codeAny_mono (F.go gX (hr.mono hk) I1.env0 b1 r q) fun r2 s2 z => ?_)
  match r2, z with
  | .ok (.ret u), z => exact I1.after z
  | .ok .next, z => exact z.elim
  | .ok .brk, z => exact z.elim
  | .ok .cont, z => exact z.elim
  | .error _, z => exact z.elim
end
/-- the law's call -/
theorem lawG {P : Program} {w : World} {K : PySem.W.Frag} {mg mb : Str → Option Value} {k : Nat} {fa a : Addr} {fd : FuncData} {x : Str} {sp : Sp} {s1 : Shared} {vs : List Value} {ns : List Int}
    (inK : K.In s1.heap) (gl : s1.heap.Ns mainGlobals mg) (bl : s1.heap.Ns builtinsNs mb) (bb : ∀ x : Str, x ≠ "__name__" → mb x = bootBuiltins x) (free : s1.heap.NoLimit) (g0 : s1.gens = #[])
    (ha : s1.heap.get? a = some { cls := .type "list", data := .seq vs.toArray }) (hi : IntsAre vs ns) (hl : ns.length ≤ sizeLine) (hr : Room k callerA)
    (F : ∀ base : Heap, K.In base → base.Ns mainGlobals mg → FnG P w K mg base CX0 k fa fd [x] sp) (bind : ∀ (s : Shared) (u : Value), BindsTo s fd ⟨[u], []⟩ [(x, u)])
    (hsp : ∀ H : Hp, SqL K H a (ns.map V.int) → sp [.ref a] H (fun v _ => v = .bl true) fun _ _ _ => False) :
    codeAny (model P w) callerA (.call (.ref fa) ⟨[.ref a], []⟩) (fun r s2 => r = .ok (.ret (.bool true)) ∧ OldK s1.heap s2.heap ∧ s2.os = s1.os ∧ AllBare s2.gens) s1 := by
  have rv := vals_ints hi
  -- what is tracked: the script alone, as it was, or nothing
  have main : ∀ H : Hp, SqL K H a (ns.map V.int) → HOk P w H s1.heap → (∀ b u, H b = some u → b = a ∧ K.lookup a = none ∧ ∃ o xs, u = .frz o (.lst xs)) →
      codeAny (model P w) callerA (.call (.ref fa) ⟨[.ref a], []⟩) (fun r s2 => r = .ok (.ret (.bool true)) ∧ OldK s1.heap s2.heap ∧ s2.os = s1.os ∧ AllBare s2.gens) s1 := by
    intro H hS hok only
    have off : ∀ {b : Addr} {o : Obj} {es : Array DictEntry} {ep : Nat}, s1.heap.get? b = some o → o.data = .dict es ep → H b = none := fun {b o es ep} e d => by
      rcases q : H b with _ | u
      · rfl
      · obtain ⟨rfl, _, _⟩ := only b u q
        rw [ha] at e
        cases e
        cases (show Data.seq vs.toArray _ = Data.dict es ep from d)
    have hid : ∀ {b : Addr} {m : Str → Option Value}, s1.heap.Ns b m → (hidT s1.heap H).Ns b m := fun ⟨o, es, ep, e, d, r⟩ => ⟨o, es, ep, hidT_get e (off e d), d, r⟩
    have inB : K.In (hidT s1.heap H) := fun b o e => hidT_get (inK b o e) (by
      rcases q : H b with _ | u
      · rfl
      · obtain ⟨rfl, no, _⟩ := only b u q
        rw [no] at e
        cases e)
    have md : Mod K mg (hidT s1.heap H) := ⟨inB, hid gl, ⟨mb, hid bl, bb⟩, free.imp fun mc z => ⟨hid z.1, z.2⟩⟩
    have ev : Env0 P w K mg (hidT s1.heap H) callerA [] s1 H := ⟨rfl, md, fun _ _ e => of_hidT e, Nat.le_of_eq (hidT_size _ _), trivial, (fun _ z => nomatch z), hok, .of_eq g0⟩
    refine codeAny_mono ((F _ inB (hid gl)).go (us := [.ref a]) (vs := [.ref a]) rfl hr ev (bind s1 (.ref a)) (.cons rfl .nil) (hsp H hS)) fun r s2 z => ?_
    match r, z with
    | .ok (.ret u), ⟨v, H2, os, bare, un, hok2, rel, q⟩ =>
      cases (show v = V.bl true from q)
      cases (show u = Value.bool true from rel)
      refine ⟨rfl, OldK.of_keep fun b o e => ?_, os, bare⟩
      rcases q2 : H b with _ | u2
      · exact un.keep b o e q2 (fun z => nomatch z) (fun z => nomatch z)
      · obtain ⟨_, _, ob, xs, rfl⟩ := only b u2 q2
        obtain ⟨e1, _⟩ := hok b _ q2
        obtain ⟨e2, _⟩ := hok2 b _ (un.frzs b ob _ q2)
        rw [e] at e1
        cases e1
        exact e2
    | .ok .next, z => exact z.elim
    | .ok .brk, z => exact z.elim
    | .ok .cont, z => exact z.elim
    | .error _, z => exact z.elim
  rcases hk : K.lookup a with _ | o
  · refine main (upd (fun _ => none) a (.frz { cls := .type "list", data := .seq vs.toArray } (.lst (ns.map V.int)))) (.inl (.inr ⟨_, upd_same⟩)) (fun b u z => ?_) fun b u z => ?_
    · by_cases e : b = a
      · subst e
        rw [upd_same] at z
        cases z
        exact ⟨ha, by rw [List.length_map]; exact hl, vs, _, rv, ha⟩
      · rw [upd_ne e] at z
        cases z
    · by_cases e : b = a
      · subst e
        rw [upd_same] at z
        cases z
        exact ⟨rfl, hk, _, _, rfl⟩
      · rw [upd_ne e] at z
        cases z
  · have e := inK a o hk
    rw [ha] at e
    cases e
    refine main (fun _ => none) (.inr ⟨_, vs.toArray, _, hk, rfl, rfl, rfl, ?_, by simpa using rv⟩) (fun _ _ z => nomatch z) fun _ _ z => nomatch z
    rw [List.size_toArray, hi.length]
    exact hl
/-- what the head leaves, from the law's def -/
theorem walkG {l : PySem.W.OpenLaw} {n k : Nat} {q : Program} {loose : List Str} {XP : (Str → Option Value) → Heap → Prop} {YP : World → Heap → Prop} {d : DefRec} {K : Params → PySem.W.Frag} {sp : World → Sp} {x : Str}
    (hn : l.most = some n) (hn2 : n ≤ sizeLine) (hdf : d.params.defaults = []) (hr : Room k callerA) (hY : ∀ (w : World) (h : Heap), YP w h → (K w.params).In h)
    (F : ∀ (w : World) (mg : Str → Option Value) (fa : Addr) (h : Heap), (K w.params).In h → h.Ns mainGlobals mg → mg d.name = some (.ref fa) →
      ∃ fd : FuncData, (∀ (s : Shared) (u : Value), BindsTo s fd ⟨[u], []⟩ [(x, u)]) ∧ ∀ base : Heap, (K w.params).In base → base.Ns mainGlobals mg → FnG l.prog w (K w.params) mg base CX0 k fa fd [x] (sp w))
    (hsp : ∀ (w : World) (H : Hp) (a : Addr) (ns : List Int), ns.length ≤ n → SqL (K w.params) H a (ns.map V.int) → sp w [.ref a] H (fun v _ => v = .bl true) fun _ _ _ => False) :
    PySem.W.WalkO q loose XP YP l.row.toRowW d [] (fun f vs => PySem.call f vs) := by
  refine Att.attach_call hn hdf fun w s0 s1 mg mb fa o pm cd doc a vs ns G Y ho hd hcd hmg hobj hints hlen hg => ?_
  obtain ⟨fd, b, z⟩ := F w mg fa _ (hY w _ Y) G.T.g hmg
  exact lawG (hY w _ Y) G.T.g G.T.b G.T.builtins G.T.nolimit hg hobj hints (Nat.le_trans hlen hn2) hr z b fun H hS => hsp w H a ns hlen hS
end Lk
end
section
set_option maxRecDepth 100000
set_option maxHeartbeats 2000000
/-! enumerate of a tuple. -/
namespace Lk
open PySem PySem.Spec PyProof.Rows L2
/-- the tuple at a, its items in new pairs behind their numbers from c on -/
def IteT (K : PySem.W.Frag) (a : Addr) (c : Int) : It :=
  ⟨fun i H => ∃ (xs : List V) (x : V), SqT K H a xs ∧ xs[i]? = some x,
   fun i H v H2 => ∃ T x, v = .ref T ∧ H T = none ∧ H2 = upd H T (.tup [.int (c + (i : Int)), x]) ∧ ∀ xs, SqT K H a xs → xs[i]? = some x,
   fun i H => ∃ xs : List V, SqT K H a xs ∧ xs.length ≤ i⟩
theorem walk_enumT {K : PySem.W.Frag} {a : Addr} {c : Int} {xs : List V} : Walk (IteT K a c) xs.length (fun H => SqT K H a xs) (YPair (fun i => some (.int (c + (i : Int)))) (fun i => xs[i]?)) := by
  refine ⟨fun i _ hi q => ⟨xs, xs[i], q, by simp [hi]⟩, fun _ q => ⟨xs, q, Nat.le_refl _⟩, fun i H v H2 _ q ⟨T, x, h1, h2, h3, h4⟩ => ?_⟩
  exact ⟨T, .int (c + (i : Int)), x, h1, h2, h3, rfl, h4 xs q⟩
theorem turn_enumT {P : Program} {w : World} {K : PySem.W.Frag} {elts : List Expr} {kk : Nat} {tpos : Pos} {c : Int} (a e it : Addr) :
    Turn P w K (.Tuple elts kk tpos) (IteT K a c) [e, it] e (fun i h => (∃ old, IsEnum h e it (c + (i : Int)) old) ∧ h.IsTupleIter it a i ∧ e ≠ it) where
  mem := by simp
  obj := fun i h st b hb => by
    obtain ⟨⟨old, he⟩, ⟨o, ho, hc, hd⟩, _⟩ := st
    rcases List.mem_cons.mp hb with z | z
    · rw [z]
      exact ⟨_, he, fun v q => nomatch q⟩
    · rw [List.mem_singleton.mp z]
      exact ⟨o, ho, fun v q => by rw [hd] at q; cases q⟩
  keep := fun i h h2 st k => ⟨st.1.imp fun old he => k e (by simp) _ he, st.2.1.at fun o q => k it (by simp) o q, st.2.2⟩
  item := by
    intro X hP hw hK hc i pins s σ H E I hf st hg
    subst hP hw hK
    obtain ⟨⟨old, he⟩, hit, hne⟩ := st
    obtain ⟨xs, x, hq, hx⟩ := hg
    obtain ⟨its, rv, tp, hz⟩ := I.tuple hq
    obtain ⟨u, hu, ru⟩ := rv.get hx
    have hel : e < s.heap.objs.size := Heap.lt_size he
    have hil : it < s.heap.objs.size := by obtain ⟨_, q, _⟩ := hit; exact Heap.lt_size q
    have tp2 : s.heap.IsTuple a its.toArray := tp
    obtain ⟨o, ho, oc, _⟩ := id tp
    have ea : e ≠ a := fun z => by
      rw [← z, show s.heap.get? e = some _ from he] at ho
      cases ho
      exact absurd (Value.type.inj oc) (by decide)
    have ia : it ≠ a := fun z => by
      obtain ⟨o2, ho2, oc2, _⟩ := id hit
      rw [← z, ho2] at ho
      cases ho
      rw [oc2] at oc
      exact absurd (Value.type.inj oc) (by decide)
    have hi : i < its.toArray.size := by
      rw [List.size_toArray]
      exact (List.getElem?_eq_some_iff.mp hu).1
    refine wpAny_pyNext_enum_itemC (Draws.tuple (show X.A.in1.handled = none from I.ok.hd hc) it a (Ne.symm ia) its.toArray) he ⟨hit, tp2⟩ hi hne (fun z => ?_) fun y h1 tk hy ho1 hs1 hT hsz hk => ?_
    · rcases List.mem_cons.mp z with z | z
      · exact hne z
      · exact ea (List.mem_singleton.mp z)
    · have yu : y = u := by
        have q : its.toArray[i]? = some y := hy
        rw [List.getElem?_toArray, hu] at q
        exact (Option.some.inj q).symm
      subst yu
      refine ⟨_, rfl, wpAny_letOwnedTupleGo_enum (s := { s with heap := h1, toks := tk + 1 }) ho1 fun h2 he2 sb => ?_⟩
      have sb2 : Heap.SameBut e h1 h2 := sb
      have hT2 : h2.get? s.heap.objs.size = some { cls := .type "tuple", data := .seq #[.int (c + (i : Int)) tk, y] } := (sb2.2 _ (Nat.ne_of_gt hel)).trans hT
      have new : ObjOk X.prog X.w (upd H s.heap.objs.size (.tup [.int (c + (i : Int)), x])) h2 s.heap.objs.size (.tup [.int (c + (i : Int)), x]) :=
        ⟨by show 2 ≤ sizeLine; decide, [.int (c + (i : Int)) tk, y], .cons ⟨_, rfl⟩ (.cons ru .nil), ⟨_, hT2, rfl, _, rfl⟩⟩
      have I1 : Inv X pins σ (upd H s.heap.objs.size (.tup [.int (c + (i : Int)), x])) { s with heap := h2, toks := tk + 1 } :=
        I.turnedNew (ch := [e, it]) (fun b ob hb q => (sb2.2 b (fun z => hb (by simp [z]))).trans (hk b ob (fun z => hb (by simp [z])) (fun z => hb (by simp [z])) q)) hf (Nat.le_refl _) new
      refine ⟨.ref s.heap.objs.size, _, I1, rfl, ⟨_, x, rfl, I.hok.fresh (Nat.le_refl _), rfl, fun ys hy => by rw [I.tuple_inj hy hq]; exact hx⟩, ⟨⟨y, ?_⟩, hs1.1.at fun o q => (sb2.2 it (Ne.symm hne)).trans q, hne⟩, fun b hb => ?_⟩
      · rw [show c + ((i + 1 : Nat) : Int) = c + (i : Int) + 1 by omega]
        exact he2
      · have lt : b < s.heap.objs.size := by
          rcases List.mem_cons.mp hb with z | z
          · rw [z]; exact hel
          · rw [List.mem_singleton.mp z]; exact hil
        rw [upd_ne (Nat.ne_of_lt lt)]
        exact (hf b hb).1
  done := by
    intro X hP hw hK hc i pins s σ H E I hf st hg
    subst hP hw hK
    obtain ⟨⟨old, he⟩, hit, hne⟩ := st
    obtain ⟨xs, hq, hx⟩ := hg
    obtain ⟨its, rv, tp, hz⟩ := I.tuple hq
    obtain ⟨f0, f1, f2, f3, f4, f5⟩ := hf it (by simp)
    have len := rv.length
    have hT : s.TypeIs (.ref e) "enumerate" := ⟨_, he, rfl⟩
    have last : its.toArray[i]? = none := by
      rw [List.getElem?_toArray, List.getElem?_eq_none (by omega)]
    unfold pyNext
    refine wpAny_bind (wpAny_attempt (wpAny_callSpecial?_slot (name := Str.ofString "__next__") hT PySem.F.slot_enumerate_next
      (wpAny_call_entry PySem.F.slot_enumerate_next hT PySem.F.entry_enumerate_next ?_ (PySem.F.args_enumerate_next_1 _))))
    show wpAny _ _ (field (.ref e) 2 >>= _) _ _ _
    refine wpAny_bind (wpAny_field he rfl (x := .ref it) rfl (wpAny_bind (wpAny_nextOf_tuple_end (I.ok.hd hc) hit (show s.heap.IsTuple a its.toArray from tp) last fun h1 y kept ⟨o, ho, oc⟩ => ?_)))
    refine wpAny_bind (wpAny_isInstance (T := "StopIteration") (b := true) ⟨o, ho, oc⟩ isSubtype_stop (wpAny_pure ⟨rfl, ?_⟩))
    exact I.turned (t' := s.toks) (fun b o hb q => kept b o hb q) f0 f1 f3 f4 f5
  self := fun A i s Q E st h => by
    obtain ⟨⟨_, he⟩, _⟩ := st
    exact wpAny_pyIter_enum he h
set_option maxHeartbeats 4000000 in
/-- enumerate(v), v told by how it begins -/
theorem meets_enum1 {v : Value} {o : Obj} {G : Heap → Prop} (B : Begins v o G) : Meets (Builtin.«enumerate.__new__» ⟨[.type "enumerate", v], []⟩) (fun _ R s => G s.heap ∧
    R (.ok (.ret (.ref (s.heap.push o).objs.size))) { s with heap := (s.heap.push o).push { cls := .type "enumerate", data := .fields #[.none, .bool false, .ref s.heap.objs.size, rawInt 0, .none, .none] } }) :=
  .of_wp fun prog w A R ⟨hp, g, d, tk, os⟩ ⟨h1, h⟩ => by
    have sub := sub_enumerate
    have iter : ∀ {A2 : Around} {E2 : Value → Shared → Prop} {Q2 : Value → Shared → Prop}, Q2 (.ref hp.objs.size) ⟨hp.push o, g, d, tk, os⟩ → wpAny (model prog w) A2 (pyIter v) Q2 E2 ⟨hp, g, d, tk, os⟩ := fun q => B.iter prog w _ _ ⟨hp, g, d, tk, os⟩ _ h1 q
    wp_walk using iter
    refine wpAny_stack_any fun st => wpAny_pure ?_
    split
    · rename_i c _ _ _ _ _
      by_cases z : (c == Value.type "enumerate") = true
      · rw [z]
        wp_walk using iter
        exact ⟨_, rfl, h⟩
      · rw [Bool.eq_false_iff.mpr z]
        wp_walk using iter
        exact ⟨_, rfl, h⟩
    · wp_walk using iter
      exact ⟨_, rfl, h⟩
theorem enum1 {prog : Program} {w : World} {A : Around} {E : Value → Shared → Prop} {s : Shared} {v : Value} {o : Obj} {G : Heap → Prop} {Q : Value → Shared → Prop} (B : Begins v o G) (h1 : G s.heap)
    (h : ∀ h2, IsEnum h2 (s.heap.objs.size + 1) s.heap.objs.size 0 .none → h2.get? s.heap.objs.size = some o → (∀ b x, s.heap.get? b = some x → h2.get? b = some x) → Q (.ref (s.heap.objs.size + 1)) { s with heap := h2 }) :
    wpAny (model prog w) A (call (.type "enumerate") [v]) Q E s := by
  have z : (s.heap.push o).objs.size = s.heap.objs.size + 1 := Heap.size_push ..
  have he : IsEnum ((s.heap.push o).push { cls := .type "enumerate", data := .fields #[.none, .bool false, .ref s.heap.objs.size, rawInt 0, .none, .none] }) (s.heap.objs.size + 1) s.heap.objs.size 0 .none := by
    have q := Heap.get?_push_size (s.heap.push o) (o := { cls := .type "enumerate", data := .fields #[.none, .bool false, .ref s.heap.objs.size, rawInt 0, .none, .none] }) rfl
    rwa [z] at q
  refine callType_new PySem.F.called_enumerate (by decide) (PySem.F.typeCall_enumerate_1 _) (PySem.F.newCall_enumerate_1 _) (fun obj => PySem.F.args_object_init_2 obj _) PySem.F.entry_enumerate_new (meets_enum1 B) ⟨h1, ?_⟩
  show _ ∧ _
  rw [z]
  exact ⟨⟨_, he, rfl⟩, h _ he (Heap.get?_push_of_some _ (Heap.get?_push_size _ B.free)) fun b x e => Heap.get?_push_of_some _ (Heap.get?_push_of_some _ e)⟩
def iEnumT (K : PySem.W.Frag) (ta : TA) : TI := fun σ H R => ta σ H fun vs H1 => ∃ a xs, vs = [.ref a] ∧ SqT K H1 a xs ∧ R (IteT K a 0) H1
theorem pi_enumT {X : Cx} {e : Expr} {ta : TA} {p pos tpos : Pos} {elts : List Expr} {kk : Nat} (hg : Gl X "enumerate") (hm : X.mg "enumerate" = none) (ha : PA X [e] ta) (hs : starEach [e] X.env = [(false, eval e X.env)] := by rfl) :
    PI X (.Tuple elts kk tpos) (.Call (.Name "enumerate" p) [e] [] pos) (iEnumT X.K ta) := by
  refine ⟨fun pins s σ H R I h => Call_ (ld_blt I hg hm boot_enumerate (PyProof.Rows.callWith_type1 (thn (ha.run pos pins s σ H _ I h) fun us s1 ⟨vs, H1, I1, r1, a, xs, ex, hq, q⟩ => ?_) hs rfl))⟩
  subst ex
  cases r1 with
  | cons r rr =>
    cases rr
    cases r
    obtain ⟨its, rv, tp, hz⟩ := I1.tuple hq
    refine enum1 (begins_tuple a its.toArray) tp fun h2 he hit hk => wpAny_pyIter_enum he ?_
    have I2 : Inv X pins σ H1 { s1 with heap := h2 } := I1.kept (t' := s1.toks) hk
    refine ⟨s1.heap.objs.size + 1, [s1.heap.objs.size + 1, s1.heap.objs.size], _, _, H1, rfl, I2, turn_enumT a (s1.heap.objs.size + 1) s1.heap.objs.size, ⟨⟨.none, he⟩, ⟨_, hit, rfl, rfl⟩, Nat.succ_ne_self _⟩, fun b hb => ?_, q⟩
    have hle : s1.heap.objs.size ≤ b := by
      rcases List.mem_cons.mp hb with z | z
      · rw [z]; exact Nat.le_add_right _ _
      · rw [List.mem_singleton.mp z]; exact Nat.le_refl _
    exact I1.fpOk hle (I1.hok.fresh hle)
end Lk
end
section
/-! Coders, their steps, last goings, rings, rounds: mathematics. -/
namespace Lk
abbrev Cd := Nat × List Nat
def COk (c : Cd) : Prop := c.1 < c.2.length
def len (c : Cd) (i : Nat) : Nat := c.2.getD i 0
def nx (c : Cd) : Cd := ((c.1 + (len c c.1 + 1)) % c.2.length, c.2.set c.1 (len c c.1 + 1))
def it : Nat → Cd → Cd
  | 0, c => c
  | n + 1, c => it n (nx c)
def go (c : Cd) (i : Nat) : Nat := (i + len c i) % c.2.length
def gon (c : Cd) : Nat → Nat → Nat
  | 0, i => i
  | n + 1, i => gon c n (go c i)
theorem nx_len {c : Cd} : (nx c).2.length = c.2.length := List.length_set
theorem it_len : ∀ (n : Nat) {c : Cd}, (it n c).2.length = c.2.length
  | 0, _ => rfl
  | n + 1, c => (it_len n).trans nx_len
theorem nx_ok {c : Cd} (h : COk c) : COk (nx c) := by
  have h0 : 0 < c.2.length := Nat.lt_of_le_of_lt (Nat.zero_le _) h
  show _ % _ < (nx c).2.length
  rw [nx_len]
  exact Nat.mod_lt _ h0
theorem it_ok : ∀ (n : Nat) {c : Cd}, COk c → COk (it n c)
  | 0, _, h => h
  | n + 1, _, h => it_ok n (nx_ok h)
theorem it_add : ∀ (n m : Nat) (c : Cd), it (n + m) c = it m (it n c)
  | 0, m, c => by rw [Nat.zero_add]; rfl
  | n + 1, m, c => by
    rw [show n + 1 + m = (n + m) + 1 by omega]
    exact it_add n m (nx c)
theorem it_succ (n : Nat) (c : Cd) : it (n + 1) c = nx (it n c) := it_add n 1 c
theorem gon_add (c : Cd) : ∀ (n m i : Nat), gon c (n + m) i = gon c m (gon c n i)
  | 0, m, i => by rw [Nat.zero_add]; rfl
  | n + 1, m, i => by
    rw [show n + 1 + m = (n + m) + 1 by omega]
    exact gon_add c n m (go c i)
theorem gon_succ (c : Cd) (n i : Nat) : gon c (n + 1) i = go c (gon c n i) := gon_add c n 1 i
theorem len_nx_same {c : Cd} (h : COk c) : len (nx c) c.1 = len c c.1 + 1 := by
  show (c.2.set c.1 _).getD c.1 0 = _
  rw [List.getD_eq_getElem?_getD, List.getElem?_set_self h]
  rfl
theorem len_nx_ne {c : Cd} {i : Nat} (h : i ≠ c.1) : len (nx c) i = len c i := by
  show (c.2.set c.1 _).getD i 0 = c.2.getD i 0
  rw [List.getD_eq_getElem?_getD, List.getD_eq_getElem?_getD, List.getElem?_set_ne (Ne.symm h)]
theorem go_nx_ne {c : Cd} {i : Nat} (h : i ≠ c.1) : go (nx c) i = go c i := by
  unfold go
  rw [len_nx_ne h, nx_len]
theorem go_nx_same {c : Cd} (h : COk c) : go (nx c) c.1 = (nx c).1 := by
  unfold go
  rw [len_nx_same h, nx_len]
  rfl
/-- last goings lead from i to the coder's own place -/
def Rch (c : Cd) (i : Nat) : Prop := ∃ k, gon c k i = c.1
def Free (c : Cd) : Prop := ∀ i, i < c.2.length → Rch c i
theorem rch_nx {c : Cd} (h : COk c) {i : Nat} : Rch c i → Rch (nx c) i := by
  rintro ⟨k, e⟩
  induction k generalizing i with
  | zero =>
    refine ⟨1, ?_⟩
    show go (nx c) i = _
    rw [show i = c.1 from e]
    exact go_nx_same h
  | succ k ih =>
    by_cases g : i = c.1
    · refine ⟨1, ?_⟩
      show go (nx c) i = _
      rw [g]
      exact go_nx_same h
    · obtain ⟨m, q⟩ := ih e
      refine ⟨m + 1, ?_⟩
      show gon (nx c) m (go (nx c) i) = _
      rw [go_nx_ne g]
      exact q
theorem rch_it : ∀ (n : Nat) {c : Cd}, COk c → ∀ {i}, Rch c i → Rch (it n c) i
  | 0, _, _, _, r => r
  | n + 1, _, h, _, r => rch_it n (nx_ok h) (rch_nx h r)
theorem free_nx {c : Cd} (h : COk c) (f : Free c) : Free (nx c) := fun i hi => rch_nx h (f i (by rw [nx_len] at hi; exact hi))
theorem free_it : ∀ (n : Nat) {c : Cd}, COk c → Free c → Free (it n c)
  | 0, _, _, f => f
  | n + 1, _, h, f => free_it n (nx_ok h) (free_nx h f)
/-- where the coder has been is led to where it is -/
theorem rch_been {c : Cd} (h : COk c) {n t : Nat} (ht : t ≤ n) : Rch (it n c) (it t c).1 := by
  obtain ⟨m, rfl⟩ := Nat.exists_eq_add_of_le ht
  rw [it_add]
  exact rch_it m (it_ok t h) ⟨0, rfl⟩
theorem len_mono1 {c : Cd} (i : Nat) (h : COk c) : len c i ≤ len (nx c) i := by
  by_cases g : i = c.1
  · rw [g, len_nx_same h]; omega
  · rw [len_nx_ne g]; exact Nat.le_refl _
theorem len_mono : ∀ (n : Nat) {c : Cd} (i : Nat), COk c → len c i ≤ len (it n c) i
  | 0, _, _, _ => Nat.le_refl _
  | n + 1, _, i, h => Nat.le_trans (len_mono1 i h) (len_mono n i (nx_ok h))
/-- each length that a place came to was a step -/
theorem step_of : ∀ (n : Nat) {c : Cd} (i v : Nat), COk c → len c i < v → v ≤ len (it n c) i → ∃ t, t < n ∧ (it t c).1 = i ∧ (it (t + 1) c).1 = (i + v) % c.2.length
  | 0, _, _, _, _, h1, h2 => absurd (Nat.lt_of_lt_of_le h1 h2) (Nat.lt_irrefl _)
  | n + 1, c, i, v, h, h1, h2 => by
    by_cases g : v ≤ len (nx c) i
    · have gi : i = c.1 := by
        refine Classical.byContradiction fun z => ?_
        rw [len_nx_ne z] at g
        omega
      refine ⟨0, Nat.succ_pos _, gi.symm, ?_⟩
      show (nx c).1 = _
      rw [gi, len_nx_same h] at g
      have e : v = len c c.1 + 1 := by rw [gi] at h1; omega
      rw [gi, e]
      rfl
    · obtain ⟨t, a, b, d⟩ := step_of n i v (nx_ok h) (by omega) h2
      refine ⟨t + 1, by omega, b, ?_⟩
      rw [nx_len] at d
      exact d
theorem sum_set : ∀ (l : List Nat) (i v : Nat), i < l.length → (l.set i v).sum + l.getD i 0 = l.sum + v
  | a :: r, 0, v, _ => by
    show v + r.sum + a = a + r.sum + v
    omega
  | a :: r, i + 1, v, h => by
    have ih := sum_set r i v (by simpa using h)
    show a + (r.set i v).sum + r.getD i 0 = a + r.sum + v
    omega
theorem sum_nx {c : Cd} (h : COk c) : (nx c).2.sum = c.2.sum + 1 := by
  have z := sum_set c.2 c.1 (len c c.1 + 1) h
  have e : c.2.getD c.1 0 = len c c.1 := rfl
  show (c.2.set c.1 _).sum = _
  omega
theorem sum_it : ∀ (n : Nat) {c : Cd}, COk c → (it n c).2.sum = c.2.sum + n
  | 0, _, _ => rfl
  | n + 1, c, h => by
    show (it n (nx c)).2.sum = _
    rw [sum_it n (nx_ok h), sum_nx h]
    omega
theorem sum_le : ∀ {a b : List Nat}, a.length = b.length → (∀ i, i < b.length → a.getD i 0 ≤ b.getD i 0) → a.sum ≤ b.sum
  | [], [], _, _ => Nat.le_refl _
  | x :: a, y :: b, hl, h => by
    have h0 : x ≤ y := h 0 (by simp)
    have h1 : a.sum ≤ b.sum := sum_le (by simpa using hl) fun i hi => h (i + 1) (by simpa using hi)
    show x + a.sum ≤ y + b.sum
    omega
theorem sum_map_add (k : Nat) : ∀ l : List Nat, (l.map (· + k)).sum = l.sum + l.length * k
  | [] => by simp
  | a :: r => by
    have ih := sum_map_add k r
    show a + k + (r.map (· + k)).sum = a + r.sum + (r.length + 1) * k
    rw [ih, Nat.add_mul]
    omega
theorem getD_map_add (k : Nat) (l : List Nat) {i : Nat} (h : i < l.length) : (l.map (· + k)).getD i 0 = l.getD i 0 + k := by
  rw [List.getD_eq_getElem?_getD, List.getD_eq_getElem?_getD, List.getElem?_map, List.getElem?_eq_getElem h]
  rfl
/-- among p lengths in a row one leads to q -/
theorem some_to {p : Nat} (i a q : Nat) (hq : q < p) : ∃ v, a < v ∧ v ≤ a + p ∧ (i + v) % p = q := by
  have hp : 0 < p := by omega
  have hr := Nat.mod_lt (i + a + 1) hp
  by_cases g : (i + a + 1) % p ≤ q
  · refine ⟨a + 1 + (q - (i + a + 1) % p), by omega, by omega, ?_⟩
    rw [show i + (a + 1 + (q - (i + a + 1) % p)) = (i + a + 1) + (q - (i + a + 1) % p) by omega, Nat.add_mod, Nat.mod_eq_of_lt (show q - (i + a + 1) % p < p by omega),
      show (i + a + 1) % p + (q - (i + a + 1) % p) = q by omega, Nat.mod_eq_of_lt hq]
  · refine ⟨a + 1 + (p + q - (i + a + 1) % p), by omega, by omega, ?_⟩
    rw [show i + (a + 1 + (p + q - (i + a + 1) % p)) = (i + a + 1) + (p + q - (i + a + 1) % p) by omega, Nat.add_mod, Nat.mod_eq_of_lt (show p + q - (i + a + 1) % p < p by omega),
      show (i + a + 1) % p + (p + q - (i + a + 1) % p) = q + p by omega, Nat.add_mod_right, Nat.mod_eq_of_lt hq]
/-- behind so many steps every place has been come to -/
theorem been_all {c : Cd} (h : COk c) {n : Nat} (hn : (c.2.length - 1) * (c.2.length - 1) + 1 ≤ n) {q : Nat} (hq : q < c.2.length) : ∃ t, t ≤ n ∧ (it t c).1 = q := by
  refine Classical.byContradiction fun no => ?_
  have no' : ∀ t, t ≤ n → (it t c).1 ≠ q := fun t ht e => no ⟨t, ht, e⟩
  have lim : ∀ i, len (it n c) i < len c i + c.2.length := fun i => by
    refine Classical.byContradiction fun g => ?_
    obtain ⟨v, v1, v2, v3⟩ := some_to i (len c i) q hq
    obtain ⟨t, t1, _, t3⟩ := step_of n i v h v1 (by omega)
    exact no' (t + 1) (by omega) (t3.trans v3)
  have stay : len (it n c) q ≤ len c q := by
    refine Classical.byContradiction fun g => ?_
    obtain ⟨t, t1, t2, _⟩ := step_of n q (len c q + 1) h (by omega) (by omega)
    exact no' t (by omega) t2
  have hs := sum_it n h
  have hB : (it n c).2.sum ≤ ((c.2.map (· + (c.2.length - 1))).set q (len c q)).sum := by
    refine sum_le (by rw [it_len, List.length_set, List.length_map]) fun i hi => ?_
    rw [List.length_set, List.length_map] at hi
    by_cases g : i = q
    · rw [g, List.getD_eq_getElem?_getD (l := List.set _ _ _), List.getElem?_set_self (by rw [List.length_map]; exact hq)]
      exact stay
    · rw [List.getD_eq_getElem?_getD (l := List.set _ _ _), List.getElem?_set_ne (Ne.symm g), ← List.getD_eq_getElem?_getD, getD_map_add _ _ hi]
      have z := lim i
      show len (it n c) i ≤ len c i + (c.2.length - 1)
      omega
  have e1 := sum_set (c.2.map (· + (c.2.length - 1))) q (len c q) (by rw [List.length_map]; exact hq)
  rw [getD_map_add _ _ hq, sum_map_add] at e1
  have e2 : c.2.getD q 0 = len c q := rfl
  have e3 : c.2.length * (c.2.length - 1) = (c.2.length - 1) * (c.2.length - 1) + (c.2.length - 1) := by
    obtain ⟨m, hm⟩ : ∃ m, c.2.length = m + 1 := ⟨c.2.length - 1, by omega⟩
    rw [hm, Nat.add_sub_cancel, Nat.add_mul, Nat.one_mul]
  omega
theorem free_late {c : Cd} (h : COk c) {n : Nat} (hn : (c.2.length - 1) * (c.2.length - 1) + 1 ≤ n) : Free (it n c) := fun i hi => by
  rw [it_len] at hi
  obtain ⟨t, ht, e⟩ := been_all h hn hi
  rw [← e]
  exact rch_been h ht
end Lk
end
section
/-! Rounds come again; rings. -/
namespace Lk
def S : Nat → (Nat → Nat) → Nat
  | 0, _ => 0
  | n + 1, f => S n f + f n
theorem S_congr : ∀ (p : Nat) {f g : Nat → Nat}, (∀ i, i < p → f i = g i) → S p f = S p g
  | 0, _, _, _ => rfl
  | n + 1, f, g, h => by
    show S n f + f n = S n g + g n
    rw [S_congr n fun i hi => h i (by omega), h n (by omega)]
theorem S_upd : ∀ (p : Nat) {f g : Nat → Nat} (j : Nat), j < p → (∀ i, i < p → i ≠ j → f i = g i) → S p f + g j = S p g + f j
  | n + 1, f, g, j, hj, h => by
    show S n f + f n + g j = S n g + g n + f j
    by_cases e : j = n
    · subst e
      rw [S_congr j (f := f) (g := g) fun i hi => h i (by omega) (by omega)]
      omega
    · have ih := S_upd n j (by omega) fun i hi => h i (by omega)
      have e2 := h n (by omega) (Ne.symm e)
      omega
theorem S_le : ∀ (p : Nat) {f : Nat → Nat}, (∀ i, i < p → f i ≤ 1) → S p f ≤ p
  | 0, _, _ => Nat.le_refl _
  | n + 1, f, h => by
    have ih := S_le n fun i hi => h i (by omega)
    have z := h n (by omega)
    show S n f + f n ≤ n + 1
    omega
theorem S_one : ∀ (p : Nat) {f : Nat → Nat}, (∀ i, i < p → f i ≤ 1) → S p f = p → ∀ i, i < p → f i = 1
  | n + 1, f, h, e, i, hi => by
    have ih := S_le n fun i hi => h i (by omega)
    have z := h n (by omega)
    have e' : S n f + f n = n + 1 := e
    by_cases g : i = n
    · rw [g]; omega
    · exact S_one n (fun i hi => h i (by omega)) (by omega) i (by omega)
theorem S_add : ∀ (p : Nat) (f g : Nat → Nat), S p (fun i => f i + g i) = S p f + S p g
  | 0, _, _ => rfl
  | n + 1, f, g => by
    show S n (fun i => f i + g i) + (f n + g n) = S n f + f n + (S n g + g n)
    rw [S_add n]
    omega
theorem S_zero : ∀ (p : Nat) {f : Nat → Nat}, (∀ i, i < p → f i = 0) → S p f = 0
  | 0, _, _ => rfl
  | n + 1, f, h => by
    show S n f + f n = 0
    rw [S_zero n fun i hi => h i (by omega), h n (by omega)]
theorem mod_ne {p m d : Nat} (h : (m + d) % p = m % p) (h0 : 0 < d) : p ≤ d := by
  have z := Nat.sub_mod_eq_zero_of_mod_eq h
  rw [Nat.add_sub_cancel_left] at z
  exact Nat.le_of_dvd h0 (Nat.dvd_of_mod_eq_zero z)
/-- how many of the k lengths behind a lead from i to x -/
def cw (p i x a : Nat) : Nat → Nat
  | 0 => 0
  | k + 1 => cw p i x a k + if (i + (a + k + 1)) % p = x then 1 else 0
theorem cw_pos {p i x a : Nat} : ∀ {k : Nat}, 0 < cw p i x a k → ∃ v, v < k ∧ (i + (a + v + 1)) % p = x
  | 0, h => absurd h (Nat.lt_irrefl _)
  | k + 1, h => by
    by_cases g : (i + (a + k + 1)) % p = x
    · exact ⟨k, Nat.lt_succ_self _, g⟩
    · have h' : 0 < cw p i x a k + if (i + (a + k + 1)) % p = x then 1 else 0 := h
      rw [if_neg g] at h'
      obtain ⟨v, a1, a2⟩ := cw_pos (k := k) h'
      exact ⟨v, by omega, a2⟩
theorem cw_of {p i x a v : Nat} : ∀ {k : Nat}, v < k → (i + (a + v + 1)) % p = x → 0 < cw p i x a k
  | k + 1, h, e => by
    show 0 < cw p i x a k + if (i + (a + k + 1)) % p = x then 1 else 0
    by_cases g : v = k
    · rw [← g, if_pos e]; omega
    · have z := cw_of (k := k) (by omega) e
      omega
theorem cw_le {p i x a : Nat} : ∀ {k : Nat}, k ≤ p → cw p i x a k ≤ 1
  | 0, _ => Nat.zero_le _
  | k + 1, h => by
    have ih := cw_le (p := p) (i := i) (x := x) (a := a) (k := k) (by omega)
    show cw p i x a k + (if (i + (a + k + 1)) % p = x then 1 else 0) ≤ 1
    by_cases g : (i + (a + k + 1)) % p = x
    · rw [if_pos g]
      have z : cw p i x a k = 0 := by
        refine Nat.eq_zero_of_not_pos fun q => ?_
        obtain ⟨v, hv, e⟩ := cw_pos q
        have w := mod_ne (p := p) (m := i + (a + v + 1)) (d := k - v) (by rw [show i + (a + v + 1) + (k - v) = i + (a + k + 1) by omega, g, e]) (by omega)
        omega
      omega
    · rw [if_neg g]; omega
/-- who is led to x by its last going and has given one to x has given all -/
theorem cw_last {p i x a k : Nat} (hk : k ≤ p) (h : (i + a) % p = x) (h1 : cw p i x a k = 1) : k = p := by
  obtain ⟨v, hv, e⟩ := cw_pos (p := p) (i := i) (x := x) (a := a) (k := k) (by omega)
  have w := mod_ne (p := p) (m := i + a) (d := v + 1) (by rw [show i + a + (v + 1) = i + (a + v + 1) by omega, e, h]) (by omega)
  omega
def ind (b : Prop) [Decidable b] : Nat := if b then 1 else 0
/-- what comes to a place, what goes from it -/
theorem flow : ∀ (n : Nat) {c : Cd}, COk c → ∀ x, x < c.2.length →
    S c.2.length (fun i => cw c.2.length i x (len c i) (len (it n c) i - len c i)) + ind (x = c.1) = (len (it n c) x - len c x) + ind (x = (it n c).1)
  | 0, c, _, x, _ => by
    rw [S_zero c.2.length fun i _ => by show cw _ i x _ (len c i - len c i) = 0; rw [Nat.sub_self]; rfl]
    show 0 + _ = (len c x - len c x) + _
    rw [Nat.sub_self]
    rfl
  | n + 1, c, h, x, hx => by
    have ih := flow n h x hx
    have ho : COk (it n c) := it_ok n h
    rw [it_succ]
    have hj : (it n c).1 < c.2.length := by have z := ho; unfold COk at z; rw [it_len] at z; exact z
    have m := len_mono n (it n c).1 h
    have e1 := S_upd c.2.length (f := fun i => cw c.2.length i x (len c i) (len (nx (it n c)) i - len c i)) (g := fun i => cw c.2.length i x (len c i) (len (it n c) i - len c i)) (it n c).1 hj fun i _ hne => by
      show cw _ i x _ (len (nx (it n c)) i - len c i) = _
      rw [len_nx_ne hne]
    have e2 : cw c.2.length (it n c).1 x (len c (it n c).1) (len (nx (it n c)) (it n c).1 - len c (it n c).1) = cw c.2.length (it n c).1 x (len c (it n c).1) (len (it n c) (it n c).1 - len c (it n c).1) + ind (x = (nx (it n c)).1) := by
      rw [len_nx_same ho, show len (it n c) (it n c).1 + 1 - len c (it n c).1 = (len (it n c) (it n c).1 - len c (it n c).1) + 1 by omega]
      show cw _ _ _ _ _ + _ = _
      congr 1
      have e : (nx (it n c)).1 = ((it n c).1 + (len c (it n c).1 + (len (it n c) (it n c).1 - len c (it n c).1) + 1)) % c.2.length := by
        show ((it n c).1 + (len (it n c) (it n c).1 + 1)) % (it n c).2.length = _
        rw [it_len]
        congr 1
        omega
      rw [e]
      unfold ind
      by_cases g : ((it n c).1 + (len c (it n c).1 + (len (it n c) (it n c).1 - len c (it n c).1) + 1)) % c.2.length = x
      · rw [if_pos g, if_pos g.symm]
      · rw [if_neg g, if_neg (Ne.symm g)]
    have e3 : len (nx (it n c)) x - len c x = (len (it n c) x - len c x) + ind (x = (it n c).1) := by
      unfold ind
      by_cases g : x = (it n c).1
      · rw [if_pos g, g, len_nx_same ho]
        omega
      · rw [if_neg g, len_nx_ne g]
        omega
    rw [e3]
    omega
/-- no place has begun more than p words -/
def Bd (c : Cd) (n : Nat) : Prop := ∀ i, i < c.2.length → len (it n c) i ≤ len c i + c.2.length
theorem cw_bd {c : Cd} {n : Nat} (b : Bd c n) (x : Nat) : ∀ i, i < c.2.length → cw c.2.length i x (len c i) (len (it n c) i - len c i) ≤ 1 := fun i hi => cw_le (by have z := b i hi; omega)
theorem home_of {c : Cd} (h : COk c) {n : Nat} (b : Bd c n) (e : len (it n c) (it n c).1 = len c (it n c).1 + c.2.length) : (it n c).1 = c.1 := by
  refine Classical.byContradiction fun g => ?_
  have hj : (it n c).1 < c.2.length := by have z := it_ok n h; unfold COk at z; rw [it_len] at z; exact z
  have f := flow n h (it n c).1 hj
  have z := S_le _ (cw_bd b (it n c).1)
  unfold ind at f
  rw [if_neg g, if_pos rfl, e] at f
  omega
theorem full_of {c : Cd} (h : COk c) {n : Nat} (b : Bd c n) (e : (it n c).1 = c.1) {x : Nat} (hx : x < c.2.length) (ex : len (it n c) x = len c x + c.2.length) {i : Nat} (hi : i < c.2.length) (hg : go c i = x) : len (it n c) i = len c i + c.2.length := by
  have f := flow n h x hx
  rw [e, ex] at f
  have z := S_one _ (cw_bd b x) (by omega) i hi
  have m := len_mono n i h
  have w := cw_last (by have z := b i hi; omega) hg z
  omega
theorem all_full {c : Cd} (h : COk c) (fr : Free c) {n : Nat} (b : Bd c n) (e : (it n c).1 = c.1) (eh : len (it n c) c.1 = len c c.1 + c.2.length) : ∀ i, i < c.2.length → len (it n c) i = len c i + c.2.length := by
  have hp : 0 < c.2.length := Nat.lt_of_le_of_lt (Nat.zero_le _) h
  have key : ∀ k i, i < c.2.length → gon c k i = c.1 → len (it n c) i = len c i + c.2.length := by
    intro k
    induction k with
    | zero =>
      intro i _ q
      rw [show i = c.1 from q]
      exact eh
    | succ k ih =>
      intro i hi q
      have hgo : go c i < c.2.length := Nat.mod_lt _ hp
      exact full_of h b e hgo (ih (go c i) hgo q) hi rfl
  intro i hi
  obtain ⟨k, q⟩ := fr i hi
  exact key k i hi q
theorem S_getD : ∀ (l : List Nat), S l.length (fun i => l.getD i 0) = l.sum := by
  intro l
  have key : ∀ (n : Nat), n ≤ l.length → S n (fun i => l.getD i 0) = (l.take n).sum := by
    intro n
    induction n with
    | zero => intro _; rfl
    | succ n ih =>
      intro hn
      show S n _ + l.getD n 0 = _
      rw [ih (by omega), List.take_add_one, List.getD_eq_getElem?_getD, List.getElem?_eq_getElem (by omega), List.sum_append]
      simp
  rw [key _ (Nat.le_refl _), List.take_length]
theorem S_const (k : Nat) : ∀ p, S p (fun _ => k) = p * k
  | 0 => by simp [S]
  | n + 1 => by
    show S n _ + k = _
    rw [S_const k n, Nat.add_mul, Nat.one_mul]
theorem S_mono : ∀ (p : Nat) {f g : Nat → Nat}, (∀ i, i < p → f i ≤ g i) → S p f ≤ S p g
  | 0, _, _, _ => Nat.le_refl _
  | n + 1, f, g, h => by
    have ih := S_mono n fun i hi => h i (by omega)
    have z := h n (by omega)
    show S n f + f n ≤ S n g + g n
    omega
theorem S_eq : ∀ (p : Nat) {f g : Nat → Nat}, (∀ i, i < p → f i ≤ g i) → S p f = S p g → ∀ i, i < p → f i = g i
  | n + 1, f, g, h, e, i, hi => by
    have ih := S_mono n (f := f) (g := g) fun i hi => h i (by omega)
    have z := h n (by omega)
    have e' : S n f + f n = S n g + g n := e
    by_cases w : i = n
    · rw [w]; omega
    · exact S_eq n (fun i hi => h i (by omega)) (by omega) i (by omega)
theorem sum_S {c : Cd} (n : Nat) : (it n c).2.sum = S c.2.length (fun i => len (it n c) i) := by
  rw [← S_getD, it_len]
  rfl
/-- ahead of p * p steps none has begun more than p -/
theorem bd_all {c : Cd} (h : COk c) (fr : Free c) : ∀ n, n ≤ c.2.length * c.2.length → Bd c n
  | 0, _ => fun i _ => by show len c i ≤ _; omega
  | n + 1, hn => by
    have b := bd_all h fr n (by omega)
    have ho := it_ok n h
    intro i hi
    rw [it_succ]
    by_cases g : i = (it n c).1
    · rw [g, len_nx_same ho]
      refine Classical.byContradiction fun z => ?_
      have bj := b i hi
      rw [g] at bj
      have e : len (it n c) (it n c).1 = len c (it n c).1 + c.2.length := by omega
      have e0 := home_of h b e
      have af := all_full h fr b e0 (by rw [e0] at e; exact e)
      have s1 := sum_it n h
      rw [sum_S, S_congr _ af, S_add, S_const] at s1
      have s2 : S c.2.length (len c) = c.2.sum := S_getD c.2
      omega
    · rw [len_nx_ne g]
      exact b i hi
theorem it_round {c : Cd} (h : COk c) (fr : Free c) : it (c.2.length * c.2.length) c = (c.1, c.2.map (· + c.2.length)) := by
  have b := bd_all h fr _ (Nat.le_refl _)
  have s1 := sum_it (c.2.length * c.2.length) h
  have s2 : S c.2.length (len c) = c.2.sum := S_getD c.2
  have all : ∀ i, i < c.2.length → len (it (c.2.length * c.2.length) c) i = len c i + c.2.length := by
    refine S_eq c.2.length (f := fun i => len (it (c.2.length * c.2.length) c) i) (g := fun i => len c i + c.2.length) b ?_
    rw [S_add, S_const, ← sum_S]
    omega
  have hj : (it (c.2.length * c.2.length) c).1 < c.2.length := by have z := it_ok (c.2.length * c.2.length) h; unfold COk at z; rw [it_len] at z; exact z
  have e1 := home_of h b (all _ hj)
  refine Prod.ext e1 ?_
  refine List.ext_getElem? fun i => ?_
  by_cases hi : i < c.2.length
  · have z := all i hi
    unfold len at z
    rw [List.getD_eq_getElem?_getD, List.getD_eq_getElem?_getD, List.getElem?_eq_getElem (by rw [it_len]; exact hi), List.getElem?_eq_getElem hi] at z
    rw [List.getElem?_eq_getElem (by rw [it_len]; exact hi), List.getElem?_map, List.getElem?_eq_getElem hi]
    exact congrArg some z
  · rw [List.getElem?_eq_none (by rw [it_len]; omega), List.getElem?_eq_none (by rw [List.length_map]; omega)]
/-- who comes again is free -/
theorem free_again {c : Cd} (h : COk c) (e : it (c.2.length * c.2.length) c = (c.1, c.2.map (· + c.2.length))) : Free c := by
  have hp : 0 < c.2.length := Nat.lt_of_le_of_lt (Nat.zero_le _) h
  have lenE : ∀ i, i < c.2.length → len (it (c.2.length * c.2.length) c) i = len c i + c.2.length := fun i hi => by
    rw [e]
    exact getD_map_add _ _ hi
  have fr : Free (it (c.2.length * c.2.length) c) := fun i hi => by
    rw [it_len] at hi
    obtain ⟨t, t1, t2, _⟩ := step_of (c.2.length * c.2.length) i (len c i + 1) h (by omega) (by rw [lenE i hi]; omega)
    rw [← t2]
    exact rch_been h (by omega)
  have goE : ∀ i, i < c.2.length → go (it (c.2.length * c.2.length) c) i = go c i := fun i hi => by
    unfold go
    rw [lenE i hi, it_len, ← Nat.add_assoc, Nat.add_mod_right]
  have gonE : ∀ k i, i < c.2.length → gon (it (c.2.length * c.2.length) c) k i = gon c k i := by
    intro k
    induction k with
    | zero => intro i _; rfl
    | succ k ih =>
      intro i hi
      show gon _ k (go _ i) = gon c k (go c i)
      rw [goE i hi]
      exact ih _ (Nat.mod_lt _ hp)
  intro i hi
  obtain ⟨k, q⟩ := fr i (by rw [it_len]; exact hi)
  rw [gonE k i hi] at q
  exact ⟨k, by rw [q, e]⟩
end Lk
end
section
/-! Rings of last goings. -/
namespace Lk
theorem go_lt {c : Cd} (h : COk c) (i : Nat) : go c i < c.2.length := Nat.mod_lt _ (Nat.lt_of_le_of_lt (Nat.zero_le _) h)
theorem gon_lt {c : Cd} (h : COk c) {i : Nat} (hi : i < c.2.length) : ∀ k, gon c k i < c.2.length
  | 0 => hi
  | k + 1 => by rw [gon_succ]; exact go_lt h _
/-- k goings from a lead round it, past places that are greater and not the coder's own -/
structure RingK (c : Cd) (a k : Nat) : Prop where
  pos : 0 < k
  home : ∀ j, j < k → gon c j a ≠ c.1
  least : ∀ j, 0 < j → j < k → a < gon c j a
  back : gon c k a = a
def ringL (c : Cd) (a k : Nat) : List Nat := (List.range k).map fun j => gon c j a
def RingAt (c : Cd) (a : Nat) : Prop := ∃ k, RingK c a k
theorem ringK_never {c : Cd} {a k : Nat} (r : RingK c a k) : ∀ m, gon c m a ≠ c.1 := by
  intro m
  induction m using Nat.strongRecOn with
  | ind m ih =>
    by_cases g : m < k
    · exact r.home m g
    · have e : m = k + (m - k) := by omega
      rw [e, gon_add, r.back]
      exact ih (m - k) (by have := r.pos; omega)
theorem ringK_inj {c : Cd} {a k j : Nat} (r : RingK c a k) (s : RingK c a j) : k = j := by
  have key : ∀ {k j : Nat}, RingK c a k → RingK c a j → ¬ k < j := fun r s g => by
    have z := s.least _ r.pos g
    rw [r.back] at z
    omega
  have h1 := key r s
  have h2 := key s r
  omega
theorem ringL_nodup {c : Cd} {a k : Nat} (r : RingK c a k) : (ringL c a k).Nodup := by
  unfold ringL
  refine List.pairwise_map.mpr (List.Pairwise.imp_of_mem (R := fun i j => i < j) (fun {i j} hi hj hl e => ?_) List.pairwise_lt_range)
  rw [List.mem_range] at hi hj
  have z : gon c (i + (k - j)) a = a := by
    rw [gon_add, e, ← gon_add, show j + (k - j) = k by omega]
    exact r.back
  have w := r.least (i + (k - j)) (by omega) (by omega)
  omega
theorem nodup_below {l : List Nat} {p : Nat} (n : l.Nodup) (h : ∀ x ∈ l, x < p) : l.length ≤ p := by
  have z := List.Nodup.length_le_of_subset n (l₂ := List.range p) fun x hx => List.mem_range.mpr (h x hx)
  rw [List.length_range] at z
  exact z
theorem free_noring {c : Cd} (fr : Free c) {a : Nat} (ha : a < c.2.length) : ¬ RingAt c a := fun ⟨_, r⟩ => by
  obtain ⟨m, q⟩ := fr a ha
  exact ringK_never r m q
/-- the least number with a property -/
theorem least_of {Q : Nat → Prop} {n : Nat} (h : Q n) : ∃ m, Q m ∧ ∀ j, j < m → ¬ Q j := by
  induction n using Nat.strongRecOn with
  | ind n ih =>
    by_cases g : ∃ j, j < n ∧ Q j
    · obtain ⟨j, hj, q⟩ := g
      exact ih j hj q
    · exact ⟨n, h, fun j hj q => g ⟨j, hj, q⟩⟩
theorem repeats {p : Nat} {f : Nat → Nat} (h : ∀ m, f m < p) : ∃ j k, j < k ∧ f j = f k := by
  refine Classical.byContradiction fun no => ?_
  have nd : ((List.range (p + 1)).map f).Nodup :=
    List.pairwise_map.mpr (List.Pairwise.imp (R := fun i j => i < j) (fun {i j} hl e => no ⟨i, j, hl, e⟩) List.pairwise_lt_range)
  have z := nodup_below nd (p := p) fun x hx => by
    obtain ⟨m, _, e⟩ := List.mem_map.mp hx
    rw [← e]
    exact h m
  rw [List.length_map, List.length_range] at z
  omega
theorem ring_of {c : Cd} (h : COk c) {i : Nat} (hi : i < c.2.length) (no : ∀ m, gon c m i ≠ c.1) : ∃ a, a < c.2.length ∧ RingAt c a := by
  obtain ⟨j, k, hjk, e⟩ := repeats (f := fun m => gon c m i) fun m => gon_lt h hi m
  have per : gon c (k - j) (gon c j i) = gon c j i := by
    rw [← gon_add, show j + (k - j) = k by omega]
    exact e.symm
  obtain ⟨v, ⟨m0, e0⟩, hv⟩ := least_of (Q := fun v => ∃ m, gon c m (gon c j i) = v) ⟨0, rfl⟩
  have low : ∀ m, v ≤ gon c m v := fun m => by
    refine Nat.le_of_not_lt fun z => hv _ z ⟨m0 + m, ?_⟩
    rw [gon_add, e0]
  have hper : gon c (k - j) v = v := by
    rw [← e0, ← gon_add, Nat.add_comm, gon_add, per]
  obtain ⟨d, ⟨d0, d1⟩, hd⟩ := least_of (Q := fun d => 0 < d ∧ gon c d v = v) ⟨(by omega : 0 < k - j), hper⟩
  have hvlt : v < c.2.length := by rw [← e0]; exact gon_lt h (gon_lt h hi j) m0
  refine ⟨v, hvlt, d, d0, fun m _ => ?_, fun m m0 md => ?_, d1⟩
  · rw [← e0, ← gon_add, ← gon_add]
    exact no _
  · have z := low m
    have w : gon c m v ≠ v := fun z => hd m md ⟨m0, z⟩
    omega
theorem noring_free {c : Cd} (h : COk c) (no : ∀ a, a < c.2.length → ¬ RingAt c a) : Free c := fun i hi => by
  refine Classical.byContradiction fun z => ?_
  obtain ⟨a, ha, r⟩ := ring_of h hi fun m e => z ⟨m, e⟩
  exact no a ha r
/-- a walk from a, as far as it is told -/
structure PathK (c : Cd) (a : Nat) (k : Nat) : Prop where
  pos : 0 < k
  home : ∀ j, j < k → gon c j a ≠ c.1
  least : ∀ j, 0 < j → j < k → a < gon c j a
  nd : (ringL c a k).Nodup
theorem path_one {c : Cd} {a : Nat} (h : a ≠ c.1) : PathK c a 1 :=
  ⟨Nat.one_pos, fun j hj => by rw [show j = 0 by omega]; exact h, fun j h0 h1 => absurd h1 (by omega), List.pairwise_singleton _ _⟩
theorem ringL_succ {c : Cd} {a k : Nat} : ringL c a (k + 1) = ringL c a k ++ [gon c k a] := by
  unfold ringL
  rw [List.range_succ, List.map_append]
  rfl
theorem path_more {c : Cd} {a k : Nat} (r : PathK c a k) (h1 : a < gon c k a) (h2 : gon c k a ≠ c.1) (h3 : gon c k a ∉ ringL c a k) : PathK c a (k + 1) := by
  refine ⟨Nat.succ_pos _, fun j hj => ?_, fun j h0 hj => ?_, ?_⟩
  · by_cases g : j < k
    · exact r.home j g
    · rw [show j = k by omega]; exact h2
  · by_cases g : j < k
    · exact r.least j h0 g
    · rw [show j = k by omega]; exact h1
  · rw [ringL_succ]
    refine List.nodup_append.mpr ⟨r.nd, List.pairwise_singleton _ _, fun x hx y hy e => ?_⟩
    rw [List.mem_singleton] at hy
    exact h3 (by rw [← hy, ← e]; exact hx)
theorem path_len {c : Cd} (h : COk c) {a k : Nat} (ha : a < c.2.length) (r : PathK c a k) : k ≤ c.2.length := by
  have z := nodup_below r.nd (p := c.2.length) fun x hx => by
    obtain ⟨m, _, e⟩ := List.mem_map.mp hx
    rw [← e]
    exact gon_lt h ha m
  unfold ringL at z
  rw [List.length_map, List.length_range] at z
  exact z
/-- the walk ended: it is a ring just where it came back -/
theorem path_ring {c : Cd} {a k : Nat} (r : PathK c a k) (e : gon c k a = a) : RingK c a k := ⟨r.pos, r.home, r.least, e⟩
theorem path_none {c : Cd} {a k : Nat} (r : PathK c a k) (hend : ¬ (a < gon c k a ∧ gon c k a ≠ c.1 ∧ gon c k a ∉ ringL c a k)) (e : gon c k a ≠ a) : ¬ RingAt c a := fun ⟨d, s⟩ => by
  have hkd : k < d := by
    refine Classical.byContradiction fun g => ?_
    by_cases g2 : d < k
    · have z := r.least d s.pos g2
      rw [s.back] at z
      omega
    · have : d = k := by omega
      rw [← this, s.back] at e
      exact e rfl
  refine hend ⟨s.least k r.pos hkd, s.home k hkd, fun hm => ?_⟩
  have nd := ringL_nodup s
  obtain ⟨j, hj, ej⟩ := List.mem_map.mp hm
  rw [List.mem_range] at hj
  have z : gon c (j + (d - k)) a = a := by
    rw [gon_add, ej, ← gon_add, show k + (d - k) = d by omega]
    exact s.back
  have w := s.least (j + (d - k)) (by omega) (by omega)
  omega
/-- what ring_from tells -/
def RingFrom (c : Cd) (a : Nat) (r : Option (List Nat)) : Prop := (∃ k, RingK c a k ∧ r = some (ringL c a k)) ∨ (¬ RingAt c a ∧ r = none)
/-- what ring tells -/
def RingOf (c : Cd) (r : Option (List Nat)) : Prop := (∃ a k, a < c.2.length ∧ RingK c a k ∧ (∀ b, b < a → ¬ RingAt c b) ∧ r = some (ringL c a k)) ∨ ((∀ a, a < c.2.length → ¬ RingAt c a) ∧ r = none)
theorem ringOf_free {c : Cd} (h : COk c) {r : Option (List Nat)} (q : RingOf c r) : r = none ↔ Free c := by
  rcases q with ⟨a, k, ha, rk, _, rfl⟩ | ⟨no, rfl⟩
  · exact ⟨fun z => (by cases z), fun fr => absurd ⟨k, rk⟩ (free_noring fr ha)⟩
  · exact ⟨fun _ => noring_free h no, fun _ => rfl⟩
/-- how many steps a coder takes at least till it is free -/
def Ahead (c : Cd) (n : Nat) : Prop := Free (it n c) ∧ ∀ m, m < n → ¬ Free (it m c)
theorem ahead_le {c : Cd} (h : COk c) {n : Nat} (a : Ahead c n) : n ≤ (c.2.length - 1) * (c.2.length - 1) + 1 :=
  Nat.le_of_not_lt fun z => a.2 _ z (free_late h (Nat.le_refl _))
theorem ahead_is {c : Cd} (h : COk c) : ∃ n, Ahead c n := least_of (free_late h (Nat.le_refl _))
theorem ahead_one {c : Cd} {n m : Nat} (a : Ahead c n) (b : Ahead c m) : n = m := by
  have h1 : ¬ n < m := fun z => b.2 _ z a.1
  have h2 : ¬ m < n := fun z => a.2 _ z b.1
  omega
end Lk
end
section
/-! Far steps, words. -/
namespace Lk
theorem it_rounds {c : Cd} (h : COk c) (fr : Free c) : ∀ R, it (R * (c.2.length * c.2.length)) c = (c.1, c.2.map (· + R * c.2.length))
  | 0 => by
    rw [Nat.zero_mul]
    refine Prod.ext rfl ?_
    show c.2 = _
    rw [show (fun n : Nat => n + 0 * c.2.length) = id from funext fun n => by simp, List.map_id]
  | R + 1 => by
    have e1 : it ((R + 1) * (c.2.length * c.2.length)) c = it (c.2.length * c.2.length) (it (R * (c.2.length * c.2.length)) c) := by
      rw [Nat.add_mul, Nat.one_mul, it_add]
    have h2 := it_ok (R * (c.2.length * c.2.length)) h
    have f2 := free_it (R * (c.2.length * c.2.length)) h fr
    have r := it_round h2 f2
    rw [it_len] at r
    rw [e1, r, it_rounds h fr R]
    refine Prod.ext rfl ?_
    show (c.2.map _).map _ = _
    rw [List.map_map]
    refine List.map_congr_left fun n _ => ?_
    show n + R * c.2.length + c.2.length = n + (R + 1) * c.2.length
    rw [Nat.add_mul, Nat.one_mul, Nat.add_assoc]
/-- as many whole rounds as may be taken at once -/
def rnds (p n : Nat) : Nat := (n - ((p - 1) * (p - 1) + 1)) / (p * p)
theorem rnds_le (p n : Nat) : rnds p n * (p * p) ≤ n := Nat.le_trans (Nat.div_mul_le_self _ _) (Nat.sub_le _ _)
theorem rnds_left (p n : Nat) (hp : 0 < p) : n - rnds p n * (p * p) < (p - 1) * (p - 1) + 1 + p * p := by
  have hpp : 0 < p * p := Nat.mul_pos hp hp
  have a := Nat.div_add_mod (n - ((p - 1) * (p - 1) + 1)) (p * p)
  have b := Nat.mod_lt (n - ((p - 1) * (p - 1) + 1)) hpp
  unfold rnds
  rw [Nat.mul_comm (p * p)] at a
  omega
theorem far {c : Cd} (h : COk c) (n : Nat) : it n c = ((it (n - rnds c.2.length n * (c.2.length * c.2.length)) c).1, (it (n - rnds c.2.length n * (c.2.length * c.2.length)) c).2.map (· + rnds c.2.length n * c.2.length)) := by
  have hle := rnds_le c.2.length n
  have e : n = (n - rnds c.2.length n * (c.2.length * c.2.length)) + rnds c.2.length n * (c.2.length * c.2.length) := by omega
  by_cases g : rnds c.2.length n = 0
  · rw [g, Nat.zero_mul, Nat.zero_mul, Nat.sub_zero]
    refine Prod.ext rfl ?_
    show _ = List.map _ _
    rw [show (fun n : Nat => n + 0) = id from funext fun n => by simp, List.map_id]
  · have late : (c.2.length - 1) * (c.2.length - 1) + 1 ≤ n - rnds c.2.length n * (c.2.length * c.2.length) := by
      have z := Nat.div_mul_le_self (n - ((c.2.length - 1) * (c.2.length - 1) + 1)) (c.2.length * c.2.length)
      have y : 0 < n - ((c.2.length - 1) * (c.2.length - 1) + 1) := by
        refine Nat.pos_of_ne_zero fun q => g ?_
        unfold rnds
        rw [q, Nat.zero_div]
      unfold rnds
      omega
    have fr := free_late h late
    have r := it_rounds (it_ok (n - rnds c.2.length n * (c.2.length * c.2.length)) h) fr (rnds c.2.length n)
    rw [it_len] at r
    have e2 : it n c = it (rnds c.2.length n * (c.2.length * c.2.length)) (it (n - rnds c.2.length n * (c.2.length * c.2.length)) c) := by
      rw [← it_add, ← e]
    rw [e2, r]
/-- the word of a step -/
def wd (c : Cd) : Nat × Nat := (c.1, len c c.1 + 1)
def wds (n : Nat) (c : Cd) : List (Nat × Nat) := (List.range n).map fun t => wd (it t c)
theorem wds_len (n : Nat) (c : Cd) : (wds n c).length = n := by
  unfold wds
  rw [List.length_map, List.length_range]
theorem wds_succ (n : Nat) (c : Cd) : wds (n + 1) c = wds n c ++ [wd (it n c)] := by
  unfold wds
  rw [List.range_succ, List.map_append]
  rfl
end Lk
end
section
set_option maxRecDepth 100000
set_option maxHeartbeats 2000000
/-! Things as data; heaps; calls by name. -/
namespace Lk
open PySem PySem.Spec PyProof.Rows L2
mutual
/-- v is this data, all of it made in the run -/
inductive Th (H : Hp) : V → PyData → Prop
  | non : Th H .non .none
  | bl (b : Bool) : Th H (.bl b) (.bool b)
  | int (i : Int) : Th H (.int i) (.int i)
  | str (x : Str) : Th H (.str x) (.str x)
  | lst {a : Addr} {xs : List V} {ds : List PyData} (e : H a = some (.lst xs)) (m : ThAll H xs ds) : Th H (.ref a) (.list ds)
  | tup {a : Addr} {xs : List V} {ds : List PyData} (e : H a = some (.tup xs)) (m : ThAll H xs ds) : Th H (.ref a) (.tuple ds)
  | dct {a : Addr} (e : H a = some (.dK [])) : Th H (.ref a) (.dict [])
inductive ThAll (H : Hp) : List V → List PyData → Prop
  | nil : ThAll H [] []
  | cons {v : V} {vs : List V} {d : PyData} {ds : List PyData} (h : Th H v d) (m : ThAll H vs ds) : ThAll H (v :: vs) (d :: ds)
end
/-- what stands at addresses of P is as it was -/
def Keep (P : Addr → Prop) (H H2 : Hp) : Prop := ∀ b o, P b → H b = some o → H2 b = some o
mutual
theorem Th.same {H H2 : Hp} (s : Same H H2) : ∀ (d : PyData) {v : V}, Th H v d → Th H2 v d
  | .none, _, h => by cases h; exact .non
  | .bool b, _, h => by cases h; exact .bl b
  | .int i, _, h => by cases h; exact .int i
  | .str x, _, h => by cases h; exact .str x
  | .list ds, _, h => by
    cases h with
    | lst e m => exact .lst (s _ _ e) (ThAll.same s ds m)
  | .tuple ds, _, h => by
    cases h with
    | tup e m => exact .tup (s _ _ e) (ThAll.same s ds m)
  | .dict kvs, _, h => by
    cases h with
    | dct e => exact .dct (s _ _ e)
theorem ThAll.same {H H2 : Hp} (s : Same H H2) : ∀ (ds : List PyData) {vs : List V}, ThAll H vs ds → ThAll H2 vs ds
  | [], _, h => by cases h; exact .nil
  | d :: ds, _, h => by
    cases h with
    | cons a b => exact .cons (Th.same s d a) (ThAll.same s ds b)
end
mutual
theorem Th.dq {K : PySem.W.Frag} {H : Hp} : ∀ (d : PyData) {v : V}, Th H v d → Dq K H v d
  | .none, _, h => by cases h; exact .non
  | .bool b, _, h => by cases h; exact .bl b
  | .int i, _, h => by cases h; exact .int i
  | .str x, _, h => by cases h; exact .str x
  | .list ds, _, h => by
    cases h with
    | lst e m => exact .lst (SqL.of e) (ThAll.dq ds m)
  | .tuple ds, _, h => by
    cases h with
    | tup e m => exact .tup (SqT.of e) (ThAll.dq ds m)
  | .dict kvs, _, h => by
    cases h with
    | dct e => exact .dct e
theorem ThAll.dq {K : PySem.W.Frag} {H : Hp} : ∀ (ds : List PyData) {vs : List V}, ThAll H vs ds → DqAll K H vs ds
  | [], _, h => by cases h; exact .nil
  | d :: ds, _, h => by
    cases h with
    | cons a b => exact .cons (Th.dq d a) (ThAll.dq ds b)
end
theorem ThAll.length {H : Hp} : ∀ {vs : List V} {ds : List PyData}, ThAll H vs ds → vs.length = ds.length
  | _, _, .nil => rfl
  | _, _, .cons _ m => by rw [List.length_cons, List.length_cons, m.length]
theorem ThAll.get {H : Hp} : ∀ {vs : List V} {ds : List PyData}, ThAll H vs ds → ∀ {i : Nat} {v : V}, vs[i]? = some v → ∃ d, ds[i]? = some d ∧ Th H v d
  | _, _, .nil, i, v, h => by simp at h
  | _, _, .cons a m, 0, v, h => by
    cases h
    exact ⟨_, rfl, a⟩
  | _, _, .cons a m, i + 1, v, h => m.get (i := i) (by simpa using h)
theorem ThAll.get2 {H : Hp} : ∀ {vs : List V} {ds : List PyData}, ThAll H vs ds → ∀ {i : Nat} {d : PyData}, ds[i]? = some d → ∃ v, vs[i]? = some v ∧ Th H v d
  | _, _, .nil, i, v, h => by simp at h
  | _, _, .cons a m, 0, v, h => by
    cases h
    exact ⟨_, rfl, a⟩
  | _, _, .cons a m, i + 1, v, h => m.get2 (i := i) (by simpa using h)
theorem ThAll.append {H : Hp} : ∀ {vs us : List V} {ds es : List PyData}, ThAll H vs ds → ThAll H us es → ThAll H (vs ++ us) (ds ++ es)
  | _, _, _, _, .nil, h => h
  | _, _, _, _, .cons a m, h => .cons a (m.append h)
theorem ThAll.ints {H : Hp} : ∀ ns : List Int, ThAll H (ns.map V.int) (ns.map PyData.int)
  | [] => .nil
  | n :: ns => .cons (.int n) (.ints ns)
def tyN : PyData → String
  | .none => "NoneType"
  | .bool _ => "bool"
  | .int _ => "int"
  | .str _ => "str"
  | .list _ => "list"
  | .tuple _ => "tuple"
  | .dict _ => "dict"
theorem Th.ty {K : PySem.W.Frag} {H : Hp} {v : V} {d : PyData} (h : Th H v d) : TyX K H v (.type (tyN d)) := by
  cases h with
  | non => exact .base .non
  | bl b => exact .base (.bl b)
  | int i => exact .base (.int i)
  | str x => exact .base (.str x)
  | lst e m => exact .base (.lst e)
  | tup e m => exact .base (.tup e)
  | dct e => exact .base (.dK e)
def isT : PyData → Bool
  | .tuple _ => true
  | _ => false
def isL : PyData → Bool
  | .list _ => true
  | _ => false
def isI : PyData → Bool
  | .int _ => true
  | .bool _ => true
  | _ => false
def isB : PyData → Bool
  | .bool _ => true
  | _ => false
theorem kit_tuple {K : PySem.W.Frag} (d : PyData) : PySem.W.kitOne K (.type (tyN d)) (.type "tuple") = some (isT d) := kit_ty (by cases d <;> (simp only [tyN, isT]; decide +kernel))
theorem kit_list {K : PySem.W.Frag} (d : PyData) : PySem.W.kitOne K (.type (tyN d)) (.type "list") = some (isL d) := kit_ty (by cases d <;> (simp only [tyN, isL]; decide +kernel))
theorem kit_int {K : PySem.W.Frag} (d : PyData) : PySem.W.kitOne K (.type (tyN d)) (.type "int") = some (isI d) := kit_ty (by cases d <;> (simp only [tyN, isI]; decide +kernel))
theorem kit_bool {K : PySem.W.Frag} (d : PyData) : PySem.W.kitOne K (.type (tyN d)) (.type "bool") = some (isB d) := kit_ty (by cases d <;> (simp only [tyN, isB]; decide +kernel))
/-! ### heaps -/
/-- all but what stands at a is as it was -/
def SameBut (a : Addr) (H H' : Hp) : Prop := ∀ b o, b ≠ a → H b = some o → H' b = some o
theorem SameBut.trans {a : Addr} {H H1 H2 : Hp} (x : SameBut a H H1) (y : SameBut a H1 H2) : SameBut a H H2 := fun b o n e => y b o n (x b o n e)
theorem SameBut.refl {a : Addr} {H : Hp} : SameBut a H H := fun _ _ _ e => e
theorem sameBut_upd {a : Addr} {H : Hp} {o : HO} : SameBut a H (upd H a o) := fun b u n e => by rw [upd_ne n]; exact e
theorem same_new {p : Addr} {H : Hp} {o : HO} (h : H p = none) : Same H (upd H p o) := fun b u e => by rw [upd_ne (ne_of_none e h)]; exact e
theorem same_push {H H1 : Hp} {D : Addr} {o : HO} (s : Same H H1) (hD : H D = none) : Same H (upd H1 D o) := fun b u e => by
  rw [upd_ne (ne_of_none e hD)]
  exact s b u e
theorem Same.but {a : Addr} {H H' : Hp} (h : Same H H') : SameBut a H H' := fun b o _ e => h b o e
/-! ### a def that may raise, by its name -/
structure CalX (P : Program) (w : World) (K : PySem.W.Frag) (mg : Str → Option Value) (base : Heap) (k : Nat) (x : Str) (sp : Sp) : Prop where
  ex : ∃ (f : Addr) (fd : FuncData) (ps : List Str), FnOk P w K mg base (L2.CX P w) k f fd ps sp ∧ mg x = some (.ref f) ∧ PySem.W.keepIn K (.ref f) = true ∧ Binds K fd ps []
section
variable {X : Cx} {k j : Nat} {x : Str} {sp : Sp} {p pos : Pos} {e : Expr} {es : List Expr} {t : TA} {W : WX}
/-- .. what it raises is taken around -/
theorem pe_cX (c : CalX X.prog X.w X.K X.mg X.base k x sp) (tk : Takes X W) (hr : Room j X.A) (hk : k ≤ j) (hg : Gl X x) (ha : PA X (e :: es) t)
    (hdb : (x == ("__debug__" : Str)) = false := by decide) (he : starEach (e :: es) X.env = (false, eval e X.env) :: starEach es X.env := by rfl) (hpl : (backTo pos (starEach es X.env)).any (·.1) = false := by rfl) :
    PE X (.Call (.Name x p) (e :: es) [] pos) (tCallS sp (WE W) t) := by
  obtain ⟨f, fd, ps, F, hm, kp, b⟩ := c.ex
  exact pe_callS F (hr.mono hk) hg hm kp b (fun σ => passAt tk σ) ha hdb he hpl
/-- .. where it raises nothing -/
theorem pe_c0 (c : CalX X.prog X.w X.K X.mg X.base k x sp) (hr : Room j X.A) (hk : k ≤ j) (hg : Gl X x) (ha : PA X (e :: es) t)
    (hdb : (x == ("__debug__" : Str)) = false := by decide) (he : starEach (e :: es) X.env = (false, eval e X.env) :: starEach es X.env := by rfl) (hpl : (backTo pos (starEach es X.env)).any (·.1) = false := by rfl) :
    PE X (.Call (.Name x p) (e :: es) [] pos) (tCall sp [] E0 t) := by
  obtain ⟨f, fd, ps, F, hm, kp, b⟩ := c.ex
  exact pe_call F (hr.mono hk) hg hm kp b .nil passL ha hdb he hpl
end
/-- a class of the program's own over ValueError, as the top has written it -/
structure ErrC (K : PySem.W.Frag) (mg : Str → Option Value) (x : Str) (C : Addr) : Prop where
  g : mg x = some (.ref C)
  k : PySem.W.keepIn K (.ref C) = true
  x : PySem.W.excIn K C [.type "ValueError", .type "Exception", .type "BaseException", .type "object"] "ValueError.__new__" = true
  b : PySem.W.subIn K (.ref C) (.type "BaseException") = some true
  t : PySem.W.typeIn K (.ref C) = some (.type "type")
/-! ### rules that name the written part, for use within a comprehension -/
def rLenS (K : PySem.W.Frag) : List V → Hp → VK → Prop := fun xs H Q => ∃ p ys, xs = [.ref p] ∧ (SqL K H p ys ∨ SqT K H p ys) ∧ Q (.int ((ys.length : Nat) : Int)) H
theorem call_lenK {X : Cx} {K : PySem.W.Frag} (h : X.K = K) : CallR X (.builtin "len") (rLenS K) := by
  subst h
  exact call_len_seq
theorem ix_tupK {X : Cx} {K : PySem.W.Frag} (h : X.K = K) : IxR X (rIxT K) := by
  subst h
  exact ix_tup
theorem ix_listK {X : Cx} {K : PySem.W.Frag} (h : X.K = K) : IxR X (rIxL K) := by
  subst h
  exact ix_list
/-- a comprehension that gathers truths, its list at D -/
theorem snoc_bl {H4 : Hp} {D : Addr} {bs : List Bool} {i : Nat} {b : Bool} (e : H4 D = some (.lst ((bs.take i).map V.bl))) (hb : bs[i]? = some b) (hl : bs.length ≤ 100000) :
    ∃ acc, H4 D = some (.lst acc) ∧ acc.length < sizeLine ∧ upd H4 D (.lst (acc ++ [V.bl b])) D = some (.lst ((bs.take (i + 1)).map V.bl)) ∧ acc = (bs.take i).map V.bl := by
  refine ⟨_, e, ?_, ?_, rfl⟩
  · rw [List.length_map, List.length_take]
    exact Nat.lt_of_le_of_lt (show min i bs.length ≤ 100000 by omega) (by decide)
  · rw [upd_same, List.take_add_one, hb, List.map_append]
    rfl
/-- a comprehension that gathers, its list at D -/
theorem snoc_map {α : Type} {f : α → V} {H4 : Hp} {D : Addr} {l : List α} {i : Nat} {x : α} (e : H4 D = some (.lst ((l.take i).map f))) (hx : l[i]? = some x) (hl : l.length ≤ 1000000) :
    ∃ acc, H4 D = some (.lst acc) ∧ acc.length < sizeLine ∧ upd H4 D (.lst (acc ++ [f x])) D = some (.lst ((l.take (i + 1)).map f)) := by
  refine ⟨_, e, ?_, ?_⟩
  · rw [List.length_map, List.length_take]
    exact Nat.lt_of_le_of_lt (show min i l.length ≤ 1000000 by omega) (by decide)
  · rw [upd_same, List.take_add_one, hx, List.map_append]
    rfl
theorem cut_to {xs : List V} {n : Nat} (h : n ≤ xs.length) : cutV xs none (some (n : Int)) = xs.take n := by
  unfold cutV
  rw [HT.sIx_none, HT.sIx_nat]
  show (xs.drop 0).take (min n xs.length - 0) = _
  rw [List.drop_zero, Nat.sub_zero, Nat.min_eq_left h]
theorem cut_from {xs : List V} {n : Nat} : cutV xs (some (n : Int)) none = xs.drop n := by
  unfold cutV
  rw [HT.sIx_none, HT.sIx_nat]
  by_cases h : n ≤ xs.length
  · rw [Nat.min_eq_left h]
    exact List.take_of_length_le (by rw [List.length_drop]; omega)
  · rw [Nat.min_eq_right (by omega), List.drop_length, List.drop_eq_nil_of_le (by omega)]
    exact List.take_nil
end Lk
end
section
set_option maxRecDepth 100000
set_option maxHeartbeats 2000000
/-! kinds, is_coder of anything, next_coder. -/
namespace Lk
open PySem PySem.Spec PyProof.Rows L2
abbrev vN (n : Nat) : V := .int (n : Int)
abbrev dN (n : Nat) : PyData := .int (n : Int)
def isW : PyData → Bool
  | .int _ => true
  | _ => false
def inR : PyData → Int → Int → Bool
  | .int i, a, b => decide (a ≤ i) && decide (i ≤ b)
  | _, _, _ => false
def natD : PyData → Bool
  | .int i => decide (0 ≤ i)
  | _ => false
def isCd : PyData → Bool
  | .tuple [p, .tuple ls] => (decide (1 ≤ ls.length) && decide (ls.length ≤ 12)) && (inR p 0 ((ls.length : Int) - 1) && ls.all natD)
  | _ => false
section
variable {P : Program} {w : World} {K : PySem.W.Frag} {mg : Str → Option Value} {base : Heap}
def spWhole : Sp := fun vs H Q _ => ∃ v d, vs = [v] ∧ Th H v d ∧ Q (.bl (isW d)) H
def spWithin : Sp := fun vs H Q _ => ∃ v d a b, vs = [v, .int a, .int b] ∧ Th H v d ∧ Q (.bl (inR d a b)) H
/-- which bounds are asked -/
def Asked (a b : Int) : Prop := a = 0 ∧ b = 2000 ∨ a = 0 ∧ b = 10 ^ 18 ∨ a = 1 ∧ b = 12 ∨ a = 1 ∧ b = 6 ∨ a = 1 ∧ b = 10 ^ 18 ∨ a = 0 ∧ b = 10 ^ 36
def spCount (C : Addr) : Sp := fun vs H Q E => ∃ v d a b, vs = [v, .int a, .int b] ∧ Asked a b ∧ Th H v d ∧ (inR d a b = true → Q .non H) ∧ (inR d a b = false → E (.ref C) none H)
/-! ### coders -/
/-- the coder c stands at v -/
def Cat (H : Hp) (v : V) (c : Cd) : Prop := ∃ a b, v = .ref a ∧ H a = some (.tup [.int (c.1 : Int), .ref b]) ∧ H b = some (.tup (c.2.map vN))
theorem Cat.same {H H2 : Hp} {v : V} {c : Cd} (s : Same H H2) (h : Cat H v c) : Cat H2 v c := by
  obtain ⟨a, b, e, h1, h2⟩ := h
  exact ⟨a, b, e, s _ _ h1, s _ _ h2⟩
def cdD (c : Cd) : PyData := .tuple [.int (c.1 : Int), .tuple (c.2.map dN)]
def CdOk (c : Cd) : Prop := COk c ∧ c.2.length ≤ 12
theorem CdOk.pos {c : Cd} (h : CdOk c) : 0 < c.2.length := Nat.lt_of_le_of_lt (Nat.zero_le _) h.1
theorem ints_nat {H : Hp} : ∀ ls : List Nat, ThAll H (ls.map vN) (ls.map dN)
  | [] => .nil
  | n :: ls => .cons (.int n) (ints_nat ls)
theorem nat_ints {H : Hp} : ∀ {vs : List V} {ls : List Nat}, ThAll H vs (ls.map dN) → vs = ls.map vN
  | _, [], h => by cases h; rfl
  | _, n :: ls, h => by
    cases h with
    | cons a m =>
      cases a
      rw [nat_ints m]
      rfl
theorem Cat.th {H : Hp} {v : V} {c : Cd} (h : Cat H v c) : Th H v (cdD c) := by
  obtain ⟨a, b, rfl, h1, h2⟩ := h
  exact .tup h1 (.cons (.int _) (.cons (.tup h2 (ints_nat c.2)) .nil))
theorem Th.cat {H : Hp} {v : V} {c : Cd} (h : Th H v (cdD c)) : Cat H v c := by
  unfold cdD at h
  cases h with
  | tup e m =>
    cases m with
    | cons a m =>
      cases m with
      | cons b m =>
        cases m
        cases a
        cases b with
        | tup e2 m2 =>
          rw [nat_ints m2] at e2
          exact ⟨_, _, rfl, e, e2⟩
theorem nats_of : ∀ {ds : List PyData}, ds.all natD = true → ∃ ls : List Nat, ds = ls.map dN
  | [], _ => ⟨[], rfl⟩
  | d :: ds, h => by
    rw [List.all_cons, Bool.and_eq_true] at h
    obtain ⟨ls, rfl⟩ := nats_of h.2
    cases d with
    | int i =>
      have z : 0 ≤ i := of_decide_eq_true h.1
      exact ⟨i.toNat :: ls, by rw [List.map_cons]; show _ = PyData.int _ :: _; rw [Int.toNat_of_nonneg z]⟩
    | _ => cases h.1
theorem isCd_of {d : PyData} (h : isCd d = true) : ∃ c, d = cdD c ∧ CdOk c := by
  unfold isCd at h
  split at h
  · rename_i p ls
    rw [Bool.and_eq_true, Bool.and_eq_true, Bool.and_eq_true, decide_eq_true_eq, decide_eq_true_eq] at h
    obtain ⟨⟨h1, h2⟩, h3, h4⟩ := h
    obtain ⟨ns, rfl⟩ := nats_of h4
    rw [List.length_map] at h1 h2 h3
    cases p with
    | int i =>
      have z : (decide (0 ≤ i) && decide (i ≤ (ns.length : Int) - 1)) = true := h3
      rw [Bool.and_eq_true, decide_eq_true_eq, decide_eq_true_eq] at z
      exact ⟨(i.toNat, ns), by unfold cdD; rw [Int.toNat_of_nonneg z.1], by show i.toNat < ns.length; omega, h2⟩
    | _ => cases h3
  · cases h
theorem natD_all : ∀ ls : List Nat, (ls.map dN).all natD = true
  | [] => rfl
  | n :: ls => by
    rw [List.map_cons, List.all_cons, natD_all ls, Bool.and_true]
    exact decide_eq_true (show (0 : Int) ≤ (n : Int) by omega)
theorem isCd_cdD {c : Cd} (h : CdOk c) : isCd (cdD c) = true := by
  have h1 : c.1 < c.2.length := h.1
  have h2 := h.2
  show ((decide (1 ≤ _) && decide (_ ≤ 12)) && (inR (.int (c.1 : Int)) 0 _ && List.all _ natD)) = true
  rw [List.length_map, natD_all, Bool.and_true, decide_eq_true (show 1 ≤ c.2.length by omega), decide_eq_true h2]
  show ((true && true) && (decide ((0 : Int) ≤ (c.1 : Int)) && decide ((c.1 : Int) ≤ (c.2.length : Int) - 1))) = true
  rw [decide_eq_true (by omega), decide_eq_true (by omega)]
  rfl
def spIsCoder : Sp := fun vs H Q _ => ∃ v d, vs = [v] ∧ Th H v d ∧ ∀ H', Same H H' → Q (.bl (isCd d)) H'
theorem isCd_two {ds : List PyData} (h : ds.length ≠ 2) : isCd (.tuple ds) = false := by
  unfold isCd
  split
  · rename_i e
    cases e
    exact absurd rfl h
  · rfl
theorem isCd_no {p l : PyData} (h : isT l = false) : isCd (.tuple [p, l]) = false := by
  cases l <;> first | rfl | (cases h)
end
end Lk
end
section
set_option maxRecDepth 100000
set_option maxHeartbeats 2000000
/-! refuse_no_coder, next_coder, step, words_of, behind. -/
namespace Lk
open PySem PySem.Spec PyProof.Rows L2
/-- a slice of a tuple, new or not -/
def rCut (K : PySem.W.Frag) : V → Option Int → Option Int → Hp → VK → Prop := fun x lo hi H Q => ∃ a xs, x = .ref a ∧ SqT K H a xs ∧ ∀ b H', Same H H' → SqT K H' b (cutV xs lo hi) → (H' b = none ∨ H' b = some (.tup (cutV xs lo hi)) ∨ True) → Q (.ref b) H'
theorem sl_cut {X : Cx} : SlR X (rCut X.K) := by
  intro pins s σ H x v vl vu lo hi sl Q I rx hs pl pu h
  obtain ⟨a, xs, rfl, hx, q⟩ := h
  refine sl_tupA pins s σ H _ v vl vu _ _ sl Q I rx hs pl pu ⟨a, xs, rfl, hx, fun z => ?_, fun z p hp => ?_⟩
  · refine q a H (Same.refl H) ?_ (.inr (.inr trivial))
    have e : cutV xs lo hi = xs := by
      unfold cutV
      rw [z.1, z.2, List.drop_zero, Nat.sub_zero, List.take_length]
    rw [e]
    exact hx
  · exact q p _ (same_new hp) (.inl (.inl upd_same)) (.inr (.inr trivial))
theorem set_cut (l : List Nat) (i v : Nat) (h : i < l.length) : l.take i ++ v :: l.drop (i + 1) = l.set i v := by
  rw [List.set_eq_take_append_cons_drop, if_pos h]
theorem nat_at {l : List Nat} {i : Nat} (h : i < l.length) : (l.map vN)[i]? = some (V.int ((l.getD i 0 : Nat) : Int)) := by
  rw [List.getElem?_map, List.getD_eq_getElem?_getD, List.getElem?_eq_getElem h]
  rfl
/-- no list, no dict in it -/
def noL : PyData → Bool
  | .list _ => false
  | .dict _ => false
  | .tuple ds => noLs ds
  | _ => true
where noLs : List PyData → Bool
  | [] => true
  | d :: ds => noL d && noLs ds
mutual
theorem Th.but {H H2 : Hp} {W : Addr} {ws : List V} (hW : H W = some (.lst ws)) (s : SameBut W H H2) : ∀ (d : PyData) {v : V}, noL d = true → Th H v d → Th H2 v d
  | .none, _, _, h => by cases h; exact .non
  | .bool b, _, _, h => by cases h; exact .bl b
  | .int i, _, _, h => by cases h; exact .int i
  | .str x, _, _, h => by cases h; exact .str x
  | .list ds, _, n, _ => by cases n
  | .tuple ds, _, n, h => by
    cases h with
    | tup e m => exact .tup (s _ _ (fun z => by rw [z, hW] at e; cases e) e) (ThAll.but hW s ds n m)
  | .dict kvs, _, n, h => by cases n
theorem ThAll.but {H H2 : Hp} {W : Addr} {ws : List V} (hW : H W = some (.lst ws)) (s : SameBut W H H2) : ∀ (ds : List PyData) {vs : List V}, noL.noLs ds = true → ThAll H vs ds → ThAll H2 vs ds
  | [], _, _, h => by cases h; exact .nil
  | d :: ds, _, n, h => by
    have n2 : (noL d && noL.noLs ds) = true := n
    rw [Bool.and_eq_true] at n2
    cases h with
    | cons a b => exact .cons (Th.but hW s d n2.1 a) (ThAll.but hW s ds n2.2 b)
end
theorem noLs_append {ds es : List PyData} (a : noL.noLs ds = true) (b : noL.noLs es = true) : noL.noLs (ds ++ es) = true := by
  induction ds with
  | nil => exact b
  | cons d ds ih =>
    have n2 : (noL d && noL.noLs ds) = true := a
    rw [Bool.and_eq_true] at n2
    show (noL d && noL.noLs (ds ++ es)) = true
    rw [n2.1, ih n2.2]
    rfl
theorem noLs_map {α : Type} {f : α → PyData} (h : ∀ x, noL (f x) = true) : ∀ l : List α, noL.noLs (l.map f) = true
  | [] => rfl
  | x :: l => by
    show (noL (f x) && noL.noLs (l.map f)) = true
    rw [h, noLs_map h l]
    rfl
theorem noL_cdD (c : Cd) : noL (cdD c) = true := by
  show (true && (noL.noLs _ && true)) = true
  rw [noLs_map (f := dN) (fun _ => rfl) c.2]
  rfl
theorem Cat.but {H H2 : Hp} {W : Addr} {ws : List V} {v : V} {c : Cd} (hW : H W = some (.lst ws)) (s : SameBut W H H2) (h : Cat H v c) : Cat H2 v c := (Th.but hW s (cdD c) (noL_cdD c) h.th).cat
def dW (w : Nat × Nat) : PyData := .tuple [dN w.1, dN w.2]
theorem noL_dW (w : Nat × Nat) : noL (dW w) = true := rfl
section
variable {P : Program} {w : World} {K : PySem.W.Frag} {mg : Str → Option Value} {base : Heap}
def spRefCoder (C : Addr) : Sp := fun vs H Q E => ∃ v d, vs = [v] ∧ Th H v d ∧ (isCd d = true → ∀ H', Same H H' → Q .non H') ∧ (isCd d = false → ∀ H', Same H H' → E (.ref C) none H')
/-- the lengths with one word more at a place -/
def spLonger : Sp := fun vs H Q _ => ∃ (b : Addr) (ls : List Nat) (p : Nat), vs = [.ref b, .int (p : Int)] ∧ H b = some (.tup (ls.map vN)) ∧ p < ls.length ∧ ls.length ≤ 12 ∧ ∀ b' H', Same H H' → H' b' = some (.tup ((ls.set p (ls.getD p 0 + 1)).map vN)) → Q (.ref b') H'
/-- so many rounds later: the lengths are as much more -/
def spLater : Sp := fun vs H Q _ => ∃ v c m, vs = [v, .int ((m : Nat) : Int)] ∧ Cat H v c ∧ CdOk c ∧ ∀ v' H', Same H H' → Cat H' v' (c.1, c.2.map (· + m * c.2.length)) → Q v' H'
def spTill : Sp := fun vs H Q _ => ∃ p : Nat, vs = [.int (p : Int)] ∧ 1 ≤ p ∧ p ≤ 12 ∧ Q (.int (((p - 1) * (p - 1) + 1 : Nat) : Int)) H
def spNext : Sp := fun vs H Q _ => ∃ v c, vs = [v] ∧ Cat H v c ∧ CdOk c ∧ ∀ v' H', Same H H' → Cat H' v' (nx c) → Q v' H'
end
end Lk
end
section
set_option maxRecDepth 100000
set_option maxHeartbeats 2000000
namespace Lk
open PySem PySem.Spec PyProof.Rows L2
theorem it_cdOk {c : Cd} (n : Nat) (h : CdOk c) : CdOk (it n c) := ⟨it_ok n h.1, by rw [it_len]; exact h.2⟩
theorem nx_cdOk {c : Cd} (h : CdOk c) : CdOk (nx c) := it_cdOk 1 h
theorem dW_at {H : Hp} {t : Addr} {a b : Nat} (e : H t = some (.tup [.int (a : Int), .int (b : Int)])) : Th H (.ref t) (dW (a, b)) := .tup e (.cons (.int _) (.cons (.int _) .nil))
section
variable {P : Program} {w : World} {K : PySem.W.Frag} {mg : Str → Option Value} {base : Heap}
/-- NoCoder, then NoCount of a number beyond m; else what is told of the coder and the number -/
def spOf (C1 C2 : Addr) (m : Nat) (told : Cd → Nat → VK → Hp → Prop) : Sp := fun vs H Q E => ∃ v u d e, vs = [v, u] ∧ Th H v d ∧ Th H u e ∧ (isCd d = false → ∀ H', Same H H' → E (.ref C1) none H') ∧
  (isCd d = true → inR e 0 m = false → ∀ H', Same H H' → E (.ref C2) none H') ∧ (∀ c (n : Nat), d = cdD c → CdOk c → e = .int n → n ≤ m → told c n Q H)
def toldWords (c : Cd) (n : Nat) (Q : VK) (H : Hp) : Prop := ∀ p H' ws, H p = none → Same H H' → H' p = some (.lst ws) → ThAll H' ws ((wds n c).map dW) → Q (.ref p) H'
def toldCoder (c : Cd) (n : Nat) (Q : VK) (H : Hp) : Prop := ∀ v H', Same H H' → Cat H' v (it n c) → Q v H'
theorem count_of {e : PyData} {m : Nat} (h : inR e 0 m = true) : ∃ n : Nat, e = .int n ∧ n ≤ m := by
  cases e with
  | int i =>
    have z : (decide ((0 : Int) ≤ i) && decide (i ≤ (m : Int))) = true := h
    rw [Bool.and_eq_true, decide_eq_true_eq, decide_eq_true_eq] at z
    exact ⟨i.toNat, by rw [Int.toNat_of_nonneg z.1], by omega⟩
  | _ => cases h
end
end Lk
end
section
set_option maxRecDepth 100000
set_option maxHeartbeats 2000000
/-! last_goings, ring_from, ring. -/
namespace Lk
open PySem PySem.Spec PyProof.Rows L2
def gos (c : Cd) : List Nat := (List.range c.2.length).map (go c)
theorem gos_len (c : Cd) : (gos c).length = c.2.length := by
  unfold gos
  rw [List.length_map, List.length_range]
theorem gos_at {c : Cd} {i : Nat} (h : i < c.2.length) : (gos c)[i]? = some (go c i) := by
  unfold gos
  rw [List.getElem?_map, List.getElem?_range h]
  rfl
theorem inV_nat (k : Nat) : ∀ l : List Nat, inV (vN k) (l.map vN) = decide (k ∈ l)
  | [] => rfl
  | x :: l => by
    show ((x : Int) == (k : Int) || inV (vN k) (l.map vN)) = _
    rw [inV_nat k l]
    by_cases e : k = x
    · rw [e, decide_eq_true List.mem_cons_self, beq_self_eq_true, Bool.true_or]
    · have e2 : ((x : Int) == (k : Int)) = false := beq_eq_false_iff_ne.mpr fun z => e (by omega)
      rw [e2, Bool.false_or]
      by_cases m : k ∈ l
      · rw [decide_eq_true m, decide_eq_true (List.mem_cons_of_mem _ m)]
      · rw [decide_eq_false m, decide_eq_false fun z => (List.mem_cons.mp z).elim e m]
theorem flat_nat : ∀ l : List Nat, (l.map vN).all flatV = true
  | [] => rfl
  | x :: l => by
    rw [List.map_cons, List.all_cons, flat_nat l]
    rfl
section
variable {P : Program} {w : World} {K : PySem.W.Frag} {mg : Str → Option Value} {base : Heap}
def spLast : Sp := fun vs H Q _ => ∃ v c, vs = [v] ∧ Cat H v c ∧ CdOk c ∧ ∀ p H', H p = none → Same H H' → H' p = some (.lst ((gos c).map vN)) → Q (.ref p) H'
/-- a list of places, new, or None -/
def ListV (H H' : Hp) (v : V) : Option (List Nat) → Prop
  | none => v = .non
  | some l => ∃ p, v = .ref p ∧ H p = none ∧ H' p = some (.lst (l.map vN))
def spRingFrom : Sp := fun vs H Q _ => ∃ (v : V) (c : Cd) (a : Nat), vs = [v, .int (a : Int)] ∧ Cat H v c ∧ CdOk c ∧ a < c.2.length ∧ ∀ r v' H', RingFrom c a r → Same H H' → ListV H H' v' r → Q v' H'
theorem ringL_one (c : Cd) (a : Nat) : ringL c a 1 = [a] := rfl
theorem ringL_len (c : Cd) (a k : Nat) : (ringL c a k).length = k := by
  unfold ringL
  rw [List.length_map, List.length_range]
end
end Lk
end
section
set_option maxRecDepth 100000
set_option maxHeartbeats 2000000
/-! ring, in_round, enter_round, ahead, round_of. -/
namespace Lk
open PySem PySem.Spec PyProof.Rows L2
theorem bl_iff {b : Bool} {A : Prop} (h : b = true ↔ A) : ∀ {a : Bool}, (a = true ↔ A) → a = b := fun {a} g => by
  cases a with
  | true => exact (h.mpr (g.mp rfl)).symm
  | false =>
    cases b with
    | false => rfl
    | true => exact absurd (g.mpr (h.mp rfl)) Bool.false_ne_true
theorem cdD_inj {x y : Cd} (e : cdD x = cdD y) : x = y := by
  unfold cdD at e
  injection e with e
  injection e with e1 e
  injection e with e2 _
  injection e1 with e1
  injection e2 with e2
  refine Prod.ext (by omega) ?_
  refine List.map_inj_right (f := dN) (fun a b h => ?_) |>.mp e2
  injection h with h
  omega
theorem dW_of {H : Hp} {v : V} {x : Nat × Nat} (h : Th H v (dW x)) : ∃ t, v = .ref t ∧ H t = some (.tup [.int (x.1 : Int), .int (x.2 : Int)]) := by
  cases h with
  | tup e m =>
    cases m with
    | cons a m =>
      cases m with
      | cons b m =>
        cases m
        cases a
        cases b
        exact ⟨_, rfl, e⟩
theorem ListV.at {H H1 H2 : Hp} {v : V} {r : Option (List Nat)} (s : Same H1 H2) (h : ListV H H1 v r) : ListV H H2 v r := by
  cases r with
  | none => exact h
  | some l =>
    obtain ⟨p, e, n, q⟩ := h
    exact ⟨p, e, n, s _ _ q⟩
theorem ListV.from {H H1 H2 : Hp} {v : V} {r : Option (List Nat)} (s : Same H H1) (h : ListV H1 H2 v r) : ListV H H2 v r := by
  cases r with
  | none => exact h
  | some l =>
    obtain ⟨p, e, n, q⟩ := h
    exact ⟨p, e, s.free n, q⟩
section
variable {P : Program} {w : World} {K : PySem.W.Frag} {mg : Str → Option Value} {base : Heap}
/-- NoCoder of what is none; else what is told of the coder -/
def spOne (C : Addr) (told : Cd → VK → Hp → Prop) : Sp := fun vs H Q E => ∃ v d, vs = [v] ∧ Th H v d ∧ (isCd d = false → ∀ H', Same H H' → E (.ref C) none H') ∧ (∀ c, d = cdD c → CdOk c → told c Q H)
def toldRing (c : Cd) (Q : VK) (H : Hp) : Prop := ∀ r v H', RingOf c r → Same H H' → ListV H H' v r → Q v H'
def toldIn (c : Cd) (Q : VK) (H : Hp) : Prop := ∀ b H', (b = true ↔ Free c) → Same H H' → Q (.bl b) H'
def toldEnter (c : Cd) (Q : VK) (H : Hp) : Prop := ∀ n v p H', Ahead c n → Same H H' → Cat H' v (it n c) → H' p = some (.tup [.int (n : Int), v]) → Q (.ref p) H'
def toldAhead (c : Cd) (Q : VK) (H : Hp) : Prop := ∀ (n : Nat) H', Ahead c n → Same H H' → Q (.int (n : Int)) H'
def toldRound (c : Cd) (Q : VK) (H : Hp) : Prop := ∀ n p H' ws, Ahead c n → H p = none → Same H H' → H' p = some (.lst ws) → ThAll H' ws ((wds (c.2.length * c.2.length) (it n c)).map fun x => dW (x.1, x.2 % c.2.length)) → Q (.ref p) H'
end
end Lk
end
section
namespace Lk
open PySem PySem.Spec PyProof.Rows L2
def top (i : Nat) : Stmt := PySem.Challenge.pw_looplearn_k09_rings.main.body.getD i (.Pass ⟨0, 0, 0, 0⟩)
abbrev s_is_whole : Stmt := top 4
abbrev s_is_within : Stmt := top 5
abbrev s_is_coder : Stmt := top 8
abbrev s_refuse_no_coder : Stmt := top 9
abbrev s_last_goings : Stmt := top 11
abbrev s_ring_from : Stmt := top 12
abbrev s_ring : Stmt := top 13
abbrev s_is_ring : Stmt := top 14
abbrev s_in_round : Stmt := top 15
abbrev s_law_bag : Stmt := top 17
abbrev s_law_pick : Stmt := top 18
abbrev s_law_coder : Stmt := top 19
abbrev s_law_step : Stmt := top 20
abbrev s_law_same : Stmt := top 21
abbrev s_law_after : Stmt := top 22
abbrev s_law_ahead : Stmt := top 23
abbrev s_law_ways : Stmt := top 24
abbrev s_law_rings : Stmt := top 25
abbrev s_law_others : Stmt := top 26
abbrev s_law : Stmt := top 27
end Lk
end
section
set_option maxRecDepth 100000
set_option maxHeartbeats 2000000
namespace Lk
open PySem PySem.Spec PyProof.Rows L2
section
variable {P : Program} {w : World} {K : PySem.W.Frag} {mg : Str → Option Value} {base : Heap}
theorem sc_whole : FnScope ["thing"] ["thing"] (defScope s_is_whole) := ⟨rfl, rfl, rfl, by decide +kernel, rfl, by decide +kernel, by decide +kernel⟩
theorem ok_whole {f : Addr} {fd : FuncData} (F : Fun K "is_whole" "is_whole" s_is_whole f fd) (mi : mg "isinstance" = none) (mn : mg "int" = none) (mb : mg "bool" = none) : FnOk P w K mg base CX0 1 f fd ["thing"] spWhole := by
  refine F.ok sc_whole (fun vs H Q E h => ?_) (fun cdv A outer s H vs Q E hr h => ?_)
  · obtain ⟨v, d, rfl, _⟩ := h
    rfl
  · obtain ⟨v, d, rfl, hv, q⟩ := h
    refine ⟨_, pss_one (ps_ret (pe_and (pe_callB call_isi (by rfl) mi (by decide +kernel) (pa_cons (pv 0) (pa_cons (pe_bltn (v := .ty "int") (by rfl) mn (by decide +kernel) rfl) pa_nil)))
      (pe_one (pe_not (pe_callB call_isi (by rfl) mi (by decide +kernel) (pa_cons (pv 0) (pa_cons (pe_bltn (v := .ty "bool") (by rfl) mb (by decide +kernel) rfl) pa_nil))))))), ?_⟩
    refine ⟨_, rfl, v, .ty "int", _, _, isI d, rfl, .ty _, hv.ty, kit_int d, _, rfl, ?_⟩
    cases hI : isI d with
    | false =>
      have e : isW d = false := by cases d <;> first | rfl | (cases hI)
      rw [e] at q
      exact q
    | true =>
      refine ⟨_, rfl, v, .ty "bool", _, _, isB d, rfl, .ty _, hv.ty, kit_bool d, _, rfl, ?_⟩
      have e : isW d = !isB d := by cases d <;> first | rfl | (cases hI)
      rw [e] at q
      exact q
end
end Lk
end
section
set_option maxRecDepth 100000
set_option maxHeartbeats 2000000
namespace Lk
open PySem PySem.Spec PyProof.Rows L2
section
variable {P : Program} {w : World} {K : PySem.W.Frag} {mg : Str → Option Value} {base : Heap}
theorem sc_within : FnScope ["thing", "least", "most"] ["thing", "least", "most"] (defScope s_is_within) := ⟨rfl, rfl, rfl, by decide +kernel, rfl, by decide +kernel, by decide +kernel⟩
theorem ok_within {f : Addr} {fd : FuncData} (F : Fun K "is_within" "is_within" s_is_within f fd) (cw : C8.Cal P w K mg base 1 "is_whole" spWhole []) : FnOk P w K mg base CX0 2 f fd ["thing", "least", "most"] spWithin := by
  refine F.ok sc_within (fun vs H Q E h => ?_) (fun cdv A outer s H vs Q E hr h => ?_)
  · obtain ⟨v, d, a, b, rfl, _⟩ := h
    rfl
  · obtain ⟨v, d, a, b, rfl, hv, q⟩ := h
    refine ⟨_, pss_one (by exact (ps_ret (pe_and (C8.pe_c cw hr (Nat.le_refl _) rfl (pa_cons (pv 0) pa_nil)) (pe_one (pe_chain op_le op_le (pv 1) (pv 0) (pv 2)))))), ?_⟩
    refine ⟨_, rfl, v, d, rfl, hv, _, rfl, ?_⟩
    cases hv with
    | int i =>
      refine ⟨_, rfl, _, rfl, _, _, rfl, rfl, _, rfl, ?_⟩
      have e : inR (.int i) a b = (decide (a ≤ i) && decide (i ≤ b)) := rfl
      rw [e] at q
      refine ite2 (fun g => ?_) (fun g => ?_)
      · refine ⟨_, rfl, _, _, rfl, rfl, ?_⟩
        rw [g, Bool.true_and] at q
        exact q
      · rw [Bool.eq_false_iff.mpr g, Bool.false_and] at q
        exact q
    | _ => exact q
end
end Lk
end
section
set_option maxRecDepth 100000
set_option maxHeartbeats 2000000
namespace Lk
open PySem PySem.Spec PyProof.Rows L2
section
variable {P : Program} {w : World} {K : PySem.W.Frag} {mg : Str → Option Value} {base : Heap}
abbrev nIC : List Str := ["thing", "place", "lengths", "length"]
theorem sc_isCoder : FnScope nIC ["thing"] (defScope s_is_coder) := ⟨rfl, rfl, rfl, by decide +kernel, rfl, by decide +kernel, by decide +kernel⟩
theorem ok_isCoder {f : Addr} {fd : FuncData} (F : Fun K "is_coder" "is_coder" s_is_coder f fd) (cw : C8.Cal P w K mg base 1 "is_whole" spWhole []) (ci : C8.Cal P w K mg base 2 "is_within" spWithin [])
    (mi : mg "isinstance" = none) (mt : mg "tuple" = none) (ml : mg "len" = none) (ma : mg "all" = none) {tp : Tok} (mp : mg "MOST_PLACES" = some (.int 12 tp)) : FnOk P w K mg base CX0 3 f fd ["thing"] spIsCoder := by
  refine F.ok sc_isCoder (fun vs H Q E h => ?_) (fun cdv A outer s H vs Q E hr h => ?_)
  · obtain ⟨v, d, rfl, _⟩ := h
    rfl
  · obtain ⟨v, d, rfl, hv, q⟩ := h
    have nd := sc_isCoder.nd
    refine ⟨_, pss_cons (by exact (ps_if (PW.pt (pw_or (pt_not (pt_val (pe_callB call_isi (by rfl) mi (by decide +kernel) (pa_cons (pv 0) (pa_cons (pe_bltn (v := .ty "tuple") (by rfl) mt (by decide +kernel) rfl) pa_nil)))))
        (pw_or1 (pt_cmpR op_ne (pe_callB call_len_seq (by rfl) ml PySem.boot_len (pa_cons (pv 0) pa_nil)) pe_int (nomark _))))) (pss_one (ps_ret pe_bl)) pss_nil))
      (pss_cons (by exact (ps_asg (pv 0) (pg_tup rfl (pgs_cons (pg_name (i := 1) nd rfl (Or.inl rfl)) (pgs_cons (pg_name (i := 2) nd rfl (Or.inl rfl)) pgs_nil)))))
      (pss_cons (by exact (ps_if (PW.pt (pw_or (pt_not (pt_val (pe_callB call_isi (by rfl) mi (by decide +kernel) (pa_cons (pv 2) (pa_cons (pe_bltn (v := .ty "tuple") (by rfl) mt (by decide +kernel) rfl) pa_nil)))))
        (pw_or1 (pt_not (pt_chain op_le op_le pe_int (pe_callB call_len_seq (by rfl) ml PySem.boot_len (pa_cons (pv 2) pa_nil)) (pe_glob (v := .int 12) rfl mp ⟨_, rfl⟩)))))) (pss_one (ps_ret pe_bl)) pss_nil))
      (pss_cons (by exact (ps_if (pt_not (pt_val (C8.pe_c ci hr (by decide) rfl (pa_cons (pv 1) (pa_cons pe_int (pa_cons (pe_op op_sub (pe_callB call_len_seq (by rfl) ml PySem.boot_len (pa_cons (pv 2) pa_nil)) pe_int) pa_nil)))))) (pss_one (ps_ret pe_bl)) pss_nil))
      (pss_one (by exact (ps_ret (pe_callB (cr_all rfl) (by rfl) ma (by decide +kernel) (pa_cons (pe_lc (own := [("length", 3)]) (g := gName 3) (tt := tYes) rfl nd (pi_tup (pv 2)) (blkOk_by (N := nIC) (sc := defScope s_is_coder) (by decide +kernel))
          (fun _ _ _ _ _ => pg_name (i := 3) nd rfl (Or.inl rfl)) (fun _ _ _ _ _ => pts_nil) (fun _ _ _ _ _ => pe_and (C8.pe_c cw hr (by decide) rfl (pa_cons (pv 3) pa_nil)) (pe_one (pe_cmpR op_ge (pv 3) pe_int (nomark _))))) pa_nil)))))))), ?_⟩
    refine ⟨_, rfl, v, .ty "tuple", _, _, isT d, rfl, .ty _, hv.ty, kit_tuple d, _, rfl, ?_⟩
    cases hT : isT d with
    | false =>
      have e : isCd d = false := by cases d <;> first | rfl | (cases hT)
      rw [e] at q
      exact q H (Same.refl H)
    | true =>
      cases hv with
      | tup ea ma =>
        rename_i a xs ds
        refine ⟨_, rfl, a, xs, rfl, .inr (SqT.of ea), rfl, _, rfl, ite2 (fun g => ?_) (fun g => ?_)⟩
        · have z : xs.length ≠ 2 := fun z => by
            rw [z] at g
            cases g
          have e : isCd (.tuple ds) = false := isCd_two fun z2 => z (by rw [ma.length, z2])
          rw [e] at q
          exact q H (Same.refl H)
        · have z : xs.length = 2 := Classical.byContradiction fun z => g (by
            rw [Bool.not_eq_true', decide_eq_false_iff_not]
            intro y
            exact z (by have := V.int.inj y; omega))
          cases ma with
          | nil => cases z
          | cons hp m1 =>
            rename_i xp xs1 dp ds1
            cases m1 with
            | nil => cases z
            | cons hl m2 =>
              rename_i xl xs2 dl ds2
              cases m2 with
              | cons _ m3 => exact absurd z (by simp only [List.length_cons]; omega)
              | nil =>
                refine ⟨_, rfl, a, [xp, xl], rfl, SqT.of ea, rfl, _, _, rfl, _, _, rfl, rfl, ?_⟩
                refine ⟨_, rfl, xl, .ty "tuple", _, _, isT dl, rfl, .ty _, hl.ty, kit_tuple dl, _, rfl, ?_⟩
                cases hT2 : isT dl with
                | false =>
                  rw [isCd_no hT2] at q
                  exact q H (Same.refl H)
                | true =>
                  cases hl with
                  | tup eb mb =>
                    rename_i b ls dls
                    have hll := mb.length
                    refine ⟨_, rfl, b, ls, rfl, .inr (SqT.of eb), _, _, rfl, rfl, _, rfl, ?_⟩
                    have eC : isCd (.tuple [dp, .tuple dls]) = ((decide (1 ≤ dls.length) && decide (dls.length ≤ 12)) && (inR dp 0 ((dls.length : Int) - 1) && dls.all natD)) := rfl
                    rw [eC, ← hll] at q
                    refine ite2 (fun g1 => ?_) (fun g1 => ?_)
                    · have g1' : 1 ≤ ls.length := by have y := of_decide_eq_true g1; omega
                      refine ⟨_, _, rfl, rfl, _, rfl, ?_⟩
                      rw [decide_eq_true g1', Bool.true_and] at q
                      have e12 : decide ((ls.length : Int) ≤ 12) = decide (ls.length ≤ 12) := by
                        by_cases c : ls.length ≤ 12
                        · rw [decide_eq_true c, decide_eq_true (by omega)]
                        · rw [decide_eq_false c, decide_eq_false (by omega)]
                      rw [e12]
                      cases c12 : decide (ls.length ≤ 12) with
                      | false =>
                        rw [c12, Bool.false_and] at q
                        exact q H (Same.refl H)
                      | true =>
                        rw [c12, Bool.true_and] at q
                        have c12' := of_decide_eq_true c12
                        refine ⟨_, rfl, _, rfl, b, ls, rfl, .inr (SqT.of eb), _, _, rfl, rfl, xp, dp, 0, _, rfl, hp, _, rfl, ?_⟩
                        cases ci : inR dp 0 ((ls.length : Int) - 1) with
                        | false =>
                          rw [ci, Bool.false_and] at q
                          exact q H (Same.refl H)
                        | true =>
                          rw [ci, Bool.true_and] at q
                          refine ⟨_, rfl, b, rfl, ⟨ls, SqT.of eb⟩, fun D nD => ?_⟩
                          have ml2 : (dls.map natD).length ≤ 100000 := by rw [List.length_map, ← hll]; omega
                          refine lc_it walk_tup (fun i H3 => Same H H3 ∧ H3 D = some (.lst (((dls.map natD).take i).map V.bl))) ⟨same_new nD, upd_same⟩ (fun i H3 _ p => SqT.of (p.1 _ _ eb)) ?_ ?_
                          · rintro i x H3 H4 hi ⟨s3, e3⟩ ⟨rfl, hx⟩
                            obtain ⟨dx, hdx, tx⟩ := mb.get hx
                            have hc : (dls.map natD)[i]? = some (natD dx) := by rw [List.getElem?_map, hdx]; rfl
                            refine ⟨rfl, _, rfl, x, dx, rfl, Th.same s3 dx tx, _, rfl, ?_⟩
                            have fin : ∀ y : Bool, y = natD dx → ∃ acc, H4 D = some (HO.lst acc) ∧ acc.length < sizeLine ∧ Same H (upd H4 D (HO.lst (acc ++ [V.bl y]))) ∧ upd H4 D (HO.lst (acc ++ [V.bl y])) D = some (HO.lst (((dls.map natD).take (i + 1)).map V.bl)) := by
                              rintro y rfl
                              obtain ⟨acc, a1, a2, a3, a4⟩ := snoc_bl (H4 := H4) (D := D) e3 hc ml2
                              exact ⟨acc, a1, a2, same_push s3 nD, a3⟩
                            cases tx with
                            | int n => exact ⟨_, rfl, _, _, rfl, rfl, fin _ rfl⟩
                            | _ => exact fin _ rfl
                          · rintro H3 ⟨s3, e3⟩
                            rw [show ls.length = (dls.map natD).length by rw [List.length_map, hll], List.take_length] at e3
                            refine ⟨D, _, rfl, SqL.of e3, ?_⟩
                            rw [List.all_map]
                            exact q H3 s3
                    · have g1' : ¬ 1 ≤ ls.length := fun y => g1 (decide_eq_true (by omega))
                      refine ⟨_, rfl, ?_⟩
                      rw [decide_eq_false g1', Bool.false_and, Bool.false_and] at q
                      exact q H (Same.refl H)
                  | _ => cases hT2
      | _ => cases hT
end
end Lk
end
section
set_option maxRecDepth 100000
set_option maxHeartbeats 2000000
namespace Lk
open PySem PySem.Spec PyProof.Rows L2
section
variable {P : Program} {w : World} {K : PySem.W.Frag} {mg : Str → Option Value} {base : Heap}
theorem sc_refCoder : FnScope ["coder"] ["coder"] (defScope s_refuse_no_coder) := ⟨rfl, rfl, rfl, by decide +kernel, rfl, by decide +kernel, by decide +kernel⟩
theorem ok_refCoder {f C : Addr} {fd : FuncData} (F : Fun K "refuse_no_coder" "refuse_no_coder" s_refuse_no_coder f fd) (cl : C8.Cal P w K mg base 3 "is_coder" spIsCoder []) (T : ErrC K mg "NoCoder" C) {tp : Tok} (mp : mg "MOST_PLACES" = some (.int 12 tp)) : FnOk P w K mg base (L2.CX P w) 4 f fd ["coder"] (spRefCoder C) := by
  refine F.okX sc_refCoder (fun vs H Q E h => ?_) (fun cdv A outer s H vs Q E hr h => ?_)
  · obtain ⟨v, d, rfl, _⟩ := h
    rfl
  · obtain ⟨v, d, rfl, hv, q0, q1⟩ := h
    refine ⟨_, pss_one (by exact (ps_if (pt_not (pt_val (C8.pe_c cl hr (Nat.le_refl _) rfl (pa_cons (pv 0) pa_nil))))
      (pss_one (ps_raise rfl (takes_of rfl rfl rfl rfl) (SkE.pmk_own1 PySem.F.excBase_ValueError T.x T.g T.k (raises_own T.b T.t) rfl
        (pe_joined (.cons pe_str (.cons (pe_fmt (pe_glob (v := .int 12) rfl mp ⟨_, rfl⟩)) (.cons pe_str .nil))))))) pss_nil)), ?_⟩
    refine ⟨_, rfl, v, d, rfl, hv, fun H1 s1 => ⟨_, rfl, ?_⟩⟩
    cases e : isCd d with
    | true => exact q0 e H1 s1
    | false =>
      refine ⟨_, rfl, (by decide +kernel), .inr ⟨12, rfl, (by decide +kernel), _, rfl, (by decide +kernel), _, rfl, (by decide +kernel), ?_⟩⟩
      exact q1 e H1 s1
end
end Lk
end
section
set_option maxRecDepth 100000
set_option maxHeartbeats 2000000
namespace Lk
open PySem PySem.Spec PyProof.Rows L2
section
variable {P : Program} {w : World} {K : PySem.W.Frag} {mg : Str → Option Value} {base : Heap}
abbrev nLG : List Str := ["coder", "_", "lengths", "place", "length"]
theorem sc_last : FnScope nLG ["coder"] (defScope s_last_goings) := ⟨rfl, rfl, rfl, by decide +kernel, rfl, by decide +kernel, by decide +kernel⟩
theorem ok_last {f : Addr} {fd : FuncData} (F : Fun K "last_goings" "last_goings" s_last_goings f fd) (ml : mg "len" = none) (me : mg "enumerate" = none) : FnOk P w K mg base CX0 1 f fd ["coder"] spLast := by
  refine F.ok sc_last (fun vs H Q E h => ?_) (fun cdv A outer s H vs Q E hr h => ?_)
  · obtain ⟨v, c, rfl, _⟩ := h
    rfl
  · obtain ⟨v, c, rfl, ⟨a, b, rfl, ha, hb⟩, hc, q⟩ := h
    have nd := sc_last.nd
    have h12 := hc.2
    have hp := hc.pos
    refine ⟨_, pss_cons (by exact (ps_asg (pv 0) (pg_tup rfl (pgs_cons (pg_name (i := 1) nd rfl (Or.inl rfl)) (pgs_cons (pg_name (i := 2) nd rfl (Or.inr rfl)) pgs_nil)))))
      (pss_one (by exact (ps_ret (pe_lc (own := [("place", 3), ("length", 4)]) (g := gTup K 2 (gCons (gName 3) (gCons (gName 4) gNil))) (tt := tYes) rfl nd (pi_enumT (by rfl) me (pa_cons (pv 2) pa_nil)) (blkOk_by (N := nLG) (sc := defScope s_last_goings) (by decide +kernel))
          (fun _ _ _ _ _ => pg_tup rfl (pgs_cons (pg_name (i := 3) nd rfl (Or.inl rfl)) (pgs_cons (pg_name (i := 4) nd rfl (Or.inl rfl)) pgs_nil))) (fun _ _ _ _ _ => pts_nil)
          (fun _ _ _ _ _ => pe_op op_mod (pe_op op_add (pv 3) (pv 4)) (pe_callB (call_lenK (K := K) rfl) (by rfl) ml PySem.boot_len (pa_cons (pv 2) pa_nil))))))), ?_⟩
    refine ⟨_, rfl, a, _, rfl, SqT.of ha, rfl, _, _, rfl, _, _, rfl, rfl, ?_⟩
    refine ⟨_, rfl, b, _, rfl, SqT.of hb, fun D nD => ?_⟩
    refine lc_it walk_enumT (fun i H3 => Same H H3 ∧ H3 D = some (.lst (((gos c).take i).map vN))) ⟨same_new nD, upd_same⟩ (fun i H3 _ p => SqT.of (p.1 _ _ hb)) ?_ ?_
    · rintro i x H3 H4 hi ⟨s3, e3⟩ ⟨T, x1, x2, rfl, nT, rfl, hx1, hx2⟩
      rw [List.length_map] at hi
      dsimp only at hx1 hx2
      have hx1' : x1 = .int (0 + (i : Int)) := (Option.some.inj hx1).symm
      rw [nat_at hi] at hx2
      cases hx2
      subst hx1'
      have sT : Same H (upd H3 T (.tup [.int (0 + (i : Int)), .int ((c.2.getD i 0 : Nat) : Int)])) := s3.trans (same_new nT)
      refine ⟨T, [.int (0 + (i : Int)), .int ((c.2.getD i 0 : Nat) : Int)], rfl, SqT.of upd_same, rfl, _, _, rfl, _, _, rfl, rfl, rfl, _, rfl, _, rfl, _, _, rfl, rfl, _, rfl, b, _, rfl, .inr (SqT.of (sT _ _ hb)), _, _, rfl, rfl, (by rw [List.length_map]; omega), ?_⟩
      have e4 : upd H3 T (.tup [.int (0 + (i : Int)), .int ((c.2.getD i 0 : Nat) : Int)]) D = some (.lst (((gos c).take i).map vN)) := by rw [upd_ne (ne_of_none e3 nT)]; exact e3
      obtain ⟨acc, a1, a2, a3⟩ := snoc_map (f := vN) e4 (gos_at hi) (by rw [gos_len]; omega)
      refine ⟨acc, a1, a2, same_push sT nD, ?_⟩
      rw [show vN (go c i) = V.int ((0 + (i : Int) + ((c.2.getD i 0 : Nat) : Int)) % ((c.2.map vN).length : Int)) from ?_] at a3
      · exact a3
      · rw [List.length_map, Int.zero_add]
        show V.int (((i + len c i) % c.2.length : Nat) : Int) = _
        rw [Int.natCast_emod]
        rfl
    · rintro H3 ⟨s3, e3⟩
      rw [show (c.2.map vN).length = (gos c).length by rw [List.length_map, gos_len], List.take_length] at e3
      exact q D H3 nD s3 e3
end
end Lk
end
section
set_option maxRecDepth 100000
set_option maxHeartbeats 2000000
namespace Lk
open PySem PySem.Spec PyProof.Rows L2
section
variable {P : Program} {w : World} {K : PySem.W.Frag} {mg : Str → Option Value} {base : Heap}
abbrev nRF : List Str := ["coder", "least", "home", "_", "goings", "places", "place"]
theorem sc_ringFrom : FnScope nRF ["coder", "least"] (defScope s_ring_from) := ⟨rfl, rfl, rfl, by decide +kernel, rfl, by decide +kernel, by decide +kernel⟩
theorem ok_ringFrom {f : Addr} {fd : FuncData} (F : Fun K "ring_from" "ring_from" s_ring_from f fd) (cl : C8.Cal P w K mg base 1 "last_goings" spLast []) : FnOk P w K mg base CX0 2 f fd ["coder", "least"] spRingFrom := by
  refine F.ok sc_ringFrom (fun vs H Q E h => ?_) (fun cdv A outer s H vs Q E hr h => ?_)
  · obtain ⟨v, c, a, rfl, _⟩ := h
    rfl
  · obtain ⟨v, c, a, rfl, ⟨av, bv, rfl, ha, hb⟩, hc, hlt, q⟩ := h
    have nd := sc_ringFrom.nd
    have h12 := hc.2
    refine ⟨_, pss_cons (by exact (ps_asg (pv 0) (pg_tup rfl (pgs_cons (pg_name (i := 2) nd rfl (Or.inl rfl)) (pgs_cons (pg_name (i := 3) nd rfl (Or.inl rfl)) pgs_nil)))))
      (pss_cons (by exact (ps_if (pt_cmpR op_eq (pv 1) (pv 2) (nomark _)) (pss_one (ps_ret pe_non)) pss_nil))
      (pss_cons (by exact (ps_set (i := 4) nd rfl (Or.inl rfl) (C8.pe_c cl hr (Nat.le_refl _) rfl (pa_cons (pv 0) pa_nil))))
      (pss_cons (by exact (ps_set (i := 5) nd rfl (Or.inl rfl) (pe_lst (pa_cons (pv 1) pa_nil))))
      (pss_cons (by exact (ps_set (i := 6) nd rfl (Or.inl rfl) (pe_ix ix_list (pv 4) (pv 1) (fun _ _ => rfl))))
      (pss_cons (by exact (ps_while PassesOwn.never (PW.pt (pw_and (pt_cmpR op_gt (pv 6) (pv 1) (nomark _)) (pw_and (pt_cmpR op_ne (pv 6) (pv 2) (nomark _)) (pw_and1 (pt_cmpR op_notIn_seq (pv 6) (pv 5) rfl)))))
        (by exact (pss_cons (by exact (ps_expr (pe_bm PySem.F.plainAttrs_list PySem.F.slot_list_append PySem.F.type_list_append mt_append (pv 5) (pa_cons (pv 6) pa_nil))))
          (pss_one (by exact (ps_set (i := 6) nd rfl (Or.inl rfl) (pe_ix ix_list (pv 4) (pv 6) (fun _ _ => rfl)))))))))
      (pss_one (by exact (ps_ret (pe_ifExp (pt_cmpR op_eq (pv 6) (pv 1) (nomark _)) (pv 5) pe_non))))))))), ?_⟩
    refine ⟨_, rfl, av, _, rfl, SqT.of ha, rfl, _, _, rfl, _, _, rfl, rfl, ?_⟩
    refine ⟨_, rfl, _, rfl, rfl, _, rfl, ite2 (fun g => ?_) (fun g => ?_)⟩
    · have g1 : a = c.1 := by have z := V.int.inj (of_decide_eq_true g); omega
      refine q none .non H (.inr ⟨fun ⟨k, r⟩ => r.home 0 r.pos ?_, rfl⟩) (Same.refl H) rfl
      exact g1
    · have g1 : a ≠ c.1 := fun z => g (decide_eq_true (by rw [z]))
      refine ⟨_, rfl, .ref av, c, rfl, ⟨av, bv, rfl, ha, hb⟩, hc, fun G H1 nG s1 eG => ⟨_, rfl, (by show 1 ≤ sizeLine; decide), fun W nW => ?_⟩⟩
      have nGW : G ≠ W := ne_of_none eG nW
      have eG2 : upd H1 W (.lst [V.int (a : Int)]) G = some (.lst ((gos c).map vN)) := by rw [upd_ne nGW]; exact eG
      have at_ : ∀ {i : Nat}, i < c.2.length → ((gos c).map vN)[i]? = some (vN (go c i)) := fun {i} hi => by rw [List.getElem?_map, gos_at hi]; rfl
      refine ⟨_, rfl, _, rfl, G, _, (a : Int), _, rfl, rfl, SqL.of eG2, atI_nat (at_ hlt), ?_⟩
      have sW : Same H (upd H1 W (.lst [V.int (a : Int)])) := s1.trans (same_new nW)
      have nWH : H W = none := s1.free nW
      refine ⟨fun m σ H2 => ∃ k, σ = [some (.ref av), some (.int (a : Int)), some (.int (c.1 : Int)), some (.ref bv), some (.ref G), some (.ref W), some (vN (gon c k a))] ∧ m = c.2.length - k ∧ PathK c a k ∧ Same H H2 ∧ H2 G = some (.lst ((gos c).map vN)) ∧ H2 W = some (.lst ((ringL c a k).map vN)),
        ⟨_, 1, rfl, rfl, path_one g1, sW, eG2, upd_same⟩, ?_⟩
      rintro m σ H2 ⟨k, rfl, rfl, pk, s2, eG3, eW⟩
      have kle := path_len hc.1 hlt pk
      have xlt := gon_lt hc.1 hlt k
      generalize hx : gon c k a = x at *
      have fin : ∀ v', (x = a → v' = .ref W) → (x ≠ a → v' = .non) → ¬ (a < x ∧ x ≠ c.1 ∧ x ∉ ringL c a k) → Q v' H2 := by
        intro v' y n no
        by_cases e : x = a
        · refine q (some (ringL c a k)) v' H2 (.inl ⟨k, path_ring pk (by rw [hx, e]), rfl⟩) s2 ⟨W, y e, nWH, eW⟩
        · refine q none v' H2 (.inr ⟨path_none pk ?_ (by rw [hx]; exact e), rfl⟩) s2 (n e)
          rw [hx]
          exact no
      refine ⟨_, rfl, _, rfl, _, _, rfl, rfl, _, rfl, ite2 (fun t1 => ?_) (fun t1 => ?_)⟩
      · have t1' : a < x := by have z := of_decide_eq_true t1; omega
        refine ⟨_, rfl, _, rfl, rfl, _, rfl, ite2 (fun t2 => ?_) (fun t2 => ?_)⟩
        · have t2' : x ≠ c.1 := fun z => by rw [z, decide_eq_true rfl] at t2; cases t2
          refine ⟨_, rfl, _, rfl, W, _, rfl, .inl (SqL.of eW), rfl, flat_nat _, _, rfl, ?_⟩
          rw [if_pos rfl, inV_nat]
          refine ite2 (fun t3 => ?_) (fun t3 => ?_)
          · have t3' : x ∉ ringL c a k := by rw [Bool.not_eq_true', decide_eq_false_iff_not] at t3; exact t3
            have pk2 := path_more pk (by rw [hx]; exact t1') (by rw [hx]; exact t2') (by rw [hx]; exact t3')
            have k2 := path_len hc.1 hlt pk2
            refine ⟨fun σ' H' => σ' = [some (.ref av), some (.int (a : Int)), some (.int (c.1 : Int)), some (.ref bv), some (.ref G), some (.ref W), some (vN (gon c (k + 1) a))] ∧ Same H H' ∧ H' G = some (.lst ((gos c).map vN)) ∧ H' W = some (.lst ((ringL c a (k + 1)).map vN)), fun σ' H' p => ?_, ?_⟩
            · obtain ⟨rfl, p2, p3, p4⟩ := p
              exact ⟨c.2.length - (k + 1), by omega, k + 1, rfl, rfl, pk2, p2, p3, p4⟩
            · refine ⟨_, rfl, .inl ⟨rfl, _, SqL.of eW⟩, _, rfl, W, _, _, rfl, rfl, eW, ?_, ?_⟩
              · rw [List.length_map, ringL_len]
                exact Nat.lt_of_le_of_lt (show k ≤ 12 by omega) (by decide)
              · have nWG : G ≠ W := nGW
                refine ⟨_, rfl, _, rfl, G, _, (x : Int), _, rfl, rfl, SqL.of (by rw [upd_ne nWG]; exact eG3), atI_nat (at_ xlt), ?_⟩
                refine ⟨?_, ?_, by rw [upd_ne nWG]; exact eG3, ?_⟩
                · rw [gon_succ, hx]
                  rfl
                · exact same_push s2 nWH
                · rw [upd_same, ringL_succ, List.map_append, hx]
                  rfl
          · have no : ¬ (a < x ∧ x ≠ c.1 ∧ x ∉ ringL c a k) := fun z => t3 (by rw [decide_eq_false z.2.2]; rfl)
            refine ⟨_, rfl, _, rfl, rfl, _, rfl, ite2 (fun e => ?_) (fun e => ?_)⟩
            · exact ⟨_, rfl, fin _ (fun _ => rfl) (fun n => absurd (by have z := V.int.inj (of_decide_eq_true e); omega) n) no⟩
            · exact fin _ (fun y => absurd (decide_eq_true (by rw [y])) e) (fun _ => rfl) no
        · have no : ¬ (a < x ∧ x ≠ c.1 ∧ x ∉ ringL c a k) := fun z => t2 (by rw [decide_eq_false fun y => z.2.1 (by have := V.int.inj y; omega)]; rfl)
          refine ⟨_, rfl, _, rfl, rfl, _, rfl, ite2 (fun e => ?_) (fun e => ?_)⟩
          · exact ⟨_, rfl, fin _ (fun _ => rfl) (fun n => absurd (by have z := V.int.inj (of_decide_eq_true e); omega) n) no⟩
          · exact fin _ (fun y => absurd (decide_eq_true (by rw [y])) e) (fun _ => rfl) no
      · have no : ¬ (a < x ∧ x ≠ c.1 ∧ x ∉ ringL c a k) := fun z => t1 (decide_eq_true (by omega))
        refine ⟨_, rfl, _, rfl, rfl, _, rfl, ite2 (fun e => ?_) (fun e => ?_)⟩
        · exact ⟨_, rfl, fin _ (fun _ => rfl) (fun n => absurd (by have z := V.int.inj (of_decide_eq_true e); omega) n) no⟩
        · exact fin _ (fun y => absurd (decide_eq_true (by rw [y])) e) (fun _ => rfl) no
end
end Lk
end
section
set_option maxRecDepth 100000
set_option maxHeartbeats 2000000
namespace Lk
open PySem PySem.Spec PyProof.Rows L2
section
variable {P : Program} {w : World} {K : PySem.W.Frag} {mg : Str → Option Value} {base : Heap}
abbrev nRi : List Str := ["coder", "least", "found"]
theorem sc_ring : FnScope nRi ["coder"] (defScope s_ring) := ⟨rfl, rfl, rfl, by decide +kernel, rfl, by decide +kernel, by decide +kernel⟩
theorem ok_ring {f C : Addr} {fd : FuncData} (F : Fun K "ring" "ring" s_ring f fd) (cr : CalX P w K mg base 4 "refuse_no_coder" (spRefCoder C)) (cf : C8.Cal P w K mg base 2 "ring_from" spRingFrom [])
    (mr : mg "range" = none) (ml : mg "len" = none) : FnOk P w K mg base (L2.CX P w) 5 f fd ["coder"] (spOne C toldRing) := by
  refine F.okX sc_ring (fun vs H Q E h => ?_) (fun cdv A outer s H vs Q E hr h => ?_)
  · obtain ⟨v, d, rfl, _⟩ := h
    rfl
  · obtain ⟨v, d, rfl, hv, q1, q⟩ := h
    have nd := sc_ring.nd
    refine ⟨_, pss_cons (by exact (ps_expr (pe_cX cr (takes_of rfl rfl rfl rfl) hr (by decide) rfl (pa_cons (pv 0) pa_nil))))
      (pss_cons (by exact (ps_for (passes_of rfl) rfl (pi_range1 (by rfl) mr (pa_cons (pe_callB call_len_seq (by rfl) ml PySem.boot_len (pa_cons (pe_ix ix_tup (pv 0) pe_int (fun _ _ => rfl)) pa_nil)) pa_nil)) (pg_name (i := 1) nd rfl (Or.inl rfl))
        (by exact (pss_cons (by exact (ps_set (i := 2) nd rfl (Or.inl rfl) (C8.pe_c cf hr (by decide) rfl (pa_cons (pv 0) (pa_cons (pv 1) pa_nil)))))
          (pss_one (by exact (ps_if (pt_cmpR op_notN (pv 2) pe_non (nomark _)) (pss_one (ps_ret (pv 2))) pss_nil)))))))
      (pss_one (by exact (ps_ret pe_non)))), ?_⟩
    refine ⟨_, rfl, v, d, rfl, hv, fun hd H1 s1 => ?_, fun hd H1 s1 => q1 hd H1 s1⟩
    obtain ⟨c, rfl, hc⟩ := isCd_of hd
    have qq := q c rfl hc
    clear q q1
    have c1 : Cat H1 v c := (Th.same s1 _ hv).cat
    obtain ⟨a, b, rfl, ha, hb⟩ := id c1
    have h12 := hc.2
    refine ⟨_, rfl, a, _, 1, _, rfl, rfl, SqT.of ha, rfl, b, _, rfl, .inr (SqT.of hb), _, rfl, by rw [List.length_map]; omega, by rw [List.length_map]; omega, ?_⟩
    rw [List.length_map, Int.toNat_natCast]
    refine for_range (lo := 0) (n := c.2.length) (fun i σ H2 => ∃ y1 y2, σ = [some (.ref a), y1, y2] ∧ Same H1 H2 ∧ ∀ m, m < i → ¬ RingAt c m) ⟨none, none, rfl, Same.refl _, fun m h => absurd h (Nat.not_lt_zero _)⟩ ?_ ?_
    · rintro i σ H2 hi ⟨y1, y2, rfl, s2, no⟩
      have e0 : (0 : Int) + (i : Int) = (i : Int) := Int.zero_add _
      refine ⟨_, rfl, _, rfl, .ref a, c, i, congrArg (fun z => [V.ref a, V.int z]) e0, c1.same s2, hc, hi, fun r v2 H3 rf s3 lv => ?_⟩
      cases r with
      | none =>
        rcases rf with ⟨k, rk, z⟩ | ⟨nr, _⟩
        · cases z
        · have e3 : v2 = .non := lv
          subst e3
          refine ⟨_, rfl, rfl, _, rfl, ?_⟩
          exact ⟨_, _, rfl, s2.trans s3, fun m hm => by
            by_cases g : m = i
            · rw [g]; exact nr
            · exact no m (by omega)⟩
      | some l =>
        rcases rf with ⟨k, rk, z⟩ | ⟨nr, z⟩
        · cases z
          obtain ⟨p, rfl, np, ep⟩ := id lv
          refine ⟨_, rfl, rfl, _, rfl, ?_⟩
          refine ⟨_, rfl, ?_⟩
          exact qq (some (ringL c i k)) (.ref p) H3 (.inl ⟨i, k, hi, rk, no, rfl⟩) ((s1.trans s2).trans s3) (lv.from (s1.trans s2))
        · cases z
    · rintro σ H2 ⟨y1, y2, rfl, s2, no⟩
      exact qq none .non H2 (.inr ⟨no, rfl⟩) (s1.trans s2) rfl
end
end Lk
end
section
set_option maxRecDepth 100000
set_option maxHeartbeats 2000000
namespace Lk
open PySem PySem.Spec PyProof.Rows L2
section
variable {P : Program} {w : World} {K : PySem.W.Frag} {mg : Str → Option Value} {base : Heap}
theorem sc_inRound : FnScope ["coder"] ["coder"] (defScope s_in_round) := ⟨rfl, rfl, rfl, by decide +kernel, rfl, by decide +kernel, by decide +kernel⟩
theorem ok_inRound {f C : Addr} {fd : FuncData} (F : Fun K "in_round" "in_round" s_in_round f fd) (cr : CalX P w K mg base 5 "ring" (spOne C toldRing)) : FnOk P w K mg base (L2.CX P w) 6 f fd ["coder"] (spOne C toldIn) := by
  refine F.okX sc_inRound (fun vs H Q E h => ?_) (fun cdv A outer s H vs Q E hr h => ?_)
  · obtain ⟨v, d, rfl, _⟩ := h
    rfl
  · obtain ⟨v, d, rfl, hv, q1, q⟩ := h
    refine ⟨_, pss_one (by exact (ps_ret (pe_cmpR op_isN (pe_cX cr (takes_of rfl rfl rfl rfl) hr (Nat.le_refl _) rfl (pa_cons (pv 0) pa_nil)) pe_non (nomark _)))), ?_⟩
    refine ⟨_, rfl, v, d, rfl, hv, fun hd H1 s1 => q1 hd H1 s1, fun c ed hc r v2 H1 ro s1 lv => ⟨rfl, ?_⟩⟩
    refine q c ed hc _ H1 ?_ s1
    rw [decide_eq_true_eq, ← ringOf_free hc.1 ro]
    cases r with
    | none => exact ⟨fun _ => rfl, fun _ => lv⟩
    | some l =>
      obtain ⟨p, rfl, _⟩ := lv
      exact ⟨fun z => (by cases z), fun z => (by cases z)⟩
end
end Lk
end
section
set_option maxRecDepth 100000
set_option maxHeartbeats 2000000
/-! is_ring of anything, befores, before: what is told. -/
namespace Lk
open PySem PySem.Spec PyProof.Rows L2
theorem depthAll_ints : ∀ l : List Nat, PyData.depthAll (l.map dN) = 0
  | [] => by simp [PyData.depthAll]
  | n :: l => by simp [PyData.depthAll, PyData.depth, depthAll_ints l]
theorem layAll_ints : ∀ l : List Nat, PyData.canLayAll0 (l.map dN) = true
  | [] => by simp [PyData.canLayAll0]
  | n :: l => by simp [PyData.canLayAll0, PyData.canLay0, layAll_ints l]
theorem shaped_ints (l : List Nat) : SeqAt.shaped (.list (l.map dN)) = true := by
  unfold SeqAt.shaped
  rw [Bool.and_eq_true]
  refine ⟨by simp [PyData.canLay0, layAll_ints l], decide_eq_true ?_⟩
  simp only [PyData.depth, depthAll_ints]
  decide
theorem shaped_none : SeqAt.shaped .none = true := by
  unfold SeqAt.shaped
  rw [Bool.and_eq_true]
  exact ⟨by simp [PyData.canLay0], decide_eq_true (by simp [PyData.depth])⟩
theorem eqv_list_none (ds : List PyData) : PyData.eqv (.list ds) .none = false := by simp [PyData.eqv]
theorem eqv_ints (l m : List Nat) : PyData.eqv (.list (l.map dN)) (.list (m.map dN)) = decide (l = m) := by
  have key : ∀ l m : List Nat, PyData.eqvAll (l.map dN) (m.map dN) = decide (l = m) := by
    intro l
    induction l with
    | nil => intro m; cases m <;> simp [PyData.eqvAll]
    | cons a l ih =>
      intro m
      cases m with
      | nil => simp [PyData.eqvAll]
      | cons b m =>
        simp only [List.map_cons, PyData.eqvAll, PyData.eqv, ih]
        by_cases e : a = b
        · subst e
          simp
        · have e2 : ¬ ((a : Int) = (b : Int)) := by omega
          simp [e, e2]
  simp only [PyData.eqv, key]
mutual
/-- data without dicts, as the hand layer tells it -/
theorem Th.dp {K : PySem.W.Frag} {H : Hp} : ∀ (d : PyData) {v : V}, d.canLay0 = true → Th H v d → Dp K H v d
  | .none, _, _, h => by cases h; exact .non
  | .bool b, _, _, h => by cases h; exact .bl b
  | .int i, _, _, h => by cases h; exact .int i
  | .str x, _, _, h => by cases h; exact .str x
  | .list ds, _, n, h => by
    cases h with
    | lst e m => exact .lst (SqL.of e) (ThAll.dp ds (by simpa [PyData.canLay0] using n) m)
  | .tuple ds, _, n, h => by
    cases h with
    | tup e m => exact .tup (SqT.of e) (ThAll.dp ds (by simpa [PyData.canLay0] using n) m)
  | .dict kvs, _, n, _ => by simp [PyData.canLay0] at n
theorem ThAll.dp {K : PySem.W.Frag} {H : Hp} : ∀ (ds : List PyData) {vs : List V}, PyData.canLayAll0 ds = true → ThAll H vs ds → DpAll K H vs ds
  | [], _, _, h => by cases h; exact .nil
  | d :: ds, _, n, h => by
    have n2 : d.canLay0 = true ∧ PyData.canLayAll0 ds = true := by simpa [PyData.canLayAll0] using n
    cases h with
    | cons a b => exact .cons (Th.dp d n2.1 a) (ThAll.dp ds n2.2 b)
end
theorem dp_ints {K : PySem.W.Frag} {H : Hp} {p : Addr} {l : List Nat} (e : H p = some (.lst (l.map vN))) : Dp K H (.ref p) (.list (l.map dN)) :=
  .lst (SqL.of e) (ThAll.dp _ (layAll_ints l) (ints_nat l))
def ringD (c : Cd) (e : PyData) : Prop := ∃ a k, a < c.2.length ∧ RingK c a k ∧ e = .list ((ringL c a k).map dN)
def spIsRing (C : Addr) : Sp := fun vs H Q E => ∃ v u d e, vs = [v, u] ∧ Th H v d ∧ Th H u e ∧ (∀ ds, e = .list ds → ds.length ≤ 100000) ∧ (isCd d = false → ∀ H', Same H H' → E (.ref C) none H') ∧
  (∀ c, d = cdD c → CdOk c → ∀ b H', (b = true ↔ ringD c e) → Same H H' → Q (.bl b) H')
/-- the coder ahead of whose step at k its word wasn't known -/
def prv (c : Cd) (k : Nat) : Cd := (k, c.2.set k (len c k - 1))
def bef (c : Cd) : List Nat := (List.range c.2.length).filter fun i => decide (go c i = c.1) && decide (0 < len c i)
theorem bef_le (c : Cd) : (bef c).length ≤ c.2.length := by
  unfold bef
  exact Nat.le_trans (List.length_filter_le _ _) (by rw [List.length_range]; exact Nat.le_refl _)
theorem bef_mem {c : Cd} {k : Nat} : k ∈ bef c ↔ k < c.2.length ∧ go c k = c.1 ∧ 0 < len c k := by
  unfold bef
  rw [List.mem_filter, List.mem_range, Bool.and_eq_true, decide_eq_true_eq, decide_eq_true_eq]
theorem prv_ok {c : Cd} (h : CdOk c) {k : Nat} (hk : k < c.2.length) : CdOk (prv c k) := by
  refine ⟨?_, ?_⟩
  · show k < (c.2.set k _).length
    rw [List.length_set]
    exact hk
  · show (c.2.set k _).length ≤ 12
    rw [List.length_set]
    exact h.2
def spTaken : Sp := fun vs H Q _ => ∃ (v : V) (c : Cd) (k : Nat), vs = [v, .int (k : Int)] ∧ Cat H v c ∧ CdOk c ∧ k < c.2.length ∧ 0 < len c k ∧ ∀ v' H', Same H H' → Cat H' v' (prv c k) → Q v' H'
def toldBefores (c : Cd) (Q : VK) (H : Hp) : Prop := ∀ p H' ws, H p = none → Same H H' → H' p = some (.lst ws) → ThAll H' ws ((bef c).map fun k => cdD (prv c k)) → Q (.ref p) H'
/-- the first of these that is free, or None -/
def BefV (c : Cd) (H' : Hp) (v : V) : Prop := (v = .non ∧ ∀ k, k ∈ bef c → ¬ Free (prv c k)) ∨ ∃ (i k : Nat), (bef c)[i]? = some k ∧ Free (prv c k) ∧ (∀ (j m : Nat), j < i → (bef c)[j]? = some m → ¬ Free (prv c m)) ∧ Cat H' v (prv c k)
def spBefore (C1 C2 : Addr) : Sp := fun vs H Q E => ∃ v d, vs = [v] ∧ Th H v d ∧ (isCd d = false → ∀ H', Same H H' → E (.ref C1) none H') ∧
  (∀ c, d = cdD c → CdOk c → (¬ Free c → ∀ H', Same H H' → E (.ref C2) none H') ∧ (Free c → ∀ v' H', Same H H' → BefV c H' v' → Q v' H'))
end Lk
end
section
set_option maxRecDepth 100000
set_option maxHeartbeats 2000000
namespace Lk
open PySem PySem.Spec PyProof.Rows L2
section
variable {P : Program} {w : World} {K : PySem.W.Frag} {mg : Str → Option Value} {base : Heap}
abbrev nIR : List Str := ["coder", "thing", "most", "place"]
theorem sc_isRing : FnScope nIR ["coder", "thing"] (defScope s_is_ring) := ⟨rfl, rfl, rfl, by decide +kernel, rfl, by decide +kernel, by decide +kernel⟩
theorem ok_isRing {f C : Addr} {fd : FuncData} (F : Fun K "is_ring" "is_ring" s_is_ring f fd) (cr : CalX P w K mg base 4 "refuse_no_coder" (spRefCoder C)) (ci : C8.Cal P w K mg base 2 "is_within" spWithin []) (cf : C8.Cal P w K mg base 2 "ring_from" spRingFrom [])
    (mi : mg "isinstance" = none) (mt : mg "list" = none) (ml : mg "len" = none) (ma : mg "all" = none) : FnOk P w K mg base (L2.CX P w) 5 f fd ["coder", "thing"] (spIsRing C) := by
  refine F.okX sc_isRing (fun vs H Q E h => ?_) (fun cdv A outer s H vs Q E hr h => ?_)
  · obtain ⟨v, u, d, e, rfl, _⟩ := h
    rfl
  · obtain ⟨v, u, d, e, rfl, hv, hu, hz, q1, q⟩ := h
    have nd := sc_isRing.nd
    have hun := hr.units
    refine ⟨_, pss_cons (by exact (ps_expr (pe_cX cr (takes_of rfl rfl rfl rfl) hr (by decide) rfl (pa_cons (pv 0) pa_nil))))
      (pss_cons (by exact (ps_if (PW.pt (pw_or (pt_not (pt_val (pe_callB call_isi (by rfl) mi (by decide +kernel) (pa_cons (pv 1) (pa_cons (pe_bltn (v := .ty "list") (by rfl) mt (by decide +kernel) rfl) pa_nil)))))
        (pw_or1 (pt_not (pt_truth (pv 1) (by intro _; rfl)))))) (pss_one (ps_ret pe_bl)) pss_nil))
      (pss_cons (by exact (ps_set (i := 2) nd rfl (Or.inr rfl) (pe_op op_sub (pe_callB call_len_seq (by rfl) ml PySem.boot_len (pa_cons (pe_ix ix_tup (pv 0) pe_int (fun _ _ => rfl)) pa_nil)) pe_int)))
      (pss_cons (by exact (ps_if (pt_not (pt_val (pe_callB (cr_all rfl) (by rfl) ma (by decide +kernel) (pa_cons (pe_lc (own := [("place", 3)]) (g := gName 3) (tt := tYes) rfl nd (pi_list (pv 1)) (blkOk_by (N := nIR) (sc := defScope s_is_ring) (by decide +kernel))
          (fun _ _ _ _ _ => pg_name (i := 3) nd rfl (Or.inl rfl)) (fun _ _ _ _ _ => pts_nil) (fun _ _ _ _ _ => C8.pe_c ci hr (by decide) rfl (pa_cons (pv 3) (pa_cons pe_int (pa_cons (pv 2) pa_nil))))) pa_nil)))) (pss_one (ps_ret pe_bl)) pss_nil))
      (pss_one (by exact (ps_ret (pe_cmpR (op_eqD hun) (pv 1) (C8.pe_c cf hr (by decide) rfl (pa_cons (pv 0) (pa_cons (pe_ix ix_list (pv 1) pe_int (fun _ _ => rfl)) pa_nil))) (nomark _)))))))), ?_⟩
    refine ⟨_, rfl, v, d, rfl, hv, fun hd H1 s1 => ?_, fun hd H1 s1 => q1 hd H1 s1⟩
    obtain ⟨c, rfl, hc⟩ := isCd_of hd
    have qq := q c rfl hc
    clear q q1
    have c1 : Cat H1 v c := (Th.same s1 _ hv).cat
    obtain ⟨a, b, rfl, ha, hb⟩ := id c1
    have hu1 := Th.same s1 _ hu
    have h12 := hc.2
    refine ⟨_, rfl, u, .ty "list", _, _, isL e, rfl, .ty _, hu1.ty, kit_list e, _, rfl, ?_⟩
    cases hL : isL e with
    | false =>
      refine qq false H1 ⟨fun z => (by cases z), fun ⟨_, _, _, _, z⟩ => by rw [z] at hL; cases hL⟩ s1
    | true =>
      cases hu1 with
      | lst eu mu =>
        rename_i U us ds
        have hlen := hz ds rfl
        have ull := mu.length
        refine ⟨_, rfl, (!us.isEmpty), .inl ⟨us, SqL.of eu, rfl⟩, ?_⟩
        cases hE : us.isEmpty with
        | true =>
          have e0 : us = [] := List.isEmpty_iff.mp hE
          subst e0
          cases mu
          refine qq false H1 ⟨fun z => (by cases z), fun ⟨x, k, _, rk, z⟩ => ?_⟩ s1
          have z2 := PyData.list.inj z
          have z3 := congrArg List.length z2
          rw [List.length_map, ringL_len] at z3
          have := rk.pos
          simp at z3
          omega
        | false =>
          refine ⟨_, rfl, a, _, 1, _, rfl, rfl, SqT.of ha, rfl, b, _, rfl, .inr (SqT.of hb), _, _, rfl, rfl, ?_⟩
          refine ⟨_, rfl, U, rfl, ⟨us, SqL.of eu⟩, fun D nD => ?_⟩
          have eM : ((c.2.map vN).length : Int) - 1 = (c.2.length : Int) - 1 := by rw [List.length_map]
          have ml2 : (ds.map fun x => inR x 0 ((c.2.length : Int) - 1)).length ≤ 100000 := by rw [List.length_map]; exact hlen
          refine lc_it walk_list (fun i H3 => Same H1 H3 ∧ H3 D = some (.lst (((ds.map fun x => inR x 0 ((c.2.length : Int) - 1)).take i).map V.bl))) ⟨same_new nD, upd_same⟩ (fun i H3 _ p => SqL.of (p.1 _ _ eu)) ?_ ?_
          · rintro i x H3 H4 hi ⟨s3, e3⟩ ⟨rfl, hx⟩
            obtain ⟨dx, hdx, tx⟩ := mu.get hx
            have hcx : (ds.map fun x => inR x 0 ((c.2.length : Int) - 1))[i]? = some (inR dx 0 ((c.2.length : Int) - 1)) := by rw [List.getElem?_map, hdx]; rfl
            refine ⟨rfl, _, rfl, _, rfl, x, dx, 0, (c.2.length : Int) - 1, congrArg (fun z => [x, V.int 0, V.int z]) eM, Th.same s3 dx tx, ?_⟩
            obtain ⟨acc, a1, a2, a3, a4⟩ := snoc_bl (H4 := H4) (D := D) e3 hcx ml2
            exact ⟨acc, a1, a2, same_push s3 nD, a3⟩
          · rintro H3 ⟨s3, e3⟩
            rw [show us.length = (ds.map fun x => inR x 0 ((c.2.length : Int) - 1)).length by rw [List.length_map, ull], List.take_length] at e3
            refine ⟨D, _, rfl, SqL.of e3, _, rfl, ?_⟩
            rw [List.all_map]
            have nats : ∀ ds : List PyData, ds.all (id ∘ fun x => inR x 0 ((c.2.length : Int) - 1)) = true → ∃ ns : List Nat, ds = ns.map dN ∧ ∀ n ∈ ns, n < c.2.length := by
              intro ds
              induction ds with
              | nil => intro _; exact ⟨[], rfl, fun _ h => nomatch h⟩
              | cons d ds ih =>
                intro h
                rw [List.all_cons, Bool.and_eq_true] at h
                obtain ⟨ns, rfl, hn⟩ := ih h.2
                have h1 : inR d 0 ((c.2.length : Int) - 1) = true := h.1
                cases d with
                | int i =>
                  have z : (decide ((0 : Int) ≤ i) && decide (i ≤ (c.2.length : Int) - 1)) = true := h1
                  rw [Bool.and_eq_true, decide_eq_true_eq, decide_eq_true_eq] at z
                  refine ⟨i.toNat :: ns, ?_, fun n hm => ?_⟩
                  · rw [List.map_cons]
                    show _ = PyData.int _ :: _
                    rw [Int.toNat_of_nonneg z.1]
                  · rcases List.mem_cons.mp hm with e | e
                    · omega
                    · exact hn n e
                | _ => cases h1
            cases hA : ds.all (id ∘ fun x => inR x 0 ((c.2.length : Int) - 1)) with
            | false =>
              refine qq false H3 ⟨fun z => (by cases z), fun ⟨x, k, hx, rk, z⟩ => ?_⟩ (s1.trans s3)
              have z2 := PyData.list.inj z
              rw [z2, List.all_eq_false] at hA
              obtain ⟨y, hy, hny⟩ := hA
              obtain ⟨n, hn, rfl⟩ := List.mem_map.mp hy
              obtain ⟨j, hj, rfl⟩ := List.mem_map.mp hn
              have lt := gon_lt hc.1 hx j
              refine absurd ?_ hny
              show (decide ((0 : Int) ≤ ((gon c j x : Nat) : Int)) && decide (((gon c j x : Nat) : Int) ≤ (c.2.length : Int) - 1)) = true
              rw [decide_eq_true (by omega), decide_eq_true (by omega)]
              rfl
            | true =>
              obtain ⟨ns, rfl, hn⟩ := nats ds hA
              have eus := nat_ints mu
              subst eus
              cases ns with
              | nil => cases hE
              | cons n ns =>
                have hlt : n < c.2.length := hn n List.mem_cons_self
                have eu3 := s3 _ _ eu
                refine ⟨_, rfl, _, rfl, _, rfl, U, _, 0, V.int (n : Int), rfl, rfl, SqL.of eu3, (show atI _ ((0 : Nat) : Int) = _ from atI_nat rfl), .ref a, c, n, rfl, c1.same s3, hc, hlt, fun r v2 H5 rf s5 lv => ?_⟩
                have eu5 := s5 _ _ eu3
                have s15 : Same H H5 := (s1.trans s3).trans s5
                have head : ∀ {x k : Nat}, RingK c x k → (n :: ns).map dN = (ringL c x k).map dN → x = n ∧ n :: ns = ringL c x k := by
                  intro x k rk z
                  have z1 : n :: ns = ringL c x k := List.map_inj_right (f := dN) (fun a b h => by injection h with h; omega) |>.mp z
                  refine ⟨?_, z1⟩
                  have z2 : (n :: ns)[0]? = (ringL c x k)[0]? := by rw [z1]
                  unfold ringL at z2
                  rw [List.getElem?_map, List.getElem?_range rk.pos] at z2
                  exact (Option.some.inj z2).symm
                cases r with
                | none =>
                  have e3 : v2 = .non := lv
                  subst e3
                  refine ⟨_, _, dp_ints eu5, .non, shaped_ints _, shaped_none, ?_⟩
                  rw [eqv_list_none]
                  refine qq false H5 ⟨fun z => (by cases z), fun ⟨x, k, hx, rk, z⟩ => ?_⟩ s15
                  obtain ⟨rfl, _⟩ := head rk (PyData.list.inj z)
                  rcases rf with ⟨_, _, z⟩ | ⟨no, _⟩
                  · cases z
                  · exact (no ⟨k, rk⟩).elim
                | some l =>
                  obtain ⟨p, rfl, np, ep⟩ := lv
                  rcases rf with ⟨k, rk, z⟩ | ⟨_, z⟩
                  · cases z
                    refine ⟨_, _, dp_ints eu5, dp_ints ep, shaped_ints _, shaped_ints _, ?_⟩
                    rw [eqv_ints]
                    refine qq _ H5 ?_ s15
                    rw [decide_eq_true_eq]
                    refine ⟨fun z => ⟨n, k, hlt, rk, by rw [z]⟩, fun ⟨x, k2, hx, rk2, z⟩ => ?_⟩
                    obtain ⟨rfl, z2⟩ := head rk2 (PyData.list.inj z)
                    rw [z2, ringK_inj rk2 rk]
                  · cases z
      | _ => cases hL
end
end Lk
end
section
set_option maxRecDepth 100000
set_option maxHeartbeats 2000000
/-! A caught error that a name keeps behind its suite; isinstance of it. -/
namespace Lk
open PySem PySem.Spec PyProof.Rows L2
/-- an error's object of the class cls, its own dict at d, caught before -/
def ExT (cls : Value) (d : Option Addr) (a : Addr) : HO := .ext fun h => ∃ (oe : Obj) (vs : Array Value), h.get? a = some oe ∧ Zc cls d oe ∧ oe.data = .fields vs
theorem exT_ok {P : Program} {w : World} {H : Hp} {h : Heap} {a : Addr} {cls : Value} {d : Option Addr} {oe : Obj} {vs : Array Value} (e : h.get? a = some oe) (z : Zc cls d oe) (hd : oe.data = .fields vs) : ObjOk P w H h a (ExT cls d a) :=
  ⟨⟨oe, vs, e, z, hd⟩, ⟨oe, e⟩, fun _ _ ⟨o, v, q, r⟩ k => ⟨o, v, k o q, r⟩⟩
section
variable {X : Cx} {pins : List (Addr × Obj)} {σ : L2.St} {H : Hp} {s : Shared}
/-- what is pinned and was made since the entry may be tracked -/
theorem tracked {a : Addr} {oe : Obj} {o : HO} (I : Inv X ((a, oe) :: pins) σ H s) (h0 : X.s_0.heap.get? a = none) (hp : ∀ p ∈ X.pn ++ pins, p.1 ≠ a) (new : ObjOk X.prog X.w (upd H a o) s.heap a o) : Inv X pins σ (upd H a o) s := by
  obtain ⟨ha, hn, nL, nF, nc⟩ := I.pin (a, oe) (List.mem_append.mpr (.inr List.mem_cons_self))
  refine ⟨I.ok, I.os, I.bare, ⟨I.base.keep, I.base.slot, fun b u e n hx => ?_, I.base.there, fun b xs e => ?_, fun b u xs e => ?_, fun b ps e => ?_⟩, I.loc, I.cell, ?_, fun x c e => ?_, fun p h => ?_, I.hok.laidN (fun _ _ e => e) hn new, I.len⟩
  · rw [upd_ne (fun z => by rw [z, h0] at e; cases e)]
    exact I.base.free b u e n hx
  · rw [upd_ne (ne_of_none (I.base.tups b xs e) hn)]
    exact I.base.tups b xs e
  · rw [upd_ne (ne_of_none (I.base.frzs b u xs e) hn)]
    exact I.base.frzs b u xs e
  · obtain ⟨m, q⟩ := I.base.tbls b ps e
    exact ⟨m, by rw [upd_ne (ne_of_none q hn)]; exact q⟩
  · rw [upd_ne nL.symm]
    exact I.free
  · rw [upd_ne (fun z => ?_)]
    · exact I.freeC x c e
    · obtain ⟨v, o', q1, q2⟩ := I.cell x c e
      have q3 : s.heap.get? a = some o' := by rw [← z]; exact q1
      rw [show s.heap.get? a = some oe from ha] at q3
      cases q3
      exact nc v q2
  · have hm : p ∈ X.pn ++ ((a, oe) :: pins) := by
      rcases List.mem_append.mp h with h | h
      · exact List.mem_append.mpr (.inl h)
      · exact List.mem_append.mpr (.inr (List.mem_cons_of_mem _ h))
    obtain ⟨q1, q2, q3⟩ := I.pin p hm
    exact ⟨q1, by rw [upd_ne (hp p h)]; exact q2, q3⟩
theorem unsuiteP {a : Addr} {q : Addr × Obj} (I : Inv (X.suite a (q :: (X.pn ++ pins))) [] σ H s) (ok : X.Ok) : Inv X (q :: pins) σ H s :=
  ⟨ok, I.os, I.bare, I.base, I.loc, I.cell, I.free, I.freeC, fun p hp => I.pin p (by
    rw [List.append_nil]
    show p ∈ q :: (X.pn ++ pins)
    rcases List.mem_append.mp hp with h | h
    · exact List.mem_cons_of_mem _ (List.mem_append.mpr (.inl h))
    · rcases List.mem_cons.mp h with e | h
      · rw [e]; exact List.mem_cons_self
      · exact List.mem_cons_of_mem _ (List.mem_append.mpr (.inr h))), I.hok, I.len⟩
end
/-- the wish of a clause that takes whatever comes, and behind which the error is kept -/
def wKeep (K : PySem.W.Frag) (c : Value) (i : Nat) (ts : Addr → Value → Option Addr → TS) (D : Ends) : WX := fun cls d σ H =>
  PySem.W.exmOne K cls c = some true ∧ ∀ a, H a = none → ts a cls d { nx := fun σ' H' => H' a = none → D.nx (σ'.set i none) (upd H' a (ExT cls d a)), rt := fun _ _ => False, bk := fun _ _ => False, ct := fun _ _ => False } (σ.set i (some (.ref a))) H
section
variable {X : Cx} {x n : Str} {c : Value} {i : Nat} {body suite : List Stmt} {b₀ : Stmt} {np pos pos' : Pos} {tb : WX → TS} {ts : Addr → Value → Option Addr → TS}
/-- what is known of an error that came down: its object where it landed, that it is new, that the frame's state stands -/
structure Down (X : Cx) (pins : List (Addr × Obj)) (a : Addr) (cls : Value) (d : Option Addr) (σ : L2.St) (H : Hp) (s : Shared) : Prop where
  st : Inv X pins σ H s
  ob : ∃ oe vs, s.heap.get? a = some oe ∧ Zc cls d oe ∧ oe.data = .fields vs
  nH : H a = none
  n0 : X.s_0.heap.get? a = none
  nP : ∀ p ∈ X.pn ++ pins, p.1 ≠ a
  nL : a ≠ X.env.locals
  nF : a ∉ X.fs
theorem down {pins : List (Addr × Obj)} {a : Addr} {B : Heap} {cls : Value} {d : Option Addr} {σ : L2.St} {H : Hp} {sI s' : Shared} {h : Heap} (hs : X.stack = X.env :: X.outer) (hf : X.env.frame = some X.env.locals) (hex : X.ex = [])
    (J : Inv X pins σ H sI) (nb : ∀ b o, sI.heap.get? b = some o → b ∉ frs X.stack → B.get? b = some o) (up : sI.heap.UpToSlots h) (os : s'.os = sI.os) (ag : AllBare s'.gens) (na : H a = none)
    (fl : HandSPX.FlyingZ B (X.env :: X.outer) a (Zc cls d) h) : Down X pins a cls d σ H { s' with heap := h } := by
  obtain ⟨oe, vs, he, hz, hd⟩ := fl.there
  have off : a ∉ frs (X.env :: X.outer) := fun hm => by
    obtain ⟨_, o, e, q⟩ := fl.2.2.1.mem hm
    have z : oe = o := Option.some.inj (he.symm.trans e)
    exact q vs (by rw [← z]; exact hd)
  have gone : sI.heap.get? a = none := by
    rcases e : sI.heap.get? a with _ | o
    · rfl
    · have z := nb a o e (by rw [hs]; exact off)
      rw [fl.2.1] at z
      cases z
  refine ⟨J.landed nb fl.1 up os ag, ⟨oe, vs, he, hz, hd⟩, na, ?_, fun p hp z => ?_, fun z => off ?_, fun hm => off ?_⟩
  · rcases e : X.s_0.heap.get? a with _ | o
    · rfl
    · obtain ⟨u, z⟩ := J.base.there a o e (by rw [hex]; exact fun z => nomatch z)
      rw [gone] at z
      cases z
  · have q := (J.pin p hp).1
    rw [z, gone] at q
    cases q
  · exact List.mem_filterMap.mpr ⟨X.env, List.mem_cons_self, by rw [hf, z]⟩
  · obtain ⟨e, he, q⟩ := List.mem_filterMap.mp hm
    exact List.mem_filterMap.mpr ⟨e, List.mem_cons_of_mem _ he, q⟩
/-- a body that ran through a try ran -/
theorem through {pins : List (Addr × Obj)} {xe : Value → Shared → Prop} {D : Ends} {s1 : Shared} (ok : X.Ok) : ∀ {f : Flow}, SP (X.tr (X.pn ++ pins) xe) [] D f s1 → SP X pins D f s1
  | .next, ⟨σ, H, J, q⟩ => ⟨σ, H, J.ofTry ok, q⟩
  | .brk, ⟨σ, H, J, q⟩ => ⟨σ, H, J.ofTry ok, q⟩
  | .cont, ⟨σ, H, J, q⟩ => ⟨σ, H, J.ofTry ok, q⟩
  | .ret _, ⟨v, σ, H, J, r, q⟩ => ⟨v, σ, H, J.ofTry ok, r, q⟩
/-- the suite runs, its name goes, the error is tracked from then on -/
theorem kept {pins : List (Addr × Obj)} {a : Addr} {cls : Value} {d : Option Addr} {σ : L2.St} {H : Hp} {s : Shared} {D : Ends} (ok : X.Ok) (hN : X.N.Nodup) (hi : X.N[i]? = some n) (hln : X.env.kindOf n = some .local)
    (hsu : ∀ (oe : Obj) (pn : List (Addr × Obj)), Zc cls d oe → (∃ vs, oe.data = .fields vs) → PSs (X.suite a ((a, oe) :: pn)) (b₀ :: suite) (ts a cls d)) (W : Down X pins a cls d σ H s)
    (h : ts a cls d { nx := fun σ' H' => H' a = none → D.nx (σ'.set i none) (upd H' a (ExT cls d a)), rt := fun _ _ => False, bk := fun _ _ => False, ct := fun _ _ => False } (σ.set i (some (.ref a))) H)
    {R : Flow → Shared → Prop} {E1 E2 : Value → Shared → Prop} (hR : ∀ s6, wpAny (model X.prog X.w) X.A (do bindName X.env n .none; unbindBehindTheSuite X.env n pos') (fun _ s7 => SP X pins D .next s7) X.xe s6 → R .next s6) :
    wpAny (model X.prog X.w) (X.A.mark (some (.ref a))) (storeName X.env n (.ref a)) (fun _ s5 => wpAny (model X.prog X.w) (X.A.mark (some (.ref a))) (execs (b₀ :: suite) X.env) R E2 s5) E1 s := by
  obtain ⟨oe, vs, he, hz, hd⟩ := W.ob
  have S := W.st.suite he hd W.nH W.nL W.nF
  refine store_ok (X := X.suite a ((a, oe) :: (X.pn ++ pins))) (v := .ref a) S hN hi (.inl hln) rfl (fun s5 S5 => ?_) (.inr hln)
  refine wpAny_mono ((hsu oe (X.pn ++ pins) hz ⟨_, hd⟩).run [] s5 _ H _ S5 h) (fun f s6 z => ?_) fun _ _ z => z.elim
  match f, z with
  | .next, ⟨σ6, H6, S6, q6⟩ =>
    refine hR s6 (gone_ok (unsuiteP S6 ok) hN hi hln fun s7 J7 => ?_)
    obtain ⟨p1, p2, _⟩ := J7.pin (a, oe) (List.mem_append.mpr (.inr List.mem_cons_self))
    exact ⟨_, _, tracked J7 W.n0 W.nP (exT_ok p1 hz hd), q6 p2⟩
  | .brk, ⟨_, _, _, q⟩ => exact q.elim
  | .cont, ⟨_, _, _, q⟩ => exact q.elim
  | .ret _, ⟨_, _, _, _, _, q⟩ => exact q.elim
theorem ps_try_keep (hs : X.stack = X.env :: X.outer) (hf : X.env.frame = some X.env.locals) (hex : X.ex = []) (hN : X.N.Nodup) (hi : X.N[i]? = some n) (hln : X.env.kindOf n = some .local) (hc : Names X x c)
    (hb : ∀ (W : WX) (pn : List (Addr × Obj)) (xe : Value → Shared → Prop), Takes (X.tr pn xe) W → PassesOwn (model X.prog X.w) X.A X.env xe → PSs (X.tr pn xe) body (tb W))
    (hsu : ∀ (a : Addr) (oe : Obj) (cls : Value) (d : Option Addr) (pn : List (Addr × Obj)), Zc cls d oe → (∃ vs, oe.data = .fields vs) → PSs (X.suite a ((a, oe) :: pn)) (b₀ :: suite) (ts a cls d)) :
    PS X (.Try body [.ExceptHandler (some (.Name x np)) (some n) (b₀ :: suite) pos'] [] [] pos) (fun D σ H => tb (wKeep X.K c i ts D) D σ H) := by
  refine ⟨fun pins s σ H D I h => wpAny_Try_except ?_⟩
  have hfr : X.A.frames = some (X.env :: X.outer) := I.ok.frames.trans (by rw [hs])
  refine wpAny_mono ((hb (wKeep X.K c i ts D) (X.pn ++ pins) _ (fun u s' xx => ?_) PassesOwn.looking).run [] s σ H D (I.toTry _) h) (fun f s1 z => ?_) (fun _ _ z => z)
  rotate_left
  · have z' := through I.ok z
    match f, z' with
    | .next, ⟨_, _, J, q⟩ => exact wpAny_execs_nil ⟨_, _, J, q⟩
    | .brk, z' => exact z'
    | .cont, z' => exact z'
    | .ret _, z' => exact z'
  · obtain ⟨a, B, sI, _, σ', H', cls, d, rfl, J', nb, up, sky, na, os, ag, hex1, hyes⟩ := xx
    have J : Inv X pins σ' H' sI := J'.ofTry I.ok
    rw [show (X.tr (X.pn ++ pins) _).stack = X.env :: X.outer from hs] at sky
    refine Sky.land Zc.steady hfr hf sky fun h3 fl3 up3 => ?_
    have W3 := down hs hf hex J nb (up.trans up3) os ag na fl3
    obtain ⟨oe, vs, he, hz, hd⟩ := W3.ob
    have S3 := W3.st.suite he hd na W3.nL W3.nF
    refine wpAny_handleBy_cons (codeAny_handlers_test ?_) fun q => nomatch q
    have look : PySem.W.Looks (model X.prog X.w) h3 (typeOf (.ref a)) cls := fun A Q E s k q => wpAny_typeOf_ref (k _ _ he) (by rw [hz.1]; exact q)
    have name : ∀ {Q : Value → Shared → Prop} {E : Value → Shared → Prop}, Q c { s' with heap := h3 } → wpAny (model X.prog X.w) (X.A.mark (some (.ref a))) (eval (.Name x np) X.env) Q E { s' with heap := h3 } := fun q => by
      rcases hc with ⟨k1, k2, k3 | ⟨k3, k4, k5⟩⟩
      · exact ld_glob S3 k1 k3 q k2
      · exact ld_blt S3 k1 k3 k4 q k5 k2
    refine name ((PySem.W.exm_one W3.st.kIn look hex1).here (codeAny_handlers_suite_as (HandSPX.lands_againZ fl3 fun h4 fl4 up4 => ?_)))
    exact kept I.ok hN hi hln (hsu a · cls d ·) (down hs hf hex J nb ((up.trans up3).trans up4) os ag na fl4) (hyes a na) (fun _ z => z)
end
/-! ### isinstance of such -/
section
variable {X : Cx}
/-- the class of such an error is known to be read rightly -/
theorem exT_at {pins : List (Addr × Obj)} {σ : L2.St} {H : Hp} {s : Shared} {a D : Addr} (I : Inv X pins σ H s) (ha : H a = some (ExT (.ref D) none a)) : ∃ oe, PySem.W.InstAt s.heap a oe D none := by
  obtain ⟨⟨oe, vs, he, hz, hd⟩, _⟩ := I.hok a _ ha
  refine ⟨oe, ?_⟩
  obtain ⟨oc, od, oda, osl⟩ := oe
  obtain ⟨h1, h2⟩ := hz
  dsimp only at h1 h2 hd
  subst h1 h2 hd
  exact ⟨he, rfl, rfl, trivial⟩
def rIsX (K : PySem.W.Frag) : List V → Hp → VK → Prop := fun xs H Q => ∃ (a D : Addr) (c : V) (u : Value) (b : Bool), xs = [.ref a, c] ∧ ExcC K D ∧ H a = some (ExT (.ref D) none a) ∧ ClsV c u ∧ PySem.W.kitOne K (.ref D) u = some b ∧ Q (.bl b) H
theorem call_isX : CallR X (.builtin "isinstance") (rIsX X.K) := by
  intro pins s σ H xs us Q I r h
  obtain ⟨a, D, c, u, b, rfl, C, ha, k, e, q⟩ := h
  obtain ⟨u1, u2, rfl, r1, r2⟩ := vals2 r
  have e2 := k.eq r2
  subst e2
  cases (show u1 = Value.ref a from r1)
  obtain ⟨oe, J⟩ := exT_at I ha
  exact PySem.W.kia_one (PySem.W.handS_kitx_exc C.hg C.hk C.hs C.hd C.ha C.hn C.ht C.hm) I.kIn J e (fun z => nomatch z) fun tk => ⟨.bl b, H, I.tok tk, rfl, q⟩
def rIsXT (K : PySem.W.Frag) : List V → Hp → VK → Prop := fun xs H Q => ∃ (a D tp : Addr) (cs : List V) (us : List Value) (b : Bool), xs = [.ref a, .ref tp] ∧ ExcC K D ∧ H a = some (ExT (.ref D) none a) ∧ H tp = some (.tup cs) ∧ Paired ClsV cs us ∧ PySem.W.kitAny K (.ref D) us = some b ∧ Q (.bl b) H
theorem call_isXT : CallR X (.builtin "isinstance") (rIsXT X.K) := by
  intro pins s σ H xs us Q I r h
  obtain ⟨a, D, tp, cs, ws, b, rfl, C, ha, hT, k, e, q⟩ := h
  obtain ⟨u1, u2, rfl, r1, r2⟩ := vals2 r
  cases (show u2 = Value.ref tp from r2)
  cases (show u1 = Value.ref a from r1)
  obtain ⟨oe, J⟩ := exT_at I ha
  obtain ⟨_, its, rv, o, h1, h2, n, h3⟩ := (show ObjOk X.prog X.w H s.heap tp (.tup cs) from I.hok tp _ hT)
  have e3 := ClsV.all k rv
  subst e3
  obtain ⟨oc, od, dt, sl⟩ := o
  simp only at h2 h3
  subst h2 h3
  exact PySem.W.kia_tup (PySem.W.handS_kitx_exc C.hg C.hk C.hs C.hd C.ha C.hn C.ht C.hm) I.kIn J h1 e (fun z => nomatch z) fun tk => ⟨.bl b, H, I.tok tk, rfl, q⟩
end
end Lk
end
section
set_option maxRecDepth 100000
set_option maxHeartbeats 4000000
/-! tuple * int, of any small number. -/
namespace Lk
open PySem PySem.Spec PyProof.Rows L2
theorem tup_mul_one (l : Addr) (items : Array Value) (n : Nat) (dd : Option Addr) (sl : Array (Option Value)) (u : Tok) :
    Meets (Builtin.«tuple.__mul__» ⟨[.ref l, .int 1 u], []⟩) (fun _ R s => s.heap.get? l = some { cls := .type "tuple", dict := dd, data := .seq items n, slots := sl } ∧ R (.ok (.ret (Value.ref l))) s) :=
  .of_wp fun prog w A R s h => by
    obtain ⟨hp, g, d, tk, os⟩ := s
    obtain ⟨hl, h⟩ := h
    have f1 := AutoSeq1.idx_int
    wp_walk using wpAny_loadPart' hl
    repeat (first
      | (refine wpAny_ite_false (decide_eq_false (by decide)) ?_; wp_walk using wpAny_loadPart' hl)
      | (refine wpAny_ite_true (decide_eq_true (by simp)) ?_; wp_walk using wpAny_loadPart' hl))
    exact ⟨_, rfl, h⟩
theorem tup_mul_none (l : Addr) (items : Array Value) (n : Nat) (dd : Option Addr) (sl : Array (Option Value)) (x : Int) (u : Tok) (h0 : x ≤ 0) (hb : -(2 ^ 63) ≤ x) (hi : items.isEmpty = false) :
    Meets (Builtin.«tuple.__mul__» ⟨[.ref l, .int x u], []⟩) (fun _ R s => s.heap.get? l = some { cls := .type "tuple", dict := dd, data := .seq items n, slots := sl } ∧
      R (.ok (.ret (Value.ref s.heap.objs.size))) { s with heap := s.heap.push { cls := Value.type "tuple", data := Data.seq #[] } }) :=
  .of_wp fun prog w A R s h => by
    obtain ⟨hp, g, d, tk, os⟩ := s
    obtain ⟨hl, h⟩ := h
    have f1 := AutoSeq1.idx_int
    have c0 : (decide (x < -(2 ^ 63)) || decide (x ≥ 2 ^ 63)) = false := by
      rw [decide_eq_false (by omega), decide_eq_false (by omega)]
      rfl
    have c1 : (items.isEmpty || x == 1) = false := by
      rw [hi, Bool.false_or]
      exact beq_eq_false_iff_ne.mpr (by omega)
    have c2 : (decide (x ≤ 0) || items.isEmpty) = true := by
      rw [decide_eq_true h0]
      rfl
    wp_walk using wpAny_loadPart' hl
    repeat (first
      | (refine wpAny_ite_false (decide_eq_false (by rw [c0]; exact Bool.false_ne_true)) ?_; wp_walk using wpAny_loadPart' hl)
      | (refine wpAny_ite_false (decide_eq_false (by rw [c1]; exact Bool.false_ne_true)) ?_; wp_walk using wpAny_loadPart' hl)
      | (refine wpAny_ite_true (decide_eq_true (by rw [c2])) ?_; wp_walk using wpAny_loadPart' hl))
    exact ⟨_, rfl, h⟩
/-- xs * k, new or not -/
def rMulT (K : PySem.W.Frag) : R2 := fun x y H Q => ∃ l k xs, x = .ref l ∧ y = .int k ∧ SqT K H l xs ∧ xs ≠ [] ∧ -1000 ≤ k ∧ k ≤ 1000 ∧ xs.length ≤ 1000 ∧ ∀ p H', Same H H' → (SqT K H' p (List.replicate k.toNat xs).flatten) → (H' p = some (.tup (List.replicate k.toNat xs).flatten) ∨ k = 1 ∧ p = l) → Q (.ref p) H'
theorem op_mulT {X : Cx} : OpR X (binaryOp .Mult) (rMulT X.K) := by
  intro pins s σ H x y v u Q I rx ry h
  obtain ⟨l, k, xs, rfl, rfl, hT, hne, h1, h2, hz, q⟩ := h
  by_cases g2 : 2 ≤ k
  · exact op_repT pins s σ H _ _ v u Q I rx ry ⟨l, k, xs, rfl, rfl, hT, hne, g2, h2, hz, fun p hp => q p _ (same_new hp) (.inl (.inl upd_same)) (.inl upd_same)⟩
  · cases rx
    obtain ⟨t, rfl⟩ := ry
    obtain ⟨its, r, ⟨⟨cls, dd, data, sl⟩, ho, hc, n, hd⟩, hs⟩ := I.tuple hT
    simp only at hc hd
    subst hc hd
    have hi : its.toArray.isEmpty = false := by
      cases its with
      | nil =>
        cases r
        exact absurd rfl hne
      | cons a b => rfl
    by_cases g1 : k = 1
    · subst g1
      refine wpAny_binaryOp_repeat_ref (T := "tuple") (U := "int") (by decide) ⟨_, ho, rfl⟩ (fun s' => typeIs_int s' 1 t) noFill_tuple_mul PySem.F.fills_int_mul PySem.F.slot_int_rmul repeat_tuple PySem.F.slot_int_index.lookup
        (call_meets PySem.F.slot_int_rmul (typeIs_int s 1 t) PySem.F.entry_int_rmul (PySem.F.args_int_rmul_2 _ _) (int_rmul_tuple 1 t l its.toArray n dd sl)
          ⟨ho, rfl, ⟨_, ho, rfl⟩, call_meets PySem.F.slot_tuple_mul ⟨_, ho, rfl⟩ PySem.F.entry_tuple_mul (PySem.F.args_tuple_mul_2 _ _) (tup_mul_one l its.toArray n dd sl t) ⟨ho, ?_⟩⟩)
      refine ⟨.ref l, H, I, rfl, q l H (Same.refl H) ?_ (.inr ⟨rfl, rfl⟩)⟩
      rw [show (List.replicate (1 : Int).toNat xs).flatten = xs by simp]
      exact hT
    · have g0 : k ≤ 0 := by omega
      refine wpAny_binaryOp_repeat_ref (T := "tuple") (U := "int") (by decide) ⟨_, ho, rfl⟩ (fun s' => typeIs_int s' k t) noFill_tuple_mul PySem.F.fills_int_mul PySem.F.slot_int_rmul repeat_tuple PySem.F.slot_int_index.lookup
        (call_meets PySem.F.slot_int_rmul (typeIs_int s k t) PySem.F.entry_int_rmul (PySem.F.args_int_rmul_2 _ _) (int_rmul_tuple k t l its.toArray n dd sl)
          ⟨ho, rfl, ⟨_, ho, rfl⟩, call_meets PySem.F.slot_tuple_mul ⟨_, ho, rfl⟩ PySem.F.entry_tuple_mul (PySem.F.args_tuple_mul_2 _ _) (tup_mul_none l its.toArray n dd sl k t g0 (by omega) hi) ⟨ho, ?_⟩⟩)
      have e0 : (List.replicate k.toNat xs).flatten = [] := by rw [show k.toNat = 0 by omega]; rfl
      have hf : H s.heap.objs.size = none := I.hok.fresh (Nat.le_refl _)
      refine ⟨.ref s.heap.objs.size, upd H s.heap.objs.size (.tup []), I.laid (t' := s.toks) (o := .tup []) (fun b ob q => Heap.get?_push_of_some _ q) (Nat.le_refl _) ?_, rfl, q _ _ (same_new hf) ?_ ?_⟩
      · exact ⟨by show 0 ≤ sizeLine; exact Nat.zero_le _, [], .nil, IsTup.new _ _⟩
      · rw [e0]
        exact .inl (.inl upd_same)
      · rw [e0]
        exact .inl upd_same
/-! ### tuples that were made in the run -/
def rCutT : V → Option Int → Option Int → Hp → VK → Prop := fun x lo hi H Q => ∃ a xs, x = .ref a ∧ H a = some (.tup xs) ∧ ∀ b H', Same H H' → H' b = some (.tup (cutV xs lo hi)) → Q (.ref b) H'
theorem sl_cutT {X : Cx} : SlR X rCutT := by
  intro pins s σ H x v vl vu lo hi sl Q I rx hs pl pu h
  obtain ⟨a, xs, rfl, hx, q⟩ := h
  refine sl_tupA pins s σ H _ v vl vu _ _ sl Q I rx hs pl pu ⟨a, xs, rfl, SqT.of hx, fun z => ?_, fun z p hp => ?_⟩
  · refine q a H (Same.refl H) ?_
    have e : cutV xs lo hi = xs := by
      unfold cutV
      rw [z.1, z.2, List.drop_zero, Nat.sub_zero, List.take_length]
    rw [e]
    exact hx
  · exact q p _ (same_new hp) upd_same
def rAddT : R2 := fun x y H Q => ∃ a b xs ys, x = .ref a ∧ y = .ref b ∧ H a = some (.tup xs) ∧ H b = some (.tup ys) ∧ xs.length + ys.length ≤ sizeLine ∧ ∀ p H', Same H H' → H' p = some (.tup (xs ++ ys)) → Q (.ref p) H'
theorem op_addT {X : Cx} : OpR X (binaryOp .Add) rAddT := by
  intro pins s σ H x y v u Q I rx ry h
  obtain ⟨a, b, xs, ys, rfl, rfl, ha, hb, hl, q⟩ := h
  refine op_catA pins s σ H _ _ v u Q I rx ry ⟨a, b, xs, ys, rfl, rfl, SqT.of ha, SqT.of hb, hl, fun e => ?_, fun _ e => ?_, fun _ _ p hp => q p _ (same_new hp) upd_same⟩
  · subst e
    exact q b H (Same.refl H) hb
  · subst e
    exact q a H (Same.refl H) (by rw [List.append_nil]; exact ha)
def rRepTT : R2 := fun x y H Q => ∃ l k xs, x = .ref l ∧ y = .int k ∧ H l = some (.tup xs) ∧ xs ≠ [] ∧ -1000 ≤ k ∧ k ≤ 1000 ∧ xs.length ≤ 1000 ∧ ∀ p H', Same H H' → H' p = some (.tup (List.replicate k.toNat xs).flatten) → Q (.ref p) H'
theorem op_repTT {X : Cx} : OpR X (binaryOp .Mult) rRepTT := by
  intro pins s σ H x y v u Q I rx ry h
  obtain ⟨l, k, xs, rfl, rfl, hT, hne, h1, h2, hz, q⟩ := h
  refine op_mulT pins s σ H _ _ v u Q I rx ry ⟨l, k, xs, rfl, rfl, SqT.of hT, hne, h1, h2, hz, fun p H' s1 _ z => q p H' s1 ?_⟩
  rcases z with z | ⟨rfl, rfl⟩
  · exact z
  · rw [show (List.replicate (1 : Int).toNat xs).flatten = xs by simp]
    exact s1 _ _ hT
end Lk
end
section
set_option maxRecDepth 100000
set_option maxHeartbeats 2000000
namespace Lk
open PySem PySem.Spec PyProof.Rows L2
/-! ### xs.count(b), a list of truths -/
def eqB (k : Bool) (v : Value) : Bool := match v with
  | .bool n => n == k
  | _ => false
theorem bools_of : ∀ {bs : List Bool} {us : List Value}, Vals (bs.map V.bl) us → us = bs.map Value.bool
  | [], _, r => by cases r; rfl
  | b :: bs, _, r => by
    cases r with
    | cons r1 r2 =>
      rw [bools_of r2]
      cases (show _ = Value.bool b from r1)
      rfl
theorem eqB_count (k : Bool) : ∀ bs : List Bool, (bs.map Value.bool).countP (eqB k) = bs.count k
  | [] => rfl
  | b :: bs => by
    rw [List.map_cons, List.countP_cons, List.count_cons, eqB_count k bs]
    rfl
section
variable {X : Cx}
def rCntB (K : PySem.W.Frag) : V → List V → Hp → VK → Prop := fun x xs H Q => ∃ (p : Addr) (bs : List Bool) (k : Bool), x = .ref p ∧ xs = [.bl k] ∧ SqL K H p (bs.map V.bl) ∧ Q (.int (bs.count k : Nat)) H
theorem mt_lcountB : MtR X "list.count" (rCntB X.K) := by
  intro pins s σ H x xs v us Q I rx rxs h
  obtain ⟨p, bs, k, rfl, rfl, hs, q⟩ := h
  cases rx
  obtain ⟨u, rfl, ru⟩ := rxs.one
  cases (show u = Value.bool k from ru)
  obtain ⟨its, rv, ⟨⟨cls, dd, data, sl⟩, n, ho, hc, hdn, hd⟩, hlen⟩ := I.list hs
  simp only at hc hd
  subst hc hd
  have hi := bools_of rv
  subst hi
  refine call_meets PySem.F.slot_list_count ⟨_, ho, rfl⟩ PySem.F.entry_list_count (PySem.F.args_list_count_2 _ _)
    (SeqAt.list_countAt p (bs.map Value.bool).toArray n dd sl (.bool k) (eqB k)) ⟨ho, fun y hy => ?_, ?_⟩
  · have hy' : y ∈ bs.map Value.bool := by simpa using hy
    obtain ⟨b, _, rfl⟩ := List.mem_map.mp hy'
    exact SeqAt.EqAt.bool_bool b k
  · refine ⟨.int (bs.count k : Nat), H, I.tok _, ⟨s.toks, ?_⟩, q⟩
    show Value.int (((bs.map Value.bool).toArray.toList.countP (eqB k) : Nat) : Int) s.toks = Value.int ((bs.count k : Nat) : Int) s.toks
    rw [show (bs.map Value.bool).toArray.toList = bs.map Value.bool from rfl, eqB_count]
end
theorem kit_self {K : PySem.W.Frag} (C : Addr) : PySem.W.kitOne K (.ref C) (.ref C) = some true := by
  unfold PySem.W.kitOne
  rw [if_pos (beq_self_eq_true _)]
/-- isinstance(caught, x), x a class of the program's own; caught in slot 0 -/
def tIsG (K : PySem.W.Frag) (C : Addr) : TE := fun σ H Q => ∃ a D b, σ[0]? = some (some (.ref a)) ∧ ExcC K D ∧ H a = some (ExT (.ref D) none a) ∧ PySem.W.kitOne K (.ref D) (.ref C) = some b ∧ Q (.bl b) H
theorem pe_isG {X : Cx} {x : Str} {C : Addr} {p p1 p2 pos : Pos} (mi : X.mg "isinstance" = none) (g : X.mg x = some (.ref C)) (hi : Gl X "isinstance") (hg : Gl X x) (hN : X.N[0]? = some ("caught" : Str)) (hv : Vis X.env.scope ("caught" : Str)) (hd : (x == ("__debug__" : Str)) = false := by decide)
    (hs1 : starEach [Expr.Name "caught" p1, Expr.Name x p2] X.env = (false, eval (.Name "caught" p1) X.env) :: starEach [Expr.Name x p2] X.env := by rfl) (hs2 : starEach [Expr.Name x p2] X.env = (false, eval (.Name x p2) X.env) :: starEach [] X.env := by rfl) :
    PE X (.Call (.Name "isinstance" p) [.Name "caught" p1, .Name x p2] [] pos) (tIsG X.K C) := by
  have h : PE X (.Call (.Name "isinstance" p) [.Name "caught" p1, .Name x p2] [] pos) _ := pe_callB call_isX hi mi (by decide +kernel) (pa_cons (pv 0 hN hv) (pa_cons (pe_glob (v := .ref C) hg g rfl hd) pa_nil))
  refine ⟨fun pins s σ H Q I q => h.run pins s σ H Q I ?_⟩
  obtain ⟨a, D, b, e, c, ha, k, q⟩ := q
  exact ⟨.ref a, e, a, D, .ref C, _, b, rfl, c, ha, .own C, k, q⟩
/-- x names a class that the class at CL is under or not -/
def IsB (K : PySem.W.Frag) (mg : Str → Option Value) (CL : Addr) (x : Str) (b : Bool) : Prop := ∃ C, mg x = some (.ref C) ∧ PySem.W.kitOne K (.ref CL) (.ref C) = some b
/-- the classes of errors, seen from the one at CL -/
structure Errs (K : PySem.W.Frag) (mg : Str → Option Value) (CL : Addr) (b1 b2 b3 b4 b5 b6 b7 : Bool) : Prop where
  C : ExcC K CL
  ve : mg "ValueError" = none
  yes : PySem.W.kitOne K (.ref CL) (.type "ValueError") = some true
  iso : mg "isinstance" = none
  e1 : IsB K mg CL "NoKnown" b1
  e2 : IsB K mg CL "NoText" b2
  e3 : IsB K mg CL "NoPairs" b3
  e4 : IsB K mg CL "NoLoop" b4
  e5 : IsB K mg CL "NoCoder" b5
  e6 : IsB K mg CL "NoCount" b6
  e7 : IsB K mg CL "NotRound" b7
  f1 : IsB K mg CL "NoCounts" false
  f2 : IsB K mg CL "NoLog" false
  f3 : IsB K mg CL "NoPlace" false
  f4 : IsB K mg CL "NoRow" false
  f5 : IsB K mg CL "NoSign" false
  f6 : IsB K mg CL "NoTree" false
  f7 : IsB K mg CL "NoWord" false
  f8 : IsB K mg CL "NotLike" false
  f9 : IsB K mg CL "Nothing" false
def OneHot (b1 b2 b3 b4 b5 b6 b7 : Bool) : Prop := (b1 = true ∧ b2 = false ∧ b3 = false ∧ b4 = false ∧ b5 = false ∧ b6 = false ∧ b7 = false) ∨ (b1 = false ∧ b2 = true ∧ b3 = false ∧ b4 = false ∧ b5 = false ∧ b6 = false ∧ b7 = false) ∨ (b1 = false ∧ b2 = false ∧ b3 = true ∧ b4 = false ∧ b5 = false ∧ b6 = false ∧ b7 = false) ∨ (b1 = false ∧ b2 = false ∧ b3 = false ∧ b4 = true ∧ b5 = false ∧ b6 = false ∧ b7 = false) ∨ (b1 = false ∧ b2 = false ∧ b3 = false ∧ b4 = false ∧ b5 = true ∧ b6 = false ∧ b7 = false) ∨ (b1 = false ∧ b2 = false ∧ b3 = false ∧ b4 = false ∧ b5 = false ∧ b6 = true ∧ b7 = false) ∨ (b1 = false ∧ b2 = false ∧ b3 = false ∧ b4 = false ∧ b5 = false ∧ b6 = false ∧ b7 = true)
/-- the name by which the law knows it -/
def clsName (b1 b2 b3 b4 b5 b6 b7 : Bool) : Str := if b1 then "NoKnown" else if b2 then "NoText" else if b3 then "NoPairs" else if b4 then "NoLoop" else if b5 then "NoCoder" else if b6 then "NoCount" else if b7 then "NotRound" else "odd"
def spClass (CL : Addr) (nm : Str) : Sp := fun vs H Q _ => ∃ a, vs = [.ref a] ∧ H a = some (ExT (.ref CL) none a) ∧ ∀ H', Same H H' → Q (.str nm) H'
end Lk
end
section
set_option maxRecDepth 100000
set_option maxHeartbeats 2000000
/-! The law's bag and what it draws: what is promised. -/
namespace Lk
open PySem PySem.Spec PyProof.Rows L2
theorem but_of {a : Addr} {H H' : Hp} (h : Same H H') : SameBut a H H' := fun b o _ e => h b o e
def bagO (b : Int × Int × Int) : HO := .lst [.int b.1, .int b.2.1, .int b.2.2]
def Bag (H : Hp) (a : Addr) : Prop := ∃ b, H a = some (bagO b)
def spBag : Sp := fun vs H Q _ => ∃ c : Int, vs = [.int c] ∧ ∀ p b, H p = none → Q (.ref p) (upd H p (bagO b))
def spPick : Sp := fun vs H Q _ => ∃ (a : Addr) (m : Int), vs = [.ref a, .int m] ∧ Bag H a ∧ 0 < m ∧ m ≤ 10 ^ 40 ∧ ∀ v H', 0 ≤ v → v < m → Bag H' a → SameBut a H H' → Q (.int v) H'
theorem pick_div {i j : Int} (h0 : 0 < j) (h1 : j ≤ 10 ^ 40) : CDivW i j := wide_div h0 (b := 200) (by
  have e : (2 : Nat) ^ 200 > 10 ^ 40 := by decide +kernel
  omega) (by decide) (by decide)
def spCoder : Sp := fun vs H Q _ => ∃ (a : Addr) (m : Int), vs = [.ref a, .int m] ∧ Bag H a ∧ 1 ≤ m ∧ m ≤ 12 ∧
  ∀ v c H', CdOk c → (c.2.length : Int) ≤ m → (∀ n ∈ c.2, n < 10 ^ 29) → Bag H' a → SameBut a H H' → Cat H' v c → Q v H'
theorem Bag.ne {H : Hp} {a p : Addr} (h : Bag H a) (n : H p = none) : a ≠ p := by
  obtain ⟨b, e⟩ := h
  exact ne_of_none e n
theorem Bag.same {H H' : Hp} {a : Addr} (h : Bag H a) (s : Same H H') : Bag H' a := by
  obtain ⟨b, e⟩ := h
  exact ⟨b, s _ _ e⟩
/-- the classes that are known by these names -/
def spCls (L : List (Addr × Str)) : Sp := fun vs H Q _ => ∃ a CL nm, vs = [.ref a] ∧ (CL, nm) ∈ L ∧ H a = some (ExT (.ref CL) none a) ∧ ∀ H', Same H H' → Q (.str nm) H'
theorem fnOk_nil {P : Program} {w : World} {K : PySem.W.Frag} {mg : Str → Option Value} {base : Heap} {k : Nat} {f : Addr} {fd : FuncData} : FnOk P w K mg base CX0 k f fd ["caught"] (spCls []) :=
  ⟨fun _ _ _ _ h => (by obtain ⟨_, _, _, _, m, _⟩ := h; cases m), fun _ _ _ _ _ _ _ _ _ _ _ _ _ h => (by obtain ⟨_, _, _, _, m, _⟩ := h; cases m)⟩
theorem fnOk_cls {P : Program} {w : World} {K : PySem.W.Frag} {mg : Str → Option Value} {base : Heap} {k : Nat} {f CL : Addr} {fd : FuncData} {nm : Str} {L : List (Addr × Str)} (h1 : FnOk P w K mg base CX0 k f fd ["caught"] (spClass CL nm)) (h2 : FnOk P w K mg base CX0 k f fd ["caught"] (spCls L)) :
    FnOk P w K mg base CX0 k f fd ["caught"] (spCls ((CL, nm) :: L)) := by
  refine ⟨fun vs H Q E h => ?_, fun A outer s H args us vs Q E hr e0 hb r h => ?_⟩
  · obtain ⟨a, _, _, rfl, _⟩ := h
    rfl
  · obtain ⟨a, C, n, e, m, ha, q⟩ := h
    rcases List.mem_cons.mp m with z | z
    · cases z
      exact h1.run A outer s H args us vs Q E hr e0 hb r ⟨a, e, ha, q⟩
    · exact h2.run A outer s H args us vs Q E hr e0 hb r ⟨a, C, n, e, z, ha, q⟩
end Lk
end
section
set_option maxRecDepth 100000
set_option maxHeartbeats 2000000
namespace Lk
open PySem PySem.Spec PyProof.Rows L2
section
variable {P : Program} {w : World} {K : PySem.W.Frag} {mg : Str → Option Value} {base : Heap}
theorem sc_bag : FnScope ["cell"] ["cell"] (defScope s_law_bag) := ⟨rfl, rfl, rfl, by decide +kernel, rfl, by decide +kernel, by decide +kernel⟩
theorem ok_bag {f : Addr} {fd : FuncData} {k : Nat} (F : Fun K "_law_bag" "_law_bag" s_law_bag f fd) (mmax : mg "max" = none) : FnOk P w K mg base CX0 (k + 1) f fd ["cell"] spBag := by
  refine F.ok sc_bag (fun vs H Q E h => ?_) (fun cdv A outer s H vs Q E hr h => ?_)
  · obtain ⟨c, rfl, _⟩ := h
    rfl
  · obtain ⟨c, rfl, q⟩ := h
    refine ⟨_, pss_one (ps_ret (pe_lst (pa_cons (pe_callB (call_max2 rfl) (by rfl) mmax (by decide +kernel) (pa_cons pe_int (pa_cons (pe_op op_sub (pv 0) (pe_op op_pow pe_int pe_int)) pa_nil)))
      (pa_cons (pv 0) (pa_cons pe_int pa_nil))))), ?_⟩
    refine ⟨_, rfl, _, _, rfl, rfl, ⟨by decide, by decide, by decide⟩, _, _, rfl, rfl, _, _, rfl, _, rfl, (by show 3 ≤ sizeLine; decide), fun p hp => q p (_, _, _) hp⟩
theorem sc_pick : FnScope ["bag", "many", "told", "first", "second"] ["bag", "many"] (defScope s_law_pick) := ⟨rfl, rfl, rfl, by decide +kernel, rfl, by decide +kernel, by decide +kernel⟩
theorem ok_pick {f : Addr} {fd : FuncData} {k : Nat} (F : Fun K "_law_pick" "_law_pick" s_law_pick f fd) : FnOk P w K mg base CX0 (k + 1) f fd ["bag", "many"] spPick := by
  refine F.ok sc_pick (fun vs H Q E h => ?_) (fun cdv A outer s H vs Q E hr h => ?_)
  · obtain ⟨a, m, rfl, _⟩ := h
    rfl
  · obtain ⟨a, m, rfl, ⟨⟨b0, b1, b2⟩, hb⟩, h0, h1, q⟩ := h
    have nd := sc_pick.nd
    refine ⟨_, pss_cons (ps_asg (pe_op op_add (pe_ix ix_list (pv 0) pe_int (fun _ _ => rfl)) pe_int) (pg_sub (pv 0) pe_int set_list))
      (pss_cons (ps_if (pt_cmpR op_gt (pe_ix ix_list (pv 0) pe_int (fun _ _ => rfl)) pe_int (nomark _))
        (pss_cons (ps_set (i := 2) nd rfl (Or.inl rfl) (pe_op op_mod (pe_ix ix_list (pv 0) pe_int (fun _ _ => rfl)) (pv 1)))
        (pss_cons (ps_asg (pe_op op_fdivW (pe_ix ix_list (pv 0) pe_int (fun _ _ => rfl)) (pv 1)) (pg_sub (pv 0) pe_int set_list))
        (pss_one (ps_ret (pv 2))))) pss_nil)
      (pss_cons (ps_set (i := 3) nd rfl (Or.inl rfl) (pe_op op_mod (pe_op op_add (pe_op op_add (pe_op op_mul (pe_op op_mod (pe_ix ix_list (pv 0) pe_int (fun _ _ => rfl)) pe_int) pe_int)
          (pe_op op_mul (pe_ix ix_list (pv 0) pe_int (fun _ _ => rfl)) pe_int)) pe_int) pe_int))
      (pss_cons (ps_set (i := 4) nd rfl (Or.inl rfl) (pe_op op_mod (pe_op op_add (pe_op op_mul (pv 3) (pv 3)) (pe_op op_mul (pe_ix ix_list (pv 0) pe_int (fun _ _ => rfl)) pe_int)) pe_int))
      (pss_one (ps_ret (pe_op op_mod (pe_op op_fdiv (pe_op op_add (pe_op op_mul (pv 3) pe_int) (pv 4)) pe_int) (pv 1))))))), ?_⟩
    refine ⟨_, rfl, a, _, 2, .int b2, rfl, rfl, SqL.of hb, rfl, _, _, rfl, rfl, _, rfl, a, _, 2, 2, rfl, rfl, hb, rfl, ?_⟩
    refine ⟨_, rfl, a, _, 0, .int b0, rfl, rfl, SqL.of upd_same, rfl, _, _, rfl, rfl, _, rfl, ite2 (fun c => ?_) (fun c => ?_)⟩
    · refine ⟨_, rfl, a, _, 0, .int b0, rfl, rfl, SqL.of upd_same, rfl, _, rfl, _, _, rfl, rfl, h0, ?_⟩
      refine ⟨_, rfl, a, _, 0, .int b0, rfl, rfl, SqL.of upd_same, rfl, _, rfl, _, _, rfl, rfl, pick_div h0 h1, _, rfl, a, _, 0, 0, rfl, rfl, upd_same, rfl, ?_⟩
      refine ⟨_, rfl, ?_⟩
      refine q _ _ (Int.emod_nonneg _ (by omega)) (Int.emod_lt_of_pos _ h0) ⟨(b0 / m, b1, b2 + 1), upd_same⟩ fun p o n e => ?_
      rw [upd_ne n, upd_ne n]
      exact e
    · refine ⟨_, rfl, a, _, 1, .int b1, rfl, rfl, SqL.of upd_same, rfl, _, _, rfl, rfl, (by show (0 : Int) < 2147483629; decide), _, _, rfl, rfl, .inr ⟨by decide, by decide⟩, ?_⟩
      refine ⟨_, rfl, a, _, 2, .int (b2 + 1), rfl, rfl, SqL.of upd_same, rfl, _, _, rfl, rfl, .inr ⟨by decide, by decide⟩, _, _, rfl, rfl, _, _, rfl, rfl, _, _, rfl, rfl, (by show (0 : Int) < 2147483647; decide), ?_⟩
      generalize hF : ((b1 % 2147483629 * 48271 + (b2 + 1) * 69621 + 12345) % 2147483647 : Int) = F1
      have hF0 : 0 ≤ F1 := by rw [← hF]; exact Int.emod_nonneg _ (by decide)
      have hF1 : F1 < 2147483647 := by rw [← hF]; exact Int.emod_lt_of_pos _ (by decide)
      refine ⟨_, rfl, _, rfl, _, _, rfl, rfl, .inl ⟨by omega, by omega⟩, _, rfl, a, _, 2, .int (b2 + 1), rfl, rfl, SqL.of upd_same, rfl, _, _, rfl, rfl, .inr ⟨by decide, by decide⟩, _, _, rfl, rfl, _, _, rfl, rfl, (by show (0 : Int) < 2147483587; decide), ?_⟩
      refine ⟨_, rfl, _, _, rfl, rfl, .inl ⟨by omega, by omega⟩, _, rfl, _, _, rfl, rfl, _, _, rfl, rfl, ⟨by decide, by decide⟩, _, rfl, _, _, rfl, rfl, h0, ?_⟩
      exact q _ _ (Int.emod_nonneg _ (by omega)) (Int.emod_lt_of_pos _ h0) ⟨(b0, b1, b2 + 1), upd_same⟩ sameBut_upd
end
end Lk
end
section
set_option maxRecDepth 100000
set_option maxHeartbeats 2000000
namespace Lk
open PySem PySem.Spec PyProof.Rows L2
section
variable {P : Program} {w : World} {K : PySem.W.Frag} {mg : Str → Option Value} {base : Heap}
abbrev nLC : List Str := ["bag", "most", "p", "wide", "k"]
theorem sc_lcoder : FnScope nLC ["bag", "most"] (defScope s_law_coder) := ⟨rfl, rfl, rfl, by decide +kernel, rfl, by decide +kernel, by decide +kernel⟩
theorem ok_lcoder {f : Addr} {fd : FuncData} (F : Fun K "_law_coder" "_law_coder" s_law_coder f fd) (pick : C8.Cal P w K mg base 1 "_law_pick" spPick []) (mr : mg "range" = none) (mt : mg "tuple" = none) : FnOk P w K mg base CX0 2 f fd ["bag", "most"] spCoder := by
  refine F.ok sc_lcoder (fun vs H Q E h => ?_) (fun cdv A outer s H vs Q E hr h => ?_)
  · obtain ⟨a, m, rfl, _⟩ := h
    rfl
  · obtain ⟨a, m, rfl, hb, h1, h12, q⟩ := h
    have nd := sc_lcoder.nd
    refine ⟨_, pss_cons (by exact (ps_set (i := 2) nd rfl (Or.inl rfl) (pe_op op_add pe_int (C8.pe_c pick hr (Nat.le_refl _) rfl (pa_cons (pv 0) (pa_cons (pv 1) pa_nil))))))
      (pss_cons (by exact (ps_set (i := 3) nd rfl (Or.inr rfl) (pe_ix ix_list (pe_lst (pa_cons pe_int (pa_cons (pe_op op_add (pv 2) pe_int) (pa_cons pe_int (pa_cons (pe_op op_pow pe_int pe_int) (pa_cons (pe_op op_pow pe_int pe_int) pa_nil)))))) (C8.pe_c pick hr (Nat.le_refl _) rfl (pa_cons (pv 0) (pa_cons pe_int pa_nil))) (fun _ _ => rfl))))
      (pss_one (by exact (ps_ret (pe_tup (pa_cons (C8.pe_c pick hr (Nat.le_refl _) rfl (pa_cons (pv 0) (pa_cons (pv 2) pa_nil))) (pa_cons (pe_callTy call_tuple_of (by rfl) mt (by decide +kernel) (pa_cons (pe_lc (own := [("k", 4)]) (g := gName 4) (tt := tYes) rfl nd (pi_range1 (by rfl) mr (pa_cons (pv 2) pa_nil)) (blkOk_by (N := nLC) (sc := defScope s_law_coder) (by decide +kernel))
          (fun _ _ _ _ _ => pg_name (i := 4) nd rfl (Or.inl rfl)) (fun _ _ _ _ _ => pts_nil) (fun _ _ _ _ _ => C8.pe_c pick hr (Nat.le_refl _) rfl (pa_cons (pv 0) (pa_cons (pv 3) pa_nil)))) pa_nil)) pa_nil))))))), ?_⟩
    have big : (12 : Int) ≤ 10 ^ 40 := by decide
    refine ⟨_, rfl, _, rfl, a, m, rfl, hb, by omega, by omega, fun v0 H1 v0p v0m b1 sb1 => ?_⟩
    obtain ⟨p, hp⟩ : ∃ p : Nat, 1 + v0 = (p : Int) := ⟨(1 + v0).toNat, by omega⟩
    refine ⟨_, _, rfl, rfl, ?_⟩
    have hp1 : 1 ≤ p := by omega
    have hpm : (p : Int) ≤ m := by omega
    -- wide
    refine ⟨_, rfl, _, _, rfl, rfl, _, _, rfl, rfl, ⟨by decide, by decide, by decide⟩, _, _, rfl, rfl, ⟨by decide, by decide, by decide⟩, (by show 5 ≤ sizeLine; decide), fun L nL => ?_⟩
    have naL := b1.ne nL
    refine ⟨_, rfl, a, 5, rfl, b1.same (same_new nL), by decide, by decide, fun v1 H2 v1p v1m b2 sb2 => ?_⟩
    have e2 := sb2 L _ naL.symm upd_same
    obtain ⟨wd, hwd, w1, w2⟩ : ∃ wd : Int, ([1, 1 + v0 + 1, 30, 10 ^ (9 : Int).toNat, 10 ^ (29 : Int).toNat] : List Int)[v1.toNat]? = some wd ∧ 0 < wd ∧ wd ≤ 10 ^ 29 := by
      obtain ⟨j, rfl⟩ := Int.eq_ofNat_of_zero_le v1p
      match j, v1m with
      | 0, _ => exact ⟨_, rfl, by decide, by decide⟩
      | 1, _ =>
        refine ⟨_, rfl, by omega, ?_⟩
        have : (14 : Int) ≤ 10 ^ 29 := by decide
        omega
      | 2, _ => exact ⟨_, rfl, by decide, by decide⟩
      | 3, _ => exact ⟨_, rfl, by decide, by decide⟩
      | 4, _ => exact ⟨_, rfl, by decide, by decide⟩
      | j + 5, z => exact absurd z (by omega)
    refine ⟨L, _, v1, .int wd, rfl, rfl, SqL.of e2, ?_, ?_⟩
    · have e : v1 = ((v1.toNat : Nat) : Int) := by omega
      rw [e]
      refine atI_nat ?_
      have z := congrArg (Option.map V.int) hwd
      rw [← List.getElem?_map] at z
      exact z
    -- the place
    have hpp : 0 < 1 + v0 := by omega
    refine ⟨_, rfl, _, rfl, a, 1 + v0, rfl, b2, hpp, by omega, fun v2 H3 v2p v2m b3 sb3 => ?_⟩
    refine ⟨_, rfl, 1 + v0, rfl, by omega, by omega, fun D nD => ?_⟩
    have naD := b3.ne nD
    have wbig : wd ≤ 10 ^ 40 := Int.le_trans w2 (by decide)
    rw [show (1 + v0).toNat = p by omega]
    refine lc_it walk_range (fun i H4 => ∃ ls : List Nat, ls.length = i ∧ (∀ n ∈ ls, n < 10 ^ 29) ∧ H4 D = some (.lst (ls.map vN)) ∧ Bag H4 a ∧ SameBut a H3 H4) ⟨[], rfl, (fun _ h => nomatch h), upd_same, b3.same (same_new nD), but_of (same_new nD)⟩ (fun _ _ _ _ => True.intro) ?_ ?_
    · rintro i x H4 H5 hi ⟨ls, hl, hlt, eD, b4, sb4⟩ ⟨rfl, rfl⟩
      refine ⟨rfl, _, rfl, _, rfl, a, wd, rfl, b4, w1, wbig, fun v3 H6 v3p v3m b6 sb6 => ?_⟩
      have e6 := sb6 D _ naD.symm eD
      have e3 : V.int v3 = vN v3.toNat := congrArg V.int (by omega)
      refine ⟨_, e6, ?_, ls ++ [v3.toNat], ?_, ?_, ?_, ?_, ?_⟩
      · rw [List.length_map, hl]
        exact Nat.lt_of_lt_of_le (show i < 13 by omega) (by decide)
      · rw [List.length_append, hl]
        rfl
      · intro n hn
        rcases List.mem_append.mp hn with h | h
        · exact hlt n h
        · rw [List.mem_singleton.mp h]
          have z : (10 : Int) ^ 29 = ((10 ^ 29 : Nat) : Int) := by decide
          rw [z] at w2
          omega
      · rw [upd_same, List.map_append, e3]
        rfl
      · obtain ⟨bb, eb⟩ := b6
        exact ⟨bb, by rw [upd_ne naD]; exact eb⟩
      · intro b o n e
        rw [upd_ne (ne_of_none e nD)]
        exact sb6 b o n (sb4 b o n e)
    · rintro H4 ⟨ls, hl, hlt, eD, b4, sb4⟩
      refine ⟨D, _, rfl, .inl ⟨SqL.of eD, fun T nT => ⟨(by show 2 ≤ sizeLine; decide), fun U nU => ?_⟩⟩⟩
      have b5 := (b4.same (same_new (o := .tup (ls.map vN)) nT)).same (same_new (o := .tup [.int v2, .ref T]) nU)
      refine q (.ref U) (v2.toNat, ls) _ ⟨?_, ?_⟩ ?_ hlt b5 ?_ ?_
      · show v2.toNat < ls.length
        omega
      · show ls.length ≤ 12
        omega
      · show ((ls.length : Nat) : Int) ≤ m
        omega
      · have sN : SameBut a H4 (upd (upd H4 T (.tup (ls.map vN))) U (.tup [.int v2, .ref T])) := but_of (Same.trans (same_new nT) (same_new nU))
        have s0 : SameBut a H1 (upd H1 L (.lst [.int 1, .int (1 + v0 + 1), .int 30, .int (10 ^ (9 : Int).toNat), .int (10 ^ (29 : Int).toNat)])) := but_of (same_new nL)
        exact ((((sb1.trans s0).trans sb2).trans sb3).trans sb4).trans sN
      · refine ⟨U, T, rfl, ?_, by rw [upd_ne (ne_of_none upd_same nU), upd_same]⟩
        rw [upd_same]
        show some (HO.tup [V.int v2, _]) = some (HO.tup [V.int ((v2.toNat : Nat) : Int), _])
        rw [Int.toNat_of_nonneg v2p]
end
end Lk
end
section
set_option maxRecDepth 100000
set_option maxHeartbeats 1000000
/-! Rings, as the law finds them by walking. -/
namespace Lk
open PySem PySem.Spec PyProof.Rows L2
/-- behind how many goings it is at a again, 0 where it isn't within p -/
def agn (c : Cd) (a : Nat) : Nat := match (List.range c.2.length).find? (fun j => decide (gon c (j + 1) a = a)) with
  | some j => j + 1
  | none => 0
theorem agn_some {c : Cd} {a k : Nat} (h0 : 0 < k) (hp : k ≤ c.2.length) (h : gon c k a = a) (l : ∀ j, 0 < j → j < k → gon c j a ≠ a) : agn c a = k := by
  unfold agn
  have e : (List.range c.2.length).find? (fun j => decide (gon c (j + 1) a = a)) = some (k - 1) := by
    rw [List.find?_range_eq_some]
    refine ⟨decide_eq_true (by rw [show k - 1 + 1 = k by omega]; exact h), List.mem_range.mpr (by omega), fun j hj => ?_⟩
    rw [decide_eq_false (l (j + 1) (by omega) (by omega))]
    rfl
  rw [e]
  show k - 1 + 1 = k
  omega
theorem agn_none {c : Cd} {a : Nat} (l : ∀ j, 0 < j → j ≤ c.2.length → gon c j a ≠ a) : agn c a = 0 := by
  unfold agn
  have e : (List.range c.2.length).find? (fun j => decide (gon c (j + 1) a = a)) = none := by
    rw [List.find?_range_eq_none]
    intro j hj
    rw [decide_eq_false (l (j + 1) (by omega) (by omega))]
    rfl
  rw [e]
theorem agn_pos {c : Cd} {a : Nat} (h : 0 < agn c a) : agn c a ≤ c.2.length ∧ gon c (agn c a) a = a ∧ ∀ j, 0 < j → j < agn c a → gon c j a ≠ a := by
  unfold agn at h ⊢
  cases e : (List.range c.2.length).find? (fun j => decide (gon c (j + 1) a = a)) with
  | none => rw [e] at h; exact absurd h (Nat.lt_irrefl _)
  | some j =>
    rw [List.find?_range_eq_some] at e
    obtain ⟨h1, h2, h3⟩ := e
    have h2 := List.mem_range.mp h2
    refine ⟨by show j + 1 ≤ _; omega, of_decide_eq_true h1, fun i i0 i1 z => ?_⟩
    have i1 : i < j + 1 := i1
    have w := h3 (i - 1) (by omega)
    rw [show i - 1 + 1 = i by omega, decide_eq_true z] at w
    cases w
theorem ring_agn {c : Cd} (h : COk c) {a k : Nat} (ha : a < c.2.length) (r : RingK c a k) : agn c a = k ∧ (∀ x ∈ ringL c a k, a ≤ x) ∧ c.1 ∉ ringL c a k := by
  have kp : k ≤ c.2.length := by
    have z := nodup_below (ringL_nodup r) (p := c.2.length) (fun x hx => by
      unfold ringL at hx
      obtain ⟨j, _, rfl⟩ := List.mem_map.mp hx
      exact gon_lt h ha j)
    rwa [ringL_len] at z
  refine ⟨agn_some r.pos kp r.back fun j j0 jk z => ?_, fun x hx => ?_, fun hx => ?_⟩
  · have := r.least j j0 jk
    omega
  · unfold ringL at hx
    obtain ⟨j, hj, rfl⟩ := List.mem_map.mp hx
    by_cases c0 : j = 0
    · rw [c0]; exact Nat.le_refl _
    · exact Nat.le_of_lt (r.least j (by omega) (List.mem_range.mp hj))
  · unfold ringL at hx
    obtain ⟨j, hj, e⟩ := List.mem_map.mp hx
    exact r.home j (List.mem_range.mp hj) e
theorem agn_ring {c : Cd} {a : Nat} (h0 : 0 < agn c a) (hm : ∀ x ∈ ringL c a (agn c a), a ≤ x) (hc : c.1 ∉ ringL c a (agn c a)) : RingK c a (agn c a) := by
  obtain ⟨h1, h2, h3⟩ := agn_pos h0
  have inr : ∀ j, j < agn c a → gon c j a ∈ ringL c a (agn c a) := fun j hj => by
    unfold ringL
    exact List.mem_map.mpr ⟨j, List.mem_range.mpr hj, rfl⟩
  refine ⟨h0, fun j hj z => hc (z ▸ inr j hj), fun j j0 hj => ?_, h2⟩
  have z := hm _ (inr j hj)
  have w := h3 j j0 hj
  omega
/-- what the law has found below a place -/
structure Fnd (c : Cd) (n : Nat) (fs : List (List Nat)) : Prop where
  mem : ∀ r, r ∈ fs ↔ ∃ a k, a < n ∧ RingK c a k ∧ r = ringL c a k
  hd : (fs = [] ∧ ∀ a, a < n → ¬ RingAt c a) ∨ ∃ a k, a < n ∧ RingK c a k ∧ (∀ b, b < a → ¬ RingAt c b) ∧ fs[0]? = some (ringL c a k)
  len : fs.length ≤ n
theorem Fnd.none {c : Cd} : Fnd c 0 [] := ⟨fun r => ⟨fun h => (by cases h), fun ⟨_, _, h, _⟩ => absurd h (Nat.not_lt_zero _)⟩, .inl ⟨rfl, fun a h => absurd h (Nat.not_lt_zero _)⟩, Nat.le_refl _⟩
theorem Fnd.yes {c : Cd} {n k : Nat} {fs : List (List Nat)} (f : Fnd c n fs) (r : RingK c n k) : Fnd c (n + 1) (fs ++ [ringL c n k]) := by
  refine ⟨fun x => ⟨fun h => ?_, fun ⟨a, j, ha, ra, e⟩ => ?_⟩, ?_, by rw [List.length_append]; have := f.len; show _ + 1 ≤ _; omega⟩
  · rcases List.mem_append.mp h with z | z
    · obtain ⟨a, j, ha, ra, e⟩ := (f.mem x).mp z
      exact ⟨a, j, by omega, ra, e⟩
    · exact ⟨n, k, Nat.lt_succ_self _, r, List.mem_singleton.mp z⟩
  · by_cases g : a < n
    · exact List.mem_append_left _ ((f.mem x).mpr ⟨a, j, g, ra, e⟩)
    · have ea : a = n := by omega
      subst ea
      rw [ringK_inj ra r] at e
      exact List.mem_append_right _ (List.mem_singleton.mpr e)
  · rcases f.hd with ⟨rfl, no⟩ | ⟨a, j, ha, ra, no, e⟩
    · exact .inr ⟨n, k, Nat.lt_succ_self _, r, no, rfl⟩
    · refine .inr ⟨a, j, by omega, ra, no, ?_⟩
      rw [List.getElem?_append_left (List.getElem?_eq_some_iff.mp e).1]
      exact e
theorem Fnd.no {c : Cd} {n : Nat} {fs : List (List Nat)} (f : Fnd c n fs) (r : ¬ RingAt c n) : Fnd c (n + 1) fs := by
  refine ⟨fun x => ⟨fun h => ?_, fun ⟨a, j, ha, ra, e⟩ => ?_⟩, ?_, by have := f.len; omega⟩
  · obtain ⟨a, j, ha, ra, e⟩ := (f.mem x).mp h
    exact ⟨a, j, by omega, ra, e⟩
  · by_cases g : a < n
    · exact (f.mem x).mpr ⟨a, j, g, ra, e⟩
    · have ea : a = n := by omega
      subst ea
      exact absurd ⟨j, ra⟩ r
  · rcases f.hd with ⟨e, no⟩ | ⟨a, j, ha, ra, no, e⟩
    · refine .inl ⟨e, fun a ha => ?_⟩
      by_cases g : a < n
      · exact no a g
      · rw [show a = n by omega]; exact r
    · exact .inr ⟨a, j, by omega, ra, no, e⟩
/-- what ring tells is the first of them -/
theorem Fnd.first {c : Cd} (h : COk c) {fs : List (List Nat)} (f : Fnd c c.2.length fs) {r : Option (List Nat)} (q : RingOf c r) : r = fs[0]? := by
  rcases q with ⟨a, k, ha, rk, no, rfl⟩ | ⟨no, rfl⟩
  · rcases f.hd with ⟨_, nn⟩ | ⟨b, j, hb, rb, nb, e⟩
    · exact absurd ⟨k, rk⟩ (nn a ha)
    · have ab : a = b := by
        by_cases g : a < b
        · exact absurd ⟨k, rk⟩ (nb a g)
        · by_cases g2 : b < a
          · exact absurd ⟨j, rb⟩ (no b g2)
          · omega
      subst ab
      rw [e, ringK_inj rk rb]
  · rcases f.hd with ⟨e, _⟩ | ⟨b, j, hb, rb, _, _⟩
    · rw [e]; rfl
    · exact absurd ⟨j, rb⟩ (no b hb)
end Lk
end
section
set_option maxRecDepth 100000
set_option maxHeartbeats 2000000
/-! The rules that lay a new object, told without the heap's text: what was stays, the object is there. -/
namespace Lk
open PySem PySem.Spec PyProof.Rows L2
section
variable {X : Cx} {es : List Expr} {t : TA} {pos : Pos}
def tTupS (t : TA) : TE := fun σ H Q => t σ H fun xs H1 => xs.length ≤ sizeLine ∧ ∀ p H2, H1 p = none → Same H1 H2 → H2 p = some (.tup xs) → Q (.ref p) H2
def tLstS (t : TA) : TE := fun σ H Q => t σ H fun xs H1 => xs.length ≤ sizeLine ∧ ∀ p H2, H1 p = none → Same H1 H2 → H2 p = some (.lst xs) → Q (.ref p) H2
theorem pe_tupS {x1} (h : PA X es t) : PE X (.Tuple es x1 pos) (tTupS t) := by
  refine ⟨fun pins s σ H Q I hq => wpAny_Tuple_spliced (thn (h.run pos pins s σ H _ I hq) fun us s1 ⟨xs, H1, I1, r, z, q⟩ => ⟨by rw [← r.length]; exact z, ?_⟩)⟩
  have free : H1 s1.heap.objs.size = none := I1.hok.fresh (Nat.le_refl _)
  refine ⟨.ref s1.heap.objs.size, _, I1.laid (o := .tup xs) (t' := s1.toks) (fun b u e => Heap.get?_push_of_some _ e) (Nat.le_refl _) ?_, rfl, q _ _ free (same_new free) upd_same⟩
  exact ⟨z, us, r, ⟨_, Heap.get?_push_size _ rfl, rfl, _, rfl⟩⟩
theorem pe_lstS (h : PA X es t) : PE X (.List es pos) (tLstS t) := by
  refine ⟨fun pins s σ H Q I hq => wpAny_List_spliced (thn (h.run pos pins s σ H _ I hq) fun us s1 ⟨xs, H1, I1, r, z, q⟩ => ⟨by rw [← r.length]; exact z, ?_⟩)⟩
  have free : H1 s1.heap.objs.size = none := I1.hok.fresh (Nat.le_refl _)
  refine ⟨.ref s1.heap.objs.size, _, I1.laid (o := .lst xs) (t' := s1.toks) (fun b u e => Heap.get?_push_of_some _ e) (Nat.le_refl _) ?_, rfl, q _ _ free (same_new free) upd_same⟩
  exact ⟨z, us, 0, r, Heap.get?_push_size _ rfl⟩
def rCatS : R2 := fun x y H Q => ∃ a b xs ys, x = .ref a ∧ y = .ref b ∧ H a = some (.lst xs) ∧ H b = some (.lst ys) ∧ xs.length + ys.length ≤ sizeLine ∧ ∀ p H2, H p = none → Same H H2 → H2 p = some (.lst (xs ++ ys)) → Q (.ref p) H2
theorem op_catS : OpR X (binaryOp .Add) rCatS := by
  intro pins s σ H x y v u Q I rx ry h
  obtain ⟨a, b, xs, ys, rfl, rfl, ha, hb, hl, q⟩ := h
  exact op_cat pins s σ H _ _ v u Q I rx ry ⟨a, b, xs, ys, rfl, rfl, ha, hb, hl, fun p hp => q p _ hp (same_new hp) upd_same⟩
/-- tuple(xs) of a list, tuple(t) of a tuple -/
def rTupS : List V → Hp → VK → Prop := fun vs H Q => ∃ p xs, vs = [.ref p] ∧ ((H p = some (.lst xs) ∧ ∀ l H2, H l = none → Same H H2 → H2 l = some (.tup xs) → Q (.ref l) H2) ∨ (H p = some (.tup xs) ∧ Q (.ref p) H))
theorem call_tupS : CallR X (.type "tuple") rTupS := by
  intro pins s σ H xs us Q I r h
  obtain ⟨p, ys, rfl, h⟩ := h
  rcases h with ⟨h, q⟩ | ⟨h, q⟩
  · exact call_tuple_of pins s σ H _ us Q I r ⟨p, ys, rfl, .inl ⟨SqL.of h, fun l hl => q l _ hl (same_new hl) upd_same⟩⟩
  · exact call_tuple_of pins s σ H _ us Q I r ⟨p, ys, rfl, .inr ⟨SqT.of h, q⟩⟩
/-- list(xs), list(t) -/
def rLisS : List V → Hp → VK → Prop := fun vs H Q => ∃ p xs, vs = [.ref p] ∧ (H p = some (.lst xs) ∨ H p = some (.tup xs)) ∧ ∀ l H2, H l = none → Same H H2 → H2 l = some (.lst xs) → Q (.ref l) H2
theorem call_lisS : CallR X (.type "list") rLisS := by
  intro pins s σ H xs us Q I r h
  obtain ⟨p, ys, rfl, h, q⟩ := h
  refine call_list_of pins s σ H _ us Q I r ⟨p, ys, rfl, ?_, fun l hl => q l _ hl (same_new hl) upd_same⟩
  exact h.imp SqL.of SqT.of
end
/-- the cells: the script's first ones, and 0 -/
theorem cells_ints {ns : List Int} {k : Int} : ∀ x ∈ cutV (ns.map V.int) none (some k) ++ [V.int 0], ∃ z, x = V.int z := by
  intro x hx
  rcases List.mem_append.mp hx with h | h
  · unfold cutV at h
    obtain ⟨z, _, e⟩ := List.mem_map.mp (List.mem_of_mem_drop (List.mem_of_mem_take h))
    exact ⟨z, e.symm⟩
  · exact ⟨0, List.mem_singleton.mp h⟩
theorem cells_len {ns : List Int} {k : Int} (h : ns.length ≤ 63) : (cutV (ns.map V.int) none (some k)).length ≤ 63 := by
  unfold cutV
  rw [List.length_take, List.length_drop, List.length_map]
  omega
end Lk
end
section
set_option maxRecDepth 100000
set_option maxHeartbeats 2000000
/-! The law's urn. -/
namespace Lk
open PySem PySem.Spec PyProof.Rows L2
def CPowW (i j : Int) : Prop := 0 ≤ j ∧ j ≤ 8 ∧ i.natAbs < 2 ^ 1000
theorem op_powW {X : Cx} : OpR X (binaryOp .Pow) (rI CPowW fun i j => .int (i ^ j.toNat)) := opI fun i j _ _ _ _ _ hc q => by
  obtain ⟨h0, h8, hi⟩ := hc
  refine pow_int h0 ?_ q
  have l := PySem.Flt.log2_lt_of (by decide : 0 < 1000) hi
  have b : Builtin.Int.intBits i ≤ 1000 := by
    unfold Builtin.Int.intBits
    split <;> omega
  have h1 : (Builtin.Int.intBits i : Int) * j ≤ 1000 * j := Int.mul_le_mul_of_nonneg_right (by omega) h0
  omega
def Urn (H : Hp) (a : Addr) (n : Int) : Prop := ∃ u0 u1 u2 : Int, H a = some (.lst [.int u0, .int u1, .int u2]) ∧ 0 ≤ u1 ∧ u1 < 10 ^ 36 ∧ 0 ≤ u2 ∧ u2 ≤ n
theorem Urn.ne {H : Hp} {a p : Addr} {n : Int} (h : Urn H a n) (e : H p = none) : a ≠ p := by
  obtain ⟨_, _, _, e2, _⟩ := h
  exact ne_of_none e2 e
theorem Urn.same {H H' : Hp} {a : Addr} {n : Int} (h : Urn H a n) (s : Same H H') : Urn H' a n := by
  obtain ⟨u0, u1, u2, e, r⟩ := h
  exact ⟨u0, u1, u2, s _ _ e, r⟩
theorem Urn.le {H : Hp} {a : Addr} {n m : Int} (h : Urn H a n) (l : n ≤ m) : Urn H a m := by
  obtain ⟨u0, u1, u2, e, h1, h2, h3, h4⟩ := h
  exact ⟨u0, u1, u2, e, h1, h2, h3, Int.le_trans h4 l⟩
theorem Urn.cat {H H2 : Hp} {a : Addr} {n : Int} {v : V} {c : Cd} (h : Urn H a n) (s : SameBut a H H2) (k : Cat H v c) : Cat H2 v c := by
  obtain ⟨_, _, _, e, _⟩ := h
  exact k.but e s
def spUrn : Sp := fun vs H Q _ => ∃ c : Int, vs = [.int c] ∧ ∀ p H', H p = none → Same H H' → Urn H' p 0 → Q (.ref p) H'
def spPull : Sp := fun vs H Q _ => ∃ (a : Addr) (m n : Int), vs = [.ref a, .int m] ∧ Urn H a n ∧ n ≤ 100000 ∧ 0 < m ∧ m ≤ 10 ^ 40 ∧ ∀ v H', 0 ≤ v → v < m → Urn H' a (n + 1) → SameBut a H H' → Q (.int v) H'
end Lk
end
section
set_option maxRecDepth 100000
set_option maxHeartbeats 2000000
/-! Going home; the tree of a round. -/
namespace Lk
open PySem PySem.Spec PyProof.Rows L2
/-- where one stands behind so many turns, who stays at home -/
def hw (c : Cd) : Nat → Nat → Nat
  | 0, i => i
  | k + 1, i => if hw c k i = c.1 then hw c k i else go c (hw c k i)
theorem hw_run (c : Cd) (i : Nat) : ∀ k, ((∃ j, j ≤ k ∧ gon c j i = c.1) ∧ hw c k i = c.1) ∨ ((∀ j, j ≤ k → gon c j i ≠ c.1) ∧ hw c k i = gon c k i)
  | 0 => by
    by_cases e : i = c.1
    · exact .inl ⟨⟨0, Nat.le_refl _, e⟩, e⟩
    · refine .inr ⟨fun j hj => ?_, rfl⟩
      rw [Nat.le_zero.mp hj]
      exact e
  | k + 1 => by
    rcases hw_run c i k with ⟨⟨j, hj, e⟩, h⟩ | ⟨h1, h2⟩
    · refine .inl ⟨⟨j, by omega, e⟩, ?_⟩
      show (if hw c k i = c.1 then hw c k i else go c (hw c k i)) = c.1
      rw [if_pos h]
      exact h
    · have e : hw c (k + 1) i = gon c (k + 1) i := by
        show (if hw c k i = c.1 then hw c k i else go c (hw c k i)) = gon c (k + 1) i
        rw [h2, if_neg (h1 k (Nat.le_refl _)), gon_succ]
      by_cases z : gon c (k + 1) i = c.1
      · exact .inl ⟨⟨k + 1, Nat.le_refl _, z⟩, e.trans z⟩
      · refine .inr ⟨fun j hj => ?_, e⟩
        rcases Nat.lt_or_ge j (k + 1) with l | g
        · exact h1 j (by omega)
        · rw [show j = k + 1 by omega]
          exact z
theorem rch_near {c : Cd} (h : COk c) {i : Nat} (hi : i < c.2.length) (r : Rch c i) : ∃ j, j < c.2.length ∧ gon c j i = c.1 := by
  obtain ⟨j, hj, hl⟩ := least_of (Q := fun k => gon c k i = c.1) r.choose_spec
  refine ⟨j, ?_, hj⟩
  have nd : ((List.range (j + 1)).map fun k => gon c k i).Nodup := by
    refine List.pairwise_map.mpr (List.Pairwise.imp_of_mem (R := fun a b => a < b) (fun {a b} ha hb l e => ?_) List.pairwise_lt_range)
    rw [List.mem_range] at ha hb
    refine hl (a + (j - b)) (by omega) ?_
    rw [gon_add, e, ← gon_add, show b + (j - b) = j by omega]
    exact hj
  have z := nodup_below nd fun x hx => by
    obtain ⟨k, _, rfl⟩ := List.mem_map.mp hx
    exact gon_lt h hi k
  rw [List.length_map, List.length_range] at z
  omega
theorem hw_home {c : Cd} (h : COk c) {i : Nat} (hi : i < c.2.length) {k : Nat} (hk : c.2.length ≤ k + 1) : hw c k i = c.1 ↔ Rch c i := by
  rcases hw_run c i k with ⟨⟨j, _, e⟩, e2⟩ | ⟨h1, h2⟩
  · exact ⟨fun _ => ⟨j, e⟩, fun _ => e2⟩
  · refine ⟨fun z => ⟨k, h2.symm.trans z⟩, fun r => ?_⟩
    obtain ⟨j, hj, e⟩ := rch_near h hi r
    exact absurd e (h1 j (by omega))
theorem hw_lt {c : Cd} (h : COk c) {i : Nat} (hi : i < c.2.length) : ∀ k, hw c k i < c.2.length
  | 0 => hi
  | k + 1 => by
    show (if hw c k i = c.1 then hw c k i else go c (hw c k i)) < c.2.length
    split
    · exact hw_lt h hi k
    · exact go_lt h _
def Home0 (c : Cd) : Prop := c.1 = 0 ∧ len c 0 % c.2.length = 0
instance (c : Cd) : Decidable (Home0 c) := inferInstanceAs (Decidable (_ ∧ _))
theorem visit : ∀ (n : Nat) {c : Cd} (i v : Nat), COk c → len c i ≤ v → v < len (it n c) i → ∃ t, t < n ∧ (it t c).1 = i ∧ len (it t c) i = v
  | 0, c, i, v, _, h1, h2 => by
    have z : len (it 0 c) i = len c i := rfl
    omega
  | n + 1, c, i, v, hc, h1, h2 => by
    by_cases e : c.1 = i ∧ len c i = v
    · exact ⟨0, by omega, e.1, e.2⟩
    · have l : len (nx c) i ≤ v := by
        by_cases e2 : c.1 = i
        · have ne : len c i ≠ v := fun z => e ⟨e2, z⟩
          have z := len_nx_same hc
          rw [e2] at z
          omega
        · rw [len_nx_ne (fun z => e2 z.symm)]
          exact h1
      obtain ⟨t, ht, e1, e2⟩ := visit n i v (nx_ok hc) l h2
      exact ⟨t + 1, by omega, e1, e2⟩
def Hm (d : Cd) (j : Nat) : Prop := Home0 (it j d) ∧ ∀ k, k < j → ¬ Home0 (it k d)
theorem hm_is {d : Cd} (h : COk d) (f : Free d) : ∃ j, Hm d j := by
  have hp : 0 < d.2.length := Nat.lt_of_le_of_lt (Nat.zero_le _) h
  have e : len (it (d.2.length * d.2.length) d) 0 = len d 0 + d.2.length := by
    rw [it_round h f]
    exact getD_map_add _ _ hp
  obtain ⟨v, v1, v2, v3⟩ : ∃ v, len d 0 ≤ v ∧ v < len d 0 + d.2.length ∧ v % d.2.length = 0 := by
    by_cases z : len d 0 = 0
    · exact ⟨0, by omega, by omega, Nat.zero_mod _⟩
    · obtain ⟨v, a1, a2, a3⟩ := some_to (p := d.2.length) 0 (len d 0 - 1) 0 hp
      rw [Nat.zero_add] at a3
      exact ⟨v, by omega, by omega, a3⟩
  obtain ⟨t, _, t1, t2⟩ := visit (d.2.length * d.2.length) 0 v h v1 (by rw [e]; exact v2)
  have hm : Home0 (it t d) := ⟨t1, by rw [it_len, t2]; exact v3⟩
  exact least_of (Q := fun k => Home0 (it k d)) hm
theorem hm_one {d : Cd} {j k : Nat} (a : Hm d j) (b : Hm d k) : j = k := by
  rcases Nat.lt_trichotomy j k with l | e | l
  · exact absurd a.1 (b.2 j l)
  · exact e
  · exact absurd b.1 (a.2 k l)
/-- the tree of the round to which c comes -/
def TreeOf (c : Cd) (t : List Nat) : Prop := ∃ n j, Ahead c n ∧ Hm (it n c) j ∧ t = (gos (it (n + j) c)).drop 1
theorem treeOf_one {c : Cd} {t u : List Nat} (a : TreeOf c t) (b : TreeOf c u) : t = u := by
  obtain ⟨n, j, a1, a2, rfl⟩ := a
  obtain ⟨m, k, b1, b2, rfl⟩ := b
  have e := ahead_one a1 b1
  subst e
  rw [hm_one a2 b2]
theorem treeOf_len {c : Cd} {t : List Nat} (a : TreeOf c t) : t.length = c.2.length - 1 := by
  obtain ⟨n, j, _, _, rfl⟩ := a
  rw [List.length_drop, gos_len, it_len]
theorem treeOf_lt {c : Cd} (h : COk c) {t : List Nat} (a : TreeOf c t) : ∀ x ∈ t, x < c.2.length := by
  obtain ⟨n, j, _, _, rfl⟩ := a
  intro x hx
  have hx2 := List.mem_of_mem_drop hx
  unfold gos at hx2
  obtain ⟨i, _, rfl⟩ := List.mem_map.mp hx2
  have z := go_lt (it_ok (n + j) h) i
  rw [it_len] at z
  exact z
theorem ne_no {A B : Prop} {x y : V} (e : x = y) (h : B) : if (!decide (x = y)) = true then A else B := by
  rw [decide_eq_true e]
  exact iteF h
theorem ne_yes {A B : Prop} {x y : V} (e : ¬ x = y) (h : A) : if (!decide (x = y)) = true then A else B := by
  rw [decide_eq_false e]
  exact iteT h
def toldTree (c : Cd) (Q : VK) (H : Hp) : Prop := ∀ t p H', TreeOf c t → Same H H' → H' p = some (.tup (t.map vN)) → Q (.ref p) H'
def spGoals : Sp := fun vs H Q _ => ∃ v c, vs = [v] ∧ Cat H v c ∧ CdOk c ∧ ∀ p H', H p = none → Same H H' → H' p = some (.lst ((gos c).map vN)) → Q (.ref p) H'
def spHome : Sp := fun vs H Q _ => ∃ g c, vs = [.ref g, .int ((c.1 : Nat) : Int)] ∧ H g = some (.lst ((gos c).map vN)) ∧ COk c ∧ c.2.length ≤ 12 ∧ ∀ b, (b = true ↔ Free c) → Q (.bl b) H
def spEnter : Sp := fun vs H Q _ => ∃ v c, vs = [v] ∧ Cat H v c ∧ CdOk c ∧ toldEnter c Q H
def spTree : Sp := fun vs H Q _ => ∃ v c, vs = [v] ∧ Cat H v c ∧ CdOk c ∧ toldTree c Q H
def spUCoder : Sp := fun vs H Q _ => ∃ (a : Addr) (m n : Int), vs = [.ref a, .int m] ∧ Urn H a n ∧ n ≤ 90000 ∧ 1 ≤ m ∧ m ≤ 12 ∧
  ∀ v c H', CdOk c → (c.2.length : Int) ≤ m → (∀ n ∈ c.2, n < 10 ^ 31) → Urn H' a (n + 100) → SameBut a H H' → Cat H' v c → Q v H'
end Lk
end
section
set_option maxRecDepth 100000
set_option maxHeartbeats 2000000
/-! How long the text of data is. -/
namespace Lk
open PySem PySem.Spec PyProof.Rows L2
theorem textFrom_le : ∀ (ts : List Str) (k : Nat) (acc : Str), (textFrom k acc ts).length ≤ acc.length + piled ts
  | [], _, acc => Nat.le_add_right _ _
  | t :: r, k, acc => by
    have ih := textFrom_le r (k + 1) (acc ++ (if k > 0 then ", " else "" : String) ++ t)
    have e : (acc ++ (if k > 0 then ", " else "" : String) ++ t).length ≤ acc.length + 2 + t.length := by
      rw [strLen_append, strLen_append]
      split
      · exact Nat.le_refl _
      · show acc.length + 0 + t.length ≤ _
        omega
    rw [piled_cons]
    show (textFrom (k + 1) _ r).length ≤ _
    omega
theorem listText_le (ts : List Str) : (listText ts).length ≤ 2 + piled ts := by
  unfold listText
  rw [strLen_append]
  have h := textFrom_le ts 0 "["
  have e1 : (("[" : String) : Str).length = 1 := rfl
  have e2 : (("]" : String) : Str).length = 1 := rfl
  omega
theorem tupleText_le (ts : List Str) : (tupleText ts).length ≤ 3 + piled ts := by
  unfold tupleText
  rw [strLen_append, strLen_append]
  have e1 : ((("(" : String) : Str)).length = 1 := rfl
  have e3 : (((if ts.length == 1 then ",)" else ")" : String) : Str)).length ≤ 2 := by split <;> decide
  by_cases h : ts = []
  · subst h
    have e4 : (Str.join ", " []).length = 0 := rfl
    omega
  · have j := join_length_add ts h
    omega
mutual
/-- a bound of the length of the text -/
def wt : PyData → Nat
  | .none => 4
  | .bool _ => 5
  | .int i => (toString i).length
  | .str x => (reprText x).length
  | .list ds => 2 + wts ds
  | .tuple ds => 3 + wts ds
  | .dict kvs => (dictText (PyData.shownKv kvs)).length
def wts : List PyData → Nat
  | [] => 0
  | d :: ds => wt d + 2 + wts ds
end
mutual
theorem shown_wt : ∀ d : PyData, d.shown.length ≤ wt d
  | .none => by simp only [PyData.shown, wt]; decide
  | .bool b => by cases b <;> (simp only [PyData.shown, wt]; decide)
  | .int i => by simp only [PyData.shown, wt]; rw [PySem.ofString_length]; exact Nat.le_refl _
  | .str x => by simp only [PyData.shown, wt]; exact Nat.le_refl _
  | .list ds => by
    simp only [PyData.shown, wt]
    have h := listText_le (PyData.shownAll ds)
    have g := piled_wts ds
    omega
  | .tuple ds => by
    simp only [PyData.shown, wt]
    have h := tupleText_le (PyData.shownAll ds)
    have g := piled_wts ds
    omega
  | .dict kvs => by simp only [PyData.shown, wt]; exact Nat.le_refl _
theorem piled_wts : ∀ ds : List PyData, piled (PyData.shownAll ds) ≤ wts ds
  | [] => by simp [PyData.shownAll, wts, piled]
  | d :: ds => by
    have h := shown_wt d
    have g := piled_wts ds
    simp only [PyData.shownAll, wts, piled_cons]
    omega
end
theorem wts_append : ∀ ds es : List PyData, wts (ds ++ es) = wts ds + wts es
  | [], es => by simp [wts]
  | d :: ds, es => by
    show wt d + 2 + wts (ds ++ es) = wt d + 2 + wts ds + wts es
    rw [wts_append ds es]
    omega
theorem wts_le {B : Nat} : ∀ {ds : List PyData}, (∀ d ∈ ds, wt d ≤ B) → wts ds ≤ ds.length * (B + 2)
  | [], _ => Nat.zero_le _
  | d :: ds, h => by
    have ih := wts_le (ds := ds) fun x hx => h x (List.mem_cons_of_mem _ hx)
    have h1 := h d List.mem_cons_self
    show wt d + 2 + wts ds ≤ (ds.length + 1) * (B + 2)
    rw [Nat.add_mul, Nat.one_mul]
    omega
theorem wt_int {i : Int} (h : i.natAbs < 10 ^ 45) : wt (.int i) ≤ 46 := int_text_length_le10 (by decide) h
theorem wt_nat {n : Nat} (h : n < 10 ^ 45) : wt (dN n) ≤ 46 := wt_int (by omega)
theorem wts_nats {ls : List Nat} (h : ∀ n ∈ ls, n < 10 ^ 45) : wts (ls.map dN) ≤ ls.length * 48 := by
  have z := wts_le (B := 46) (ds := ls.map dN) fun d hd => by
    obtain ⟨n, hn, rfl⟩ := List.mem_map.mp hd
    exact wt_nat (h n hn)
  rw [List.length_map] at z
  exact z
theorem showAll_nats : ∀ {ls : List Nat}, (∀ n ∈ ls, n < 10 ^ 45) → PyData.showableAll (ls.map dN) = true
  | [], _ => by simp [PyData.showableAll]
  | n :: ls, h => by
    have h1 := h n List.mem_cons_self
    have lt : ((n : Int).natAbs).log2 < 1920 := by
      have e : ((n : Int).natAbs) = n := by omega
      rw [e]
      by_cases z : n = 0
      · subst z
        decide
      · exact (Nat.log2_lt z).mpr (Nat.lt_trans h1 (by decide +kernel))
    simp only [List.map_cons, PyData.showableAll, PyData.showable, showAll_nats (fun x hx => h x (List.mem_cons_of_mem _ hx)), decide_eq_true lt, Bool.and_self]
theorem show_cd {c : Cd} (h0 : c.1 < 10 ^ 45) (h : ∀ n ∈ c.2, n < 10 ^ 45) : (cdD c).showable = true := by
  have a := showAll_nats h
  have b := showAll_nats (ls := [c.1]) fun n hn => by rw [List.mem_singleton.mp hn]; exact h0
  simp only [List.map_cons, List.map_nil, PyData.showableAll, Bool.and_true] at b
  simp only [cdD, PyData.showable, PyData.showableAll, a, Bool.and_true]
  simpa only [PyData.showable] using b
theorem wt_cd {c : Cd} (h0 : c.1 < 10 ^ 45) (h : ∀ n ∈ c.2, n < 10 ^ 45) (h12 : c.2.length ≤ 12) : wt (cdD c) ≤ 1000 := by
  have a := wts_nats h
  have b := wt_nat h0
  have e : wt (cdD c) = 3 + (wt (dN c.1) + 2 + (3 + wts (c.2.map dN) + 2 + 0)) := rfl
  omega
theorem depth_cd (c : Cd) : (cdD c).depth ≤ 64 := by
  simp only [cdD, PyData.depth, PyData.depthAll, depthAll_ints]
  decide
/-- what the repr of a coder asks, and tells -/
theorem rep_cd {K : PySem.W.Frag} {H : Hp} {Q : VK} {v : V} {c : Cd} (cat : Cat H v c) (ok : CdOk c) (h : ∀ n ∈ c.2, n < 10 ^ 45) (q : Q (.str (cdD c).shown) H) : rRep K [v] H Q := by
  have h0 : c.1 < 10 ^ 45 := Nat.lt_trans ok.1 (Nat.lt_of_le_of_lt ok.2 (by decide +kernel))
  refine ⟨v, cdD c, rfl, Th.dq _ cat.th, (fun kvs z => nomatch z), show_cd h0 h, depth_cd c, ?_, q⟩
  have a := shown_wt (cdD c)
  have b := wt_cd h0 h ok.2
  rw [sizeLine_eq]
  omega
end Lk
end
section
set_option maxRecDepth 100000
set_option maxHeartbeats 2000000
/-! == of coders. -/
namespace Lk
open PySem PySem.Spec PyProof.Rows L2
theorem eqvAll_ints : ∀ l m : List Nat, PyData.eqvAll (l.map dN) (m.map dN) = decide (l = m) := by
  intro l
  induction l with
  | nil => intro m; cases m <;> simp [PyData.eqvAll]
  | cons a l ih =>
    intro m
    cases m with
    | nil => simp [PyData.eqvAll]
    | cons b m =>
      simp only [List.map_cons, PyData.eqvAll, PyData.eqv, ih]
      by_cases e : a = b
      · subst e
        simp
      · have e2 : ¬ ((a : Int) = (b : Int)) := by omega
        simp [e, e2]
theorem eqv_cd (c d : Cd) : PyData.eqv (cdD c) (cdD d) = decide (c = d) := by
  obtain ⟨a, l⟩ := c
  obtain ⟨b, m⟩ := d
  simp only [cdD, PyData.eqv, PyData.eqvAll, eqvAll_ints]
  by_cases e : a = b
  · subst e
    by_cases e2 : l = m
    · subst e2
      simp
    · simp [e2]
  · have e3 : ¬ ((a : Int) = (b : Int)) := by omega
    simp [e, e3]
theorem lay_cd (c : Cd) : (cdD c).canLay0 = true := by
  simp [cdD, PyData.canLay0, PyData.canLayAll0, layAll_ints]
theorem shaped_cd (c : Cd) : SeqAt.shaped (cdD c) = true := by
  unfold SeqAt.shaped
  rw [Bool.and_eq_true]
  refine ⟨lay_cd c, decide_eq_true ?_⟩
  simp only [cdD, PyData.depth, PyData.depthAll, depthAll_ints]
  decide
end Lk
end
section
set_option maxRecDepth 100000
set_option maxHeartbeats 2000000
/-! Tuples of places as texts, held against one another. -/
namespace Lk
open PySem PySem.Spec PyProof.Rows L2
theorem free_hw {c : Cd} (h : COk c) : Free c ↔ ∀ i, i < c.2.length → hw c c.2.length i = c.1 :=
  ⟨fun f i hi => (hw_home h hi (by omega)).mpr (f i hi), fun f i hi => (hw_home h hi (by omega)).mp (f i hi)⟩
def tD (t : List Nat) : PyData := .tuple (t.map dN)
theorem th_tD {H : Hp} {p : Addr} {t : List Nat} (e : H p = some (.tup (t.map vN))) : Th H (.ref p) (tD t) := .tup e (ints_nat t)
theorem lay_tD (t : List Nat) : (tD t).canLay0 = true := by
  simp [tD, PyData.canLay0, layAll_ints]
theorem shaped_tD (t : List Nat) : SeqAt.shaped (tD t) = true := by
  unfold SeqAt.shaped
  rw [Bool.and_eq_true]
  refine ⟨lay_tD t, decide_eq_true ?_⟩
  simp only [tD, PyData.depth, depthAll_ints]
  decide
theorem eqv_tD (t u : List Nat) : PyData.eqv (tD t) (tD u) = decide (t = u) := by
  simp only [tD, PyData.eqv, eqvAll_ints]
theorem rep_tD {K : PySem.W.Frag} {H : Hp} {Q : VK} {p : Addr} {t : List Nat} (e : H p = some (.tup (t.map vN))) (h12 : t.length ≤ 12) (h : ∀ n ∈ t, n < 10 ^ 45) (q : Q (.str (tD t).shown) H) : rRep K [.ref p] H Q := by
  refine ⟨.ref p, tD t, rfl, Th.dq _ (th_tD e), (fun kvs z => nomatch z), ?_, ?_, ?_, q⟩
  · simp only [tD, PyData.showable, showAll_nats h]
  · simp only [tD, PyData.depth, depthAll_ints]
    decide
  · have a := shown_wt (tD t)
    have b := wts_nats h
    have c : wt (tD t) = 3 + wts (t.map dN) := rfl
    rw [sizeLine_eq]
    omega
theorem tree_three : TreeOf (0, [0, 0, 0]) [0, 1] := by
  have ok : ∀ n, COk (it n (0, [0, 0, 0])) := fun n => it_ok n (show (0 : Nat) < 3 by decide)
  refine ⟨2, 5, ⟨(free_hw (ok 2)).mpr (by decide), fun m hm => ?_⟩, ⟨by decide, fun k hk => ?_⟩, by decide⟩
  · match m, hm with
    | 0, _ => exact fun f => absurd ((free_hw (ok 0)).mp f) (by decide)
    | 1, _ => exact fun f => absurd ((free_hw (ok 1)).mp f) (by decide)
  · revert k
    decide
end Lk
end
section
set_option maxRecDepth 100000
set_option maxHeartbeats 2000000
/-! Rows of goals as coders; trees. -/
namespace Lk
open PySem PySem.Spec PyProof.Rows L2
/-- a coder at place 0 whose last goings are these -/
def cdOf (g : List Nat) : Cd := (0, (List.range g.length).map fun i => (g.getD i 0 + (g.length - i)) % g.length)
theorem cdOf_len (g : List Nat) : (cdOf g).2.length = g.length := by
  show ((List.range g.length).map _).length = _
  rw [List.length_map, List.length_range]
theorem cdOf_ok {g : List Nat} (h : 0 < g.length) : COk (cdOf g) := by
  show 0 < (cdOf g).2.length
  rw [cdOf_len]
  exact h
theorem cdOf_lenAt {g : List Nat} {i : Nat} (h : i < g.length) : len (cdOf g) i = (g.getD i 0 + (g.length - i)) % g.length := by
  show ((List.range g.length).map _).getD i 0 = _
  rw [List.getD_eq_getElem?_getD, List.getElem?_map, List.getElem?_range h]
  rfl
theorem cdOf_go {g : List Nat} (hg : ∀ x ∈ g, x < g.length) {i : Nat} (h : i < g.length) : go (cdOf g) i = g.getD i 0 := by
  have e : g.getD i 0 < g.length := hg _ (by
    rw [List.getD_eq_getElem?_getD, List.getElem?_eq_getElem h]
    exact List.getElem_mem h)
  show (i + len (cdOf g) i) % (cdOf g).2.length = _
  rw [cdOf_len, cdOf_lenAt h, Nat.add_mod_mod, show i + (g.getD i 0 + (g.length - i)) = g.getD i 0 + g.length by omega, Nat.add_mod_right, Nat.mod_eq_of_lt e]
theorem cdOf_gos {g : List Nat} (hg : ∀ x ∈ g, x < g.length) : gos (cdOf g) = g := by
  refine List.ext_getElem? fun i => ?_
  by_cases h : i < g.length
  · rw [gos_at (by rw [cdOf_len]; exact h), cdOf_go hg h, List.getD_eq_getElem?_getD, List.getElem?_eq_getElem h]
    rfl
  · rw [List.getElem?_eq_none (by rw [gos_len, cdOf_len]; omega), List.getElem?_eq_none (by omega)]
theorem gon_home {c : Cd} (h0 : c.1 = 0) (hg : go c 0 = 0) : ∀ k, gon c k 0 = 0
  | 0 => rfl
  | k + 1 => by rw [gon_succ, gon_home h0 hg k, hg]
/-- all come first who have come behind so many turns -/
theorem come_all {c : Cd} (h : COk c) (h0 : c.1 = 0) (hg : go c 0 = 0) : (∀ i, i < c.2.length → gon c c.2.length i = 0) ↔ Free c := by
  refine ⟨fun f i hi => ⟨c.2.length, (f i hi).trans h0.symm⟩, fun f i hi => ?_⟩
  obtain ⟨j, hj, e⟩ := rch_near h hi (f i hi)
  rw [show c.2.length = j + (c.2.length - j) by omega, gon_add, e, h0]
  exact gon_home h0 hg _
/-- what is a tree of p places -/
def IsTr (p : Nat) (d : PyData) : Prop := ∃ t : List Nat, d = tD t ∧ t.length + 1 = p ∧ (∀ x ∈ t, x < p) ∧ Free (cdOf (0 :: t))
theorem tD_inj {t u : List Nat} (e : tD t = tD u) : t = u := by
  have z : t.map dN = u.map dN := PyData.tuple.inj e
  have inj : ∀ a b : Nat, dN a = dN b → a = b := fun a b e => by injection e with e; omega
  exact List.map_inj_right (fun a b e => inj a b e) |>.mp z
def spCome : Sp := fun vs H Q _ => ∃ a t, vs = [.ref a] ∧ H a = some (.tup (t.map vN)) ∧ t.length ≤ 11 ∧ (∀ x ∈ t, x < t.length + 1) ∧ ∀ b H', (b = true ↔ Free (cdOf (0 :: t))) → Same H H' → Q (.bl b) H'
def spIsTree (C : Addr) : Sp := fun vs H Q E => ∃ u v e d, vs = [u, v] ∧ Th H u e ∧ Th H v d ∧ (inR e 1 12 = false → ∀ H', Same H H' → E (.ref C) none H') ∧
  (∀ p : Nat, e = .int (p : Int) → 1 ≤ p → p ≤ 12 → ∀ b H', (b = true ↔ IsTr p d) → Same H H' → Q (.bl b) H')
def spDue : Sp := fun vs H Q _ => ∃ (p : Nat) (v : V) (d : PyData), vs = [.int (p : Int), v] ∧ Th H v d ∧ 1 ≤ p ∧ p ≤ 12 ∧ ∀ b H', (b = true ↔ IsTr p d) → Same H H' → Q (.bl b) H'
theorem all_take {bs : List Bool} {n : Nat} (h : n = bs.length) : bs.take n = bs := by rw [h, List.take_length]
end Lk
end
section
set_option maxRecDepth 100000
set_option maxHeartbeats 2000000
/-! Drawn trees; heaps but for one object. -/
namespace Lk
open PySem PySem.Spec PyProof.Rows L2
/-- a list's method within a comprehension -/
theorem pe_bmK {X : Cx} {K : PySem.W.Frag} {o e : Expr} {es : List Expr} {to : TE} {t : TA} {name : Str} {apos cpos : Pos} {T id : String} {r : V → List V → Hp → VK → Prop} (hK : X.K = K) (pa : PlainAttrs T) (slot : Slot T name id) (hty : typeOf (.builtin id) = pure (.type "method_descriptor")) (hm : MtR X id r) (ho : PE X o to) (ha : PA X (e :: es) t)
    (hbase : attributeBase o name X.env (eval o X.env) = eval o X.env := by rfl)
    (hfew : ((backTo cpos (starEach (e :: es) X.env)).all (fun x => !x.1) && (backToKw cpos (keywordEach [] X.env)).all (fun x => x.1.isSome)
      && decide ((e :: es).length + ([] : List Keyword).length + (if ([] : List Keyword).isEmpty then 0 else 1) < 30)) = true := by rfl)
    (hline : (apos.endLine == cpos.line) = true := by rfl) (hs : starEach (e :: es) X.env = (false, eval e X.env) :: starEach es X.env := by rfl) (hplain : (backTo cpos (starEach es X.env)).any (·.1) = false := by rfl) :
    PE X (.Call (.Attribute o name apos) (e :: es) [] cpos) (tBM K T r to t) := by
  subst hK
  exact pe_bm pa slot hty hm ho ha hbase hfew hline hs hplain
theorem flat_rep (x : Nat) : ∀ n : Nat, (List.replicate n [V.int (x : Int)]).flatten = (List.replicate n x).map vN
  | 0 => rfl
  | n + 1 => by
    rw [List.replicate_succ, List.replicate_succ, List.flatten_cons, flat_rep x n]
    rfl
theorem ixN_at {n j : Nat} (hj : j < n) : ixN n (j : Int) = some j := by
  unfold ixN
  rw [if_pos (by omega), if_pos (by omega)]
  simp
theorem seq_at {n : Nat} {i : Int} (h0 : 0 ≤ i) (h1 : i < n) : seqIndex? i n = some i.toNat := by
  have z := ixN_seq (n := n) (i := i) (j := i.toNat) (by
    have e : i = ((i.toNat : Nat) : Int) := by omega
    rw [e]
    exact ixN_at (by omega))
  exact z.1
def spDTree : Sp := fun vs H Q _ => ∃ (a : Addr) (p : Nat) (n : Int), vs = [.ref a, .int (p : Int)] ∧ Urn H a n ∧ n ≤ 99000 ∧ 1 ≤ p ∧ p ≤ 12 ∧
  ∀ (t : List Nat) (pt : Addr) H', t.length + 1 = p → (∀ x ∈ t, x < p) → Urn H' a (n + 30) → SameBut a H H' → H pt = none → H' pt = some (.tup (t.map vN)) → Q (.ref pt) H'
/-- the heap without one object -/
def rm (a : Addr) (H : Hp) : Hp := fun b => if b = a then none else H b
theorem rm_ne {a b : Addr} {H : Hp} (h : b ≠ a) : rm a H b = H b := if_neg h
theorem rm_same {a : Addr} {H : Hp} : Same (rm a H) H := fun b o e => by
  by_cases h : b = a
  · rw [h] at e
    unfold rm at e
    rw [if_pos rfl] at e
    cases e
  · rw [← rm_ne (H := H) h]
    exact e
theorem rm_but {a : Addr} {H H2 : Hp} (s : SameBut a H H2) : Same (rm a H) (rm a H2) := fun b o e => by
  by_cases h : b = a
  · rw [h] at e
    unfold rm at e
    rw [if_pos rfl] at e
    cases e
  · rw [rm_ne h] at e ⊢
    exact s b o h e
theorem eraseIdx_map {l : List Nat} (k : Nat) : (l.map vN).eraseIdx k = (l.eraseIdx k).map vN := by
  induction l generalizing k with
  | nil => rfl
  | cons x l ih =>
    cases k with
    | zero => rfl
    | succ k =>
      show vN x :: (l.map vN).eraseIdx k = vN x :: (l.eraseIdx k).map vN
      rw [ih]
end Lk
end
section
set_option maxRecDepth 100000
set_option maxHeartbeats 2000000
/-! Things that are shown; things that hang not on the urn. -/
namespace Lk
open PySem PySem.Spec PyProof.Rows L2
def Good (d : PyData) : Prop := d.showable = true ∧ d.depth ≤ 8 ∧ wt d ≤ 2000
theorem th_tup {H : Hp} {a p : Addr} {n : Int} {xs : List V} {ds : List PyData} (u : Urn H a n) (e : H p = some (.tup xs)) (m : ThAll (rm a H) xs ds) : Th (rm a H) (.ref p) (.tuple ds) := by
  refine .tup ?_ m
  rw [rm_ne (fun z => ?_)]
  · exact e
  · obtain ⟨_, _, _, e2, _⟩ := u
    rw [z, e2] at e
    cases e
theorem th_lst {H : Hp} {a p : Addr} {xs : List V} {ds : List PyData} (ne : p ≠ a) (e : H p = some (.lst xs)) (m : ThAll (rm a H) xs ds) : Th (rm a H) (.ref p) (.list ds) := .lst (by rw [rm_ne ne]; exact e) m
theorem th_dct {H : Hp} {a p : Addr} (ne : p ≠ a) (e : H p = some (.dK [])) : Th (rm a H) (.ref p) (.dict []) := .dct (by rw [rm_ne ne]; exact e)
theorem Th.up {H H2 : Hp} {a : Addr} {v : V} {d : PyData} (h : Th (rm a H) v d) (s : SameBut a H H2) : Th (rm a H2) v d := Th.same (rm_but s) d h
theorem ThAll.up {H H2 : Hp} {a : Addr} {vs : List V} {ds : List PyData} (h : ThAll (rm a H) vs ds) (s : SameBut a H H2) : ThAll (rm a H2) vs ds := ThAll.same (rm_but s) ds h
theorem wt_small {n : Nat} (h : n < 10 ^ 45) : wt (dN n) ≤ 46 := wt_nat h
theorem dep_ints : ∀ l : List Nat, PyData.depthAll (l.map dN) = 0 := depthAll_ints
theorem good_tup {t : List Nat} (h : ∀ x ∈ t, x < 10 ^ 45) (l : t.length ≤ 30) : Good (.tuple (t.map dN)) := by
  refine ⟨?_, ?_, ?_⟩
  · simp only [PyData.showable, showAll_nats h]
  · simp only [PyData.depth, depthAll_ints]
    decide
  · have b := wts_nats h
    show 3 + wts (t.map dN) ≤ 2000
    omega
theorem good_lst {t : List Nat} (h : ∀ x ∈ t, x < 10 ^ 45) (l : t.length ≤ 30) : Good (.list (t.map dN)) := by
  refine ⟨?_, ?_, ?_⟩
  · simp only [PyData.showable, showAll_nats h]
  · simp only [PyData.depth, depthAll_ints]
    decide
  · have b := wts_nats h
    show 2 + wts (t.map dN) ≤ 2000
    omega
def GoodS (d : PyData) : Prop := d.showable = true ∧ d.depth ≤ 6 ∧ wt d ≤ 200
theorem GoodS.good {d : PyData} (h : GoodS d) : Good d := ⟨h.1, by have := h.2.1; omega, by have := h.2.2; omega⟩
theorem showAll_app : ∀ {ds es : List PyData}, PyData.showableAll ds = true → PyData.showableAll es = true → PyData.showableAll (ds ++ es) = true
  | [], _, _, h => h
  | d :: ds, es, h1, h2 => by
    simp only [PyData.showableAll, Bool.and_eq_true] at h1
    simp only [List.cons_append, PyData.showableAll, Bool.and_eq_true]
    exact ⟨h1.1, showAll_app h1.2 h2⟩
theorem depAll_le {B : Nat} : ∀ {ds : List PyData}, (∀ d ∈ ds, d.depth ≤ B) → PyData.depthAll ds ≤ B
  | [], _ => by simp [PyData.depthAll]
  | d :: ds, h => by
    have a := h d List.mem_cons_self
    have b := depAll_le (ds := ds) fun x hx => h x (List.mem_cons_of_mem _ hx)
    simp only [PyData.depthAll]
    omega
theorem showAll_of : ∀ {ds : List PyData}, (∀ d ∈ ds, d.showable = true) → PyData.showableAll ds = true
  | [], _ => by simp [PyData.showableAll]
  | d :: ds, h => by
    simp only [PyData.showableAll, Bool.and_eq_true]
    exact ⟨h d List.mem_cons_self, showAll_of fun x hx => h x (List.mem_cons_of_mem _ hx)⟩
theorem goodS_int {i : Int} (h : i.natAbs < 10 ^ 45) : GoodS (.int i) := by
  refine ⟨?_, by simp [PyData.depth], ?_⟩
  · have z := showAll_nats (ls := [i.natAbs]) (by intro n hn; rw [List.mem_singleton.mp hn]; exact h)
    simp only [List.map_cons, PyData.showableAll, PyData.showable, Bool.and_eq_true] at z ⊢
    simpa using z.1
  · have := wt_int h
    omega
/-- a tuple of a few small things -/
theorem good_some {ds : List PyData} (h : ∀ d ∈ ds, GoodS d ∧ wt d ≤ 60) (l : ds.length ≤ 30) : Good (.tuple ds) := by
  refine ⟨?_, ?_, ?_⟩
  · simp only [PyData.showable]
    exact showAll_of fun d hd => (h d hd).1.1
  · have z := depAll_le (B := 6) fun d hd => (h d hd).1.2.1
    simp only [PyData.depth]
    omega
  · have z := wts_le (B := 60) (ds := ds) fun d hd => (h d hd).2
    have z2 : ds.length * 62 ≤ 30 * 62 := Nat.mul_le_mul_right _ l
    show 3 + wts ds ≤ 2000
    omega
/-- what the repr of a list of such things asks -/
theorem rep_good {K : PySem.W.Frag} {H : Hp} {Q : VK} {p : Addr} {xs : List V} {ds : List PyData} (e : H p = some (.lst xs)) (m : ThAll H xs ds) (g : ∀ d ∈ ds, Good d) (l : ds.length ≤ 100) (q : Q (.str (PyData.list ds).shown) H) : rRep K [.ref p] H Q := by
  refine ⟨.ref p, .list ds, rfl, Th.dq _ (.lst e m), (fun kvs z => nomatch z), ?_, ?_, ?_, q⟩
  · simp only [PyData.showable]
    exact showAll_of fun d hd => (g d hd).1
  · have z := depAll_le (B := 8) fun d hd => (g d hd).2.1
    simp only [PyData.depth]
    omega
  · have a := shown_wt (.list ds)
    have z := wts_le (B := 2000) (ds := ds) fun d hd => (g d hd).2.2
    have z2 : ds.length * 2002 ≤ 100 * 2002 := Nat.mul_le_mul_right _ l
    have c : wt (.list ds) = 2 + wts ds := rfl
    rw [sizeLine_eq]
    omega
theorem rm_mono {a : Addr} {H H2 : Hp} (s : Same H H2) : Same (rm a H) (rm a H2) := rm_but fun b o _ e => s b o e
theorem rm_new {S : Addr} {H H2 : Hp} (h : H S = none) (s : Same H H2) : Same H (rm S H2) := fun b o e => by
  rw [rm_ne (ne_of_none e h)]
  exact s b o e
theorem rm_none {a S : Addr} {H : Hp} (h : H S = none) : rm a H S = none := by
  unfold rm
  split
  · rfl
  · exact h
theorem rm_upd {S : Addr} {H : Hp} {o : HO} : Same (rm S H) (rm S (upd H S o)) := rm_but sameBut_upd
theorem rm_upd2 {a S : Addr} {H : Hp} {o : HO} : Same (rm S (rm a H)) (rm S (rm a (upd H S o))) := fun b x e => by
  by_cases h : b = S
  · rw [h] at e
    unfold rm at e
    rw [if_pos rfl] at e
    cases e
  · rw [rm_ne h] at e ⊢
    by_cases h2 : b = a
    · rw [h2] at e
      unfold rm at e
      rw [if_pos rfl] at e
      cases e
    · rw [rm_ne h2] at e ⊢
      rw [upd_ne h]
      exact e
theorem th2_tup {H : Hp} {a S p : Addr} {n : Int} {xs ws : List V} {ds : List PyData} (u : Urn H a n) (eS : H S = some (.lst ws)) (e : H p = some (.tup xs)) (m : ThAll (rm S (rm a H)) xs ds) : Th (rm S (rm a H)) (.ref p) (.tuple ds) := by
  refine .tup ?_ m
  rw [rm_ne (fun z => ?_), rm_ne (fun z => ?_)]
  · exact e
  · obtain ⟨_, _, _, e2, _⟩ := u
    rw [z, e2] at e
    cases e
  · rw [z, eS] at e
    cases e
theorem th2_lst {H : Hp} {a S p : Addr} {xs : List V} {ds : List PyData} (n1 : p ≠ a) (n2 : p ≠ S) (e : H p = some (.lst xs)) (m : ThAll (rm S (rm a H)) xs ds) : Th (rm S (rm a H)) (.ref p) (.list ds) := .lst (by rw [rm_ne n2, rm_ne n1]; exact e) m
theorem th2_dct {H : Hp} {a S p : Addr} (n1 : p ≠ a) (n2 : p ≠ S) (e : H p = some (.dK [])) : Th (rm S (rm a H)) (.ref p) (.dict []) := .dct (by rw [rm_ne n2, rm_ne n1]; exact e)
theorem flat_any (x : V) : ∀ n : Nat, (List.replicate n [x]).flatten = List.replicate n x
  | 0 => rfl
  | n + 1 => by
    rw [List.replicate_succ, List.replicate_succ, List.flatten_cons, flat_any x n]
    rfl
theorem thAll_rep {H : Hp} {v : V} {d : PyData} (h : Th H v d) : ∀ n : Nat, ThAll H (List.replicate n v) (List.replicate n d)
  | 0 => .nil
  | n + 1 => .cons h (thAll_rep h n)
theorem good_rep {d : PyData} (g : GoodS d) (w : wt d ≤ 60) {n : Nat} (h : n ≤ 30) : Good (.tuple (List.replicate n d)) :=
  good_some (fun x hx => by rw [List.eq_of_mem_replicate hx]; exact ⟨g, w⟩) (by rw [List.length_replicate]; exact h)
def spThings : Sp := fun vs H Q _ => ∃ (a : Addr) (p : Nat) (n : Int), vs = [.ref a, .int (p : Int)] ∧ Urn H a n ∧ n ≤ 98000 ∧ 1 ≤ p ∧ p ≤ 12 ∧
  ∀ D H' ws ds, H' D = some (.lst ws) → ThAll (rm a H') ws ds → (∀ d ∈ ds, Good d) → ds.length ≤ 40 → Urn H' a (n + 130) → SameBut a H H' → Q (.ref D) H'
end Lk
end
section
set_option maxRecDepth 100000
set_option maxHeartbeats 2000000
/-! enumerate(t, start=k) of a tuple. -/
namespace Lk
open PySem PySem.Spec PyProof.Rows L2
theorem callWithT_kw {M : Model} {A : Around} {E : Value → Shared → Prop} {s : Shared} {env : Env} {pos : Pos} {T : String} {e : Expr} {rest : List Expr} {kws : List Keyword} {Q : Value → Shared → Prop}
    (h : wpAny M A (spliced (backTo pos (starEach (e :: rest) env))) (fun vs s₁ => wpAny M A (evalAll ((backToKw pos (keywordEach kws env)).map (·.2)))
      (fun kvs s₂ => wpAny M A (call (.type T) vs (((backToKw pos (keywordEach kws env)).filterMap (·.1)).zip kvs)) Q E s₂) E s₁) E s)
    (he : backTo pos (starEach (e :: rest) env) = (false, eval e env) :: backTo pos (starEach rest env))
    (hplain : (backTo pos (starEach (e :: rest) env)).any (·.1) = false)
    (hall : (backToKw pos (keywordEach kws env)).all (·.1.isSome) = true)
    (hkw : (backToKw pos (keywordEach kws env)).any (·.1.isNone) = false) :
    wpAny M A (callWith pos (.type T) [] (backTo pos (starEach (e :: rest) env)) (backToKw pos (keywordEach kws env))) Q E s := by
  unfold callWith
  refine wpAny_bind (wpAny_holding (wpAny_mono (?_ : wpAny M A (evalArgs (.type T) true (backTo pos (starEach (e :: rest) env)) (backToKw pos (keywordEach kws env))) (fun a s₁ => wpAny M A (call (.type T) ([] ++ a.pos) a.kw) Q E s₁) E s) (fun a s₁ h₁ => wpAny_bind (wpAny_standAt ?_)) fun _ _ x => x))
  · rw [he] at h ⊢
    exact evalArgs_kwB hall h
  · simp only [hplain, hkw, Bool.or_false]
    refine wpAny_bind (wpAny_pure ?_)
    exact wpAny_bind (wpAny_mono h₁ (fun r s₂ hr => wpAny_bind (wpAny_holding (wpAny_point (wpAny_pure hr)))) fun _ _ x => x)
def iEnumS (K : PySem.W.Frag) (ta tk : TA) : TI := fun σ H R => ta σ H fun vs H1 => tk σ H1 fun zs H2 => ∃ (a : Addr) (xs : List V) (c : Int), vs = [.ref a] ∧ zs = [.int c] ∧ 0 ≤ c ∧ c < 1000 ∧ SqT K H2 a xs ∧ R (IteT K a c) H2
theorem pi_enumS {X : Cx} {e e2 : Expr} {ta tk : TA} {p pos tpos kpos : Pos} {elts : List Expr} {kk : Nat} (hg : Gl X "enumerate") (hm : X.mg "enumerate" = none) (ha : PA X [e] ta) (hk : PK X [⟨some "start", e2, kpos⟩] tk)
    (he : backTo pos (starEach [e] X.env) = (false, eval e X.env) :: backTo pos (starEach [] X.env) := by rfl) (hpl : (backTo pos (starEach [e] X.env)).any (·.1) = false := by rfl)
    (hall : (backToKw pos (keywordEach [⟨some "start", e2, kpos⟩] X.env)).all (·.1.isSome) = true := by rfl) (hnone : (backToKw pos (keywordEach [⟨some "start", e2, kpos⟩] X.env)).any (·.1.isNone) = false := by rfl)
    (hks : (backToKw pos (keywordEach [⟨some "start", e2, kpos⟩] X.env)).filterMap (·.1) = [Str.ofString "start"] := by rfl) :
    PI X (.Tuple elts kk tpos) (.Call (.Name "enumerate" p) [e] [⟨some "start", e2, kpos⟩] pos) (iEnumS X.K ta tk) := by
  refine ⟨fun pins s σ H R I h => wpAny_Call_Name_kw (ld_blt I hg hm boot_enumerate ?_)⟩
  refine callWithT_kw (thn (ha.run pos pins s σ H _ I h) fun us s1 ⟨vs, H1, I1, r1, q1⟩ => thn (hk.run pos pins s1 σ H1 _ I1 q1) fun ws s2 ⟨zs, H2, I2, r2, q2⟩ => ?_) he hpl hall hnone
  rw [hks]
  obtain ⟨a, xs, c, ex, ez, c0, c1, hq, q⟩ := q2
  subst ex ez
  cases r1 with
  | cons r rr =>
    cases rr
    cases r
    cases r2 with
    | cons r2 rr2 =>
      cases rr2
      obtain ⟨tt, rfl⟩ := r2
      obtain ⟨its, rv, tp, hz⟩ := I2.tuple hq
      refine enum_begins_start (begins_tuple a its.toArray) tp (by omega) (by omega) fun h2 he hit hsz hk2 => wpAny_pyIter_enum he ?_
      have I3 : Inv X pins σ H2 { s2 with heap := h2 } := I2.kept (t' := s2.toks) hk2
      refine ⟨s2.heap.objs.size + 1, [s2.heap.objs.size + 1, s2.heap.objs.size], _, _, H2, rfl, I3, turn_enumT a (s2.heap.objs.size + 1) s2.heap.objs.size, ⟨⟨.none, ?_⟩, ⟨_, hit, rfl, rfl⟩, Nat.succ_ne_self _⟩, fun b hb => ?_, q⟩
      · rw [show c + ((0 : Nat) : Int) = c by omega]
        exact he
      · have hle : s2.heap.objs.size ≤ b := by
          rcases List.mem_cons.mp hb with z | z
          · rw [z]; exact Nat.le_add_right _ _
          · rw [List.mem_singleton.mp z]; exact Nat.le_refl _
        exact I2.fpOk hle (I2.hok.fresh hle)
end Lk
end
section
set_option maxRecDepth 100000
set_option maxHeartbeats 2000000
/-! The coder of a tree. -/
namespace Lk
open PySem PySem.Spec PyProof.Rows L2
def lensOf (t : List Nat) : List Nat := (List.range t.length).map fun i => (t.getD i 0 + (t.length + 1 - (i + 1))) % (t.length + 1)
theorem lensOf_len (t : List Nat) : (lensOf t).length = t.length := by
  unfold lensOf
  rw [List.length_map, List.length_range]
theorem lensOf_at {t : List Nat} {i : Nat} (h : i < t.length) : (lensOf t)[i]? = some ((t.getD i 0 + (t.length + 1 - (i + 1))) % (t.length + 1)) := by
  unfold lensOf
  rw [List.getElem?_map, List.getElem?_range h]
  rfl
theorem cdOf_cons (t : List Nat) : cdOf (0 :: t) = (0, 0 :: lensOf t) := by
  show (0, (List.range (t.length + 1)).map _) = _
  rw [List.range_succ_eq_map, List.map_cons, List.map_map]
  refine Prod.ext rfl ?_
  show ((0 :: t).getD 0 0 + ((0 :: t).length - 0)) % (0 :: t).length :: _ = 0 :: lensOf t
  rw [List.length_cons]
  have e : ((0 :: t).getD 0 0 + (t.length + 1 - 0)) % (t.length + 1) = 0 := by
    show (0 + (t.length + 1)) % (t.length + 1) = 0
    rw [Nat.zero_add, Nat.mod_self]
  rw [e]
  refine congrArg (List.cons 0) ?_
  unfold lensOf
  refine List.map_congr_left fun i _ => ?_
  rfl
/-- a row of goals that is a tree -/
def TOk (p : Nat) (t : List Nat) : Prop := t.length + 1 = p ∧ (∀ x ∈ t, x < p) ∧ Free (cdOf (0 :: t))
theorem TOk.isTr {p : Nat} {t : List Nat} (h : TOk p t) : IsTr p (tD t) := ⟨t, rfl, h.1, h.2.1, h.2.2⟩
theorem TOk.cons {p : Nat} {t : List Nat} (h : TOk p t) : ∀ x ∈ 0 :: t, x < (0 :: t).length := fun x hx => by
  rw [List.length_cons, h.1]
  rcases List.mem_cons.mp hx with e | m
  · have := h.1
    omega
  · exact h.2.1 x m
theorem cdOf_home (t : List Nat) : Home0 (cdOf (0 :: t)) := by
  refine ⟨rfl, ?_⟩
  rw [cdOf_cons]
  show 0 % _ = 0
  exact Nat.zero_mod _
theorem tree_cdOf {p : Nat} {t : List Nat} (h : TOk p t) : TreeOf (cdOf (0 :: t)) t := by
  refine ⟨0, 0, ⟨h.2.2, fun m hm => absurd hm (Nat.not_lt_zero _)⟩, ⟨cdOf_home t, fun k hk => absurd hk (Nat.not_lt_zero _)⟩, ?_⟩
  show t = (gos (cdOf (0 :: t))).drop 1
  rw [cdOf_gos h.cons]
  rfl
theorem cdOf_cdOk {p : Nat} {t : List Nat} (h : TOk p t) (p12 : p ≤ 12) : CdOk (cdOf (0 :: t)) := ⟨cdOf_ok (Nat.succ_pos _), by rw [cdOf_len, List.length_cons, h.1]; exact p12⟩
theorem gon_same {d : Cd} (h : COk d) : ∀ (k i : Nat), i < d.2.length → gon (cdOf (gos d)) k i = gon d k i
  | 0, _, _ => rfl
  | k + 1, i, hi => by
    have hg : ∀ x ∈ gos d, x < (gos d).length := fun x hx => by
      rw [gos_len]
      unfold gos at hx
      obtain ⟨j, _, rfl⟩ := List.mem_map.mp hx
      exact go_lt h j
    have e : go (cdOf (gos d)) i = go d i := by
      rw [cdOf_go hg (by rw [gos_len]; exact hi), List.getD_eq_getElem?_getD, gos_at hi]
      rfl
    show gon (cdOf (gos d)) k (go (cdOf (gos d)) i) = gon d k (go d i)
    rw [e]
    exact gon_same h k _ (go_lt h i)
/-- the tree of a coder is one -/
theorem treeOf_ok {c : Cd} (h : COk c) {t : List Nat} (a : TreeOf c t) : TOk c.2.length t := by
  have hp : 0 < c.2.length := Nat.lt_of_le_of_lt (Nat.zero_le _) h
  have l := treeOf_len a
  refine ⟨by omega, treeOf_lt h a, ?_⟩
  obtain ⟨n, j, a1, a2, rfl⟩ := a
  rw [it_add]
  have okd : COk (it j (it n c)) := it_ok j (it_ok n h)
  have frd : Free (it j (it n c)) := free_it j (it_ok n h) a1.1
  have h0 := a2.1
  generalize hd : it j (it n c) = d at *
  have dl : d.2.length = c.2.length := by rw [← hd, it_len, it_len]
  have e0 : go d 0 = 0 := by
    show (0 + len d 0) % d.2.length = 0
    rw [Nat.zero_add]
    exact h0.2
  have eg : 0 :: (gos d).drop 1 = gos d := by
    cases hg : gos d with
    | nil =>
      have z := gos_len d
      rw [hg] at z
      have z2 : 0 = d.2.length := z
      omega
    | cons x l =>
      have z := gos_at (c := d) (i := 0) (by omega)
      rw [hg, e0] at z
      have z2 : x = 0 := Option.some.inj z
      rw [z2]
      rfl
  rw [eg]
  intro i hi
  rw [cdOf_len, gos_len] at hi
  obtain ⟨k, hk⟩ := frd i hi
  refine ⟨k, ?_⟩
  rw [gon_same okd k i hi, hk]
  exact h0.1
def spCoderOf : Sp := fun vs H Q _ => ∃ (p : Nat) (a : Addr) (t : List Nat), vs = [.int (p : Int), .ref a] ∧ H a = some (.tup (t.map vN)) ∧ TOk p t ∧ p ≤ 12 ∧ ∀ v H', Same H H' → Cat H' v (cdOf (0 :: t)) → Q v H'
theorem ist_of {C1 : Addr} {Q : VK} {E : XK} {H : Hp} {v : V} {d : PyData} {p : Nat} (p1 : 1 ≤ p) (p12 : p ≤ 12) (h : Th H v d) (k : ∀ b H', (b = true ↔ IsTr p d) → Same H H' → Q (.bl b) H') : spIsTree C1 [.int (p : Int), v] H Q E := by
  refine ⟨_, v, .int (p : Int), d, rfl, .int _, h, fun z => ?_, fun p' e _ _ b H' hb s => ?_⟩
  · exfalso
    have y : (decide ((1 : Int) ≤ (p : Int)) && decide ((p : Int) ≤ 12)) = false := z
    rw [decide_eq_true (by omega), decide_eq_true (by omega)] at y
    cases y
  · have e2 : p' = p := by
      injection e with e
      omega
    subst e2
    exact k b H' hb s
def spLeast : Sp := fun vs H Q _ => ∃ (i g p : Nat), vs = [.int (i : Int), .int (g : Int), .int (p : Int)] ∧ i ≤ p ∧ g < p ∧ p ≤ 12 ∧ ∀ H', Same H H' → Q (.int (((g + (p - i)) % p : Nat) : Int)) H'
end Lk
end
section
set_option maxRecDepth 100000
set_option maxHeartbeats 2000000
/-! A drawn tree is one. -/
namespace Lk
open PySem PySem.Spec PyProof.Rows L2
theorem all_in {p : Nat} {os : List Nat} (nd : os.Nodup) (l : os.length + 1 = p) (b : ∀ x ∈ os, 1 ≤ x ∧ x < p) {i : Nat} (h1 : 1 ≤ i) (h2 : i < p) : i ∈ os := by
  refine Classical.byContradiction fun no => ?_
  have nd2 : (0 :: i :: os).Nodup := by
    refine List.nodup_cons.mpr ⟨fun m => ?_, List.nodup_cons.mpr ⟨no, nd⟩⟩
    rcases List.mem_cons.mp m with e | m
    · omega
    · have := b 0 m
      omega
  have z := nodup_below (p := p) nd2 fun x hx => by
    rcases List.mem_cons.mp hx with e | m
    · omega
    · rcases List.mem_cons.mp m with e | m
      · omega
      · exact (b x m).2
  simp only [List.length_cons] at z
  omega
theorem getD_mem {l : List Nat} {i : Nat} (h : i < l.length) : l.getD i 0 ∈ l := by
  rw [List.getD_eq_getElem?_getD, List.getElem?_eq_getElem h]
  exact List.getElem_mem h
theorem drawn_free {p : Nat} {os gs : List Nat} (nd : os.Nodup) (l : os.length + 1 = p) (b : ∀ x ∈ os, 1 ≤ x ∧ x < p) (gl : gs.length = p) (gb : ∀ x ∈ gs, x < p)
    (H : ∀ j, j < os.length → ∃ v, v ≤ j ∧ gs.getD (os.getD j 0) 0 = (0 :: os).getD v 0) : TOk p (gs.drop 1) := by
  have l1 : (gs.drop 1).length + 1 = p := by rw [List.length_drop]; omega
  have b1 : ∀ x ∈ gs.drop 1, x < p := fun x hx => gb x (List.mem_of_mem_drop hx)
  refine ⟨l1, b1, ?_⟩
  have hg : ∀ x ∈ 0 :: gs.drop 1, x < (0 :: gs.drop 1).length := fun x hx => by
    rw [List.length_cons, l1]
    rcases List.mem_cons.mp hx with e | m
    · omega
    · exact b1 x m
  have goat : ∀ i, 1 ≤ i → i < p → go (cdOf (0 :: gs.drop 1)) i = gs.getD i 0 := fun i h1 h2 => by
    rw [cdOf_go hg (by rw [List.length_cons, l1]; exact h2)]
    obtain ⟨k, rfl⟩ : ∃ k, i = k + 1 := ⟨i - 1, by omega⟩
    rw [List.getD_cons_succ, List.getD_eq_getElem?_getD, List.getElem?_drop, Nat.add_comm 1 k, ← List.getD_eq_getElem?_getD]
  have r0 : Rch (cdOf (0 :: gs.drop 1)) 0 := ⟨0, rfl⟩
  have up : ∀ i, Rch (cdOf (0 :: gs.drop 1)) (go (cdOf (0 :: gs.drop 1)) i) → Rch (cdOf (0 :: gs.drop 1)) i := fun i ⟨m, e⟩ => ⟨m + 1, e⟩
  have key : ∀ n j, j < n → j < os.length → Rch (cdOf (0 :: gs.drop 1)) (os.getD j 0) := by
    intro n
    induction n with
    | zero => exact fun j h => absurd h (Nat.not_lt_zero _)
    | succ n ih =>
      intro j hj hjl
      have hb := b _ (getD_mem hjl)
      refine up _ ?_
      rw [goat _ hb.1 hb.2]
      obtain ⟨v, hv, e⟩ := H j hjl
      rw [e]
      cases v with
      | zero => exact r0
      | succ v =>
        rw [List.getD_cons_succ]
        exact ih v (by omega) (by omega)
  intro i hi
  rw [cdOf_len, List.length_cons, l1] at hi
  by_cases h0 : i = 0
  · rw [h0]
    exact r0
  · obtain ⟨j, hj, e⟩ := List.mem_iff_getElem.mp (all_in nd l b (by omega) hi)
    have z := key (j + 1) j (by omega) hj
    rw [List.getD_eq_getElem?_getD, List.getElem?_eq_getElem hj] at z
    rw [← e]
    exact z
def spDTree2 : Sp := fun vs H Q _ => ∃ (a : Addr) (p : Nat) (n : Int), vs = [.ref a, .int (p : Int)] ∧ Urn H a n ∧ n ≤ 99000 ∧ 1 ≤ p ∧ p ≤ 12 ∧
  ∀ (t : List Nat) (pt : Addr) H', TOk p t → Urn H' a (n + 30) → SameBut a H H' → H' pt = some (.tup (t.map vN)) → Q (.ref pt) H'
theorem erase_perm : ∀ (l : List Nat) (k : Nat) (h : k < l.length), (l[k] :: l.eraseIdx k).Perm l
  | [], _, h => absurd h (Nat.not_lt_zero _)
  | x :: l, 0, _ => List.Perm.refl _
  | x :: l, k + 1, h => by
    have hk : k < l.length := by simpa using h
    show (l[k] :: x :: l.eraseIdx k).Perm (x :: l)
    exact (List.Perm.swap x (l[k]) (l.eraseIdx k)).trans ((erase_perm l k hk).cons x)
theorem nodup_move {ls os : List Nat} {k : Nat} (h : k < ls.length) (nd : (ls ++ os).Nodup) : (ls.eraseIdx k ++ (os ++ [ls[k]])).Nodup := by
  have p1 : (ls.eraseIdx k ++ (os ++ [ls[k]])).Perm (ls ++ os) := by
    have a : (ls[k] :: ls.eraseIdx k).Perm ls := erase_perm ls k h
    have b : (ls.eraseIdx k ++ (os ++ [ls[k]])).Perm (ls[k] :: (ls.eraseIdx k ++ os)) := by
      rw [← List.append_assoc]
      exact List.perm_append_comm (l₂ := [ls[k]])
    exact b.trans (a.append_right os)
  exact p1.nodup_iff.mpr nd
end Lk
end
section
set_option maxRecDepth 100000
set_option maxHeartbeats 2000000
/-! max of a tuple of ints. -/
namespace Lk
open PySem PySem.Spec PyProof.Rows L2
section
variable {prog : Program} {w : World} {A : Around} {E : Value → Shared → Prop} {s : Shared} {l : Addr}
theorem max_tupRaw {its : List Value} {ns : List Int} {Q : Value → Shared → Prop} (hh : A.handled = none) (hl : s.heap.IsTuple l its.toArray) (hi : IntsAre its ns) (hne : 0 < ns.length)
    (h : ∀ h' tk M t', (∀ b o, s.heap.get? b = some o → h'.get? b = some o) → M ∈ ns → (∀ a, a ∈ ns → a ≤ M) → Q (.int M t') { s with heap := h', toks := tk }) : wpAny (model prog w) A (call (.builtin "max") [.ref l]) Q E s := by
  obtain ⟨xs, e⟩ := hi.allInts.items
  have hn : numsOf (intItems xs).toList = ns := by rw [← e]; exact hi.numsOf
  rw [nums_intItems] at hn
  subst hn
  rw [e] at hl
  have hsz : 0 < xs.size := by simpa using hne
  have fin : ∀ v h' tk, (intItems xs)[argBest (fun i j => decide (numAt xs i > numAt xs j)) (xs.size - 1)]? = some v → (∀ b o, s.heap.get? b = some o → h'.get? b = some o) → Q v { s with heap := h', toks := tk } := fun v h' tk hv hk => by
    obtain ⟨t, rfl⟩ := intItems_at hv
    obtain ⟨h1, h2⟩ := argBest_gt (numAt xs) (xs.size - 1)
    refine h h' tk _ t hk ?_ fun a ha => ?_
    · rw [numAt_eq]; exact PySem.getD_mem (by rw [List.length_map, Array.length_toList]; omega)
    · obtain ⟨j, hj, rfl⟩ := mem_getD ha
      rw [List.length_map, Array.length_toList] at hj
      rw [← numAt_eq]; exact h2 j (by omega)
  have hll : l < s.heap.objs.size := by obtain ⟨o, ho, _⟩ := id hl; exact Heap.lt_size ho
  have hne2 : l ≠ s.heap.objs.size := Nat.ne_of_lt hll
  refine PySem.call_max_walk (wpAny_pyIter_tuple hl ?_)
  refine ⟨s.heap.objs.size, _, _, _, _, _, _, rfl, Walks.tuple (A := A.in1) hh _ l hne2 (intItems xs), ⟨?_, ?_⟩, fun b hb => ?_, by simpa [intItems] using hsz, CmpOf.ints_gt (numAt xs) (fun _ _ => intItems_at), fun v h' tk hP hk => ?_⟩
  · exact ⟨_, Heap.get?_push_size _ rfl, rfl, rfl⟩
  · exact hl.at fun o e => Heap.get?_push_of_some _ e
  · rw [Heap.size_push]
    rcases List.mem_cons.mp hb with z | z
    · rw [z]; exact Nat.lt_succ_self _
    · rw [List.mem_singleton.mp z]; exact Nat.lt_succ_of_lt hll
  · refine fin v h' tk (by simpa [intItems] using hP) fun b o e => hk b o (fun hb => ?_) (Heap.get?_push_of_some _ e)
    have z := Heap.lt_size e
    rw [List.mem_singleton.mp hb] at z
    exact Nat.lt_irrefl _ z
end
def rMaxT (K : PySem.W.Frag) : List V → Hp → VK → Prop := fun vs H Q => ∃ (a : Addr) (ns : List Int), vs = [V.ref a] ∧ SqT K H a (ns.map V.int) ∧ 0 < ns.length ∧ ∀ m, m ∈ ns → (∀ y, y ∈ ns → y ≤ m) → Q (.int m) H
theorem cr_maxT {X : Cx} (hc : X.calm = true) : CallR X (.builtin "max") (rMaxT X.K) := by
  intro pins s σ H vs us Q I r h
  obtain ⟨a, ns, rfl, hs, hne, q⟩ := h
  obtain ⟨its, rv, hl, _⟩ := I.tuple hs
  rw [Vals.ref1 r]
  exact max_tupRaw (I.ok.hd hc) hl rv.ints hne fun h' tk m t' hk h1 h2 => ⟨.int _, H, I.kept hk, ⟨_, rfl⟩, q m h1 h2⟩
end Lk
end
section
set_option maxRecDepth 100000
set_option maxHeartbeats 2000000
/-! Far words. -/
namespace Lk
open PySem PySem.Spec PyProof.Rows L2
theorem count_of1 {e : PyData} {m : Nat} (h : inR e 1 m = true) : ∃ n : Nat, e = .int n ∧ 1 ≤ n ∧ n ≤ m := by
  cases e with
  | int i =>
    have z : (decide ((1 : Int) ≤ i) && decide (i ≤ (m : Int))) = true := h
    rw [Bool.and_eq_true, decide_eq_true_eq, decide_eq_true_eq] at z
    exact ⟨i.toNat, by rw [Int.toNat_of_nonneg (by omega)], by omega, by omega⟩
  | _ => cases h
/-- NoCoder, NoCount of a number below 1 or beyond m; else told -/
def spOf1 (C1 C2 : Addr) (m : Nat) (told : Cd → Nat → VK → Hp → Prop) : Sp := fun vs H Q E => ∃ v u d e, vs = [v, u] ∧ Th H v d ∧ Th H u e ∧ (isCd d = false → ∀ H', Same H H' → E (.ref C1) none H') ∧
  (isCd d = true → inR e 1 m = false → ∀ H', Same H H' → E (.ref C2) none H') ∧ (∀ c (n : Nat), d = cdD c → CdOk c → e = .int n → 1 ≤ n → n ≤ m → told c n Q H)
def toldWd (c : Cd) (n : Nat) (Q : VK) (H : Hp) : Prop := ∀ q H', Same H H' → H' q = some (.tup [.int ((wd (it (n - 1) c)).1 : Int), .int ((wd (it (n - 1) c)).2 : Int)]) → Q (.ref q) H'
theorem of1_of {C1 C2 : Addr} {m : Nat} {told : Cd → Nat → VK → Hp → Prop} {Q : VK} {E : XK} {H : Hp} {v : V} {c : Cd} {n : Nat} (cat : Cat H v c) (ok : CdOk c) (h1 : 1 ≤ n) (hn : n ≤ m) (k : told c n Q H) : spOf1 C1 C2 m told [v, .int (n : Int)] H Q E := by
  refine ⟨v, .int (n : Int), cdD c, .int (n : Int), rfl, cat.th, .int _, fun z => ?_, fun _ z => ?_, fun c2 n2 ec _ en _ _ => ?_⟩
  · rw [isCd_cdD ok] at z
    cases z
  · exfalso
    have y : (decide ((1 : Int) ≤ (n : Int)) && decide ((n : Int) ≤ (m : Int))) = false := z
    rw [decide_eq_true (by omega), decide_eq_true (by omega)] at y
    cases y
  · have e := cdD_inj ec
    have e2 : n2 = n := by injection en with en; omega
    subst e e2
    exact k
theorem ofB_of {C1 C2 : Addr} {m : Nat} {told : Cd → Nat → VK → Hp → Prop} {Q : VK} {E : XK} {H : Hp} {v : V} {c : Cd} {n : Nat} (cat : Cat H v c) (ok : CdOk c) (hn : n ≤ m) (k : told c n Q H) : spOf C1 C2 m told [v, .int (n : Int)] H Q E := by
  refine ⟨v, .int (n : Int), cdD c, .int (n : Int), rfl, cat.th, .int _, fun z => ?_, fun _ z => ?_, fun c2 n2 ec _ en _ => ?_⟩
  · rw [isCd_cdD ok] at z
    cases z
  · exfalso
    have y : (decide ((0 : Int) ≤ (n : Int)) && decide ((n : Int) ≤ (m : Int))) = false := z
    rw [decide_eq_true (by omega), decide_eq_true (by omega)] at y
    cases y
  · have e := cdD_inj ec
    have e2 : n2 = n := by injection en with en; omega
    subst e e2
    exact k
/-- the greatest of the lengths -/
def IsMax (l : List Nat) (m : Nat) : Prop := m ∈ l ∧ ∀ x ∈ l, x ≤ m
theorem isMax_one {l : List Nat} {m n : Nat} (a : IsMax l m) (b : IsMax l n) : m = n := Nat.le_antisymm (b.2 _ a.1) (a.2 _ b.1)
def toldMax (c : Cd) (n : Nat) (Q : VK) (H : Hp) : Prop := ∀ (m : Nat) H', IsMax (it n c).2 m → Same H H' → Q (.int (m : Int)) H'
theorem ints_vN (l : List Nat) : l.map vN = (l.map fun n => ((n : Nat) : Int)).map V.int := by rw [List.map_map]; rfl
theorem isMax_of {l : List Nat} {m : Int} (h1 : m ∈ l.map fun n => ((n : Nat) : Int)) (h2 : ∀ y ∈ l.map (fun n => ((n : Nat) : Int)), y ≤ m) : ∃ n : Nat, m = (n : Int) ∧ IsMax l n := by
  obtain ⟨n, hn, rfl⟩ := List.mem_map.mp h1
  refine ⟨n, rfl, hn, fun x hx => ?_⟩
  have z := h2 (x : Int) (List.mem_map.mpr ⟨x, hx, rfl⟩)
  omega
/-- the law's pot -/
def spPot (K : PySem.W.Frag) : Sp := fun vs H Q _ => ∃ (S : Addr) (ns : List Int) (k : Nat), vs = [.ref S, .int (k : Int)] ∧ SqL K H S (ns.map V.int) ∧ k ≤ 63 ∧ ns.length ≤ 63 ∧ ∀ p H', H p = none → Same H H' → Urn H' p 0 → Q (.ref p) H'
def spFCoder : Sp := fun vs H Q _ => ∃ (a : Addr) (n : Int), vs = [.ref a] ∧ Urn H a n ∧ n ≤ 90000 ∧
  ∀ v c H', CdOk c → (∀ x ∈ c.2, x ≤ 10 ^ 30) → Urn H' a (n + 60) → SameBut a H H' → Cat H' v c → Q v H'
def spNumber : Sp := fun vs H Q _ => ∃ (a : Addr) (n : Int), vs = [.ref a] ∧ Urn H a n ∧ n ≤ 90000 ∧
  ∀ p H' m1 m2 m3 m4, H p = none → (∀ m ∈ [m1, m2, m3, m4], 1 ≤ m ∧ m ≤ 10 ^ 18 - 20) → Urn H' a (n + 3) → SameBut a H H' → H' p = some (.lst (([m1, m2, m3, m4] : List Nat).map vN)) → Q (.ref p) H'
end Lk
end
section
set_option maxRecDepth 100000
set_option maxHeartbeats 2000000
/-! zip of a tuple and a list. -/
namespace Lk
open PySem PySem.Spec PyProof.Rows L2
/-- the tuple at a, the list at b, their items in new pairs -/
def ItzM (K : PySem.W.Frag) (a b : Addr) : It :=
  ⟨fun i H => ∃ (xs ys : List V) (x y : V), SqT K H a xs ∧ SqL K H b ys ∧ xs[i]? = some x ∧ ys[i]? = some y,
    fun i H v H' => ∃ T x y, v = .ref T ∧ H T = none ∧ H' = upd H T (.tup [x, y]) ∧ (∀ xs, SqT K H a xs → xs[i]? = some x) ∧ ∀ ys, SqL K H b ys → ys[i]? = some y,
    fun i H => ∃ xs ys : List V, SqT K H a xs ∧ SqL K H b ys ∧ (xs.length ≤ i ∨ ys.length ≤ i) ∧ i ≤ xs.length ∧ i ≤ ys.length⟩
theorem walk_zipM {K : PySem.W.Frag} {a b : Addr} {xs ys : List V} (hl : xs.length = ys.length) : Walk (ItzM K a b) xs.length (fun H => SqT K H a xs ∧ SqL K H b ys) (YPair (fun i => xs[i]?) (fun i => ys[i]?)) := by
  refine ⟨fun i _ hi q => ⟨xs, ys, xs[i], ys[i], q.1, q.2, by simp [hi], by simp⟩, fun _ q => ⟨xs, ys, q.1, q.2, .inl (Nat.le_refl _), Nat.le_refl _, by omega⟩, fun i H v H2 _ q ⟨T, x, y, h1, h2, h3, h4, h5⟩ => ?_⟩
  exact ⟨T, x, y, h1, h2, h3, h4 xs q.1, h5 ys q.2⟩
theorem turn_zipM {P : Program} {w : World} {K : PySem.W.Frag} {elts : List Expr} {kk : Nat} {tpos : Pos} {a b z TI TO i1 i2 : Addr} (D : ZipApart z TI TO i1 i2 a b) :
    Turn P w K (.Tuple elts kk tpos) (ItzM K a b) [z, TI, TO, i1, i2] z (fun i h => IsZip h z TI TO .none ∧ IsTupOf2 h TI (.ref i1) (.ref i2) ∧ (∃ x y, IsTupOf2 h TO x y) ∧ h.IsTupleIter i1 a i ∧ h.IsListIter i2 b i) where
  mem := by simp
  obj := fun i h st c hc => by
    obtain ⟨hz, hTI, ⟨x, y, hTO⟩, ⟨o1, e1, _, d1⟩, ⟨o2, e2, _, d2⟩⟩ := st
    have e' : c = z ∨ c = TI ∨ c = TO ∨ c = i1 ∨ c = i2 := by simpa using hc
    rcases e' with q | q | q | q | q
    · rw [q]; exact ⟨_, hz, fun v q => nomatch q⟩
    · rw [q]; exact ⟨_, hTI, fun v q => nomatch q⟩
    · rw [q]; exact ⟨_, hTO, fun v q => nomatch q⟩
    · rw [q]; exact ⟨o1, e1, fun v q => by rw [d1] at q; cases q⟩
    · rw [q]; exact ⟨o2, e2, fun v q => by rw [d2] at q; cases q⟩
  keep := fun i h h' st k => by
    obtain ⟨hz, hTI, ⟨x, y, hTO⟩, h1, h2⟩ := st
    exact ⟨k z (by simp) _ hz, k TI (by simp) _ hTI, ⟨x, y, k TO (by simp) _ hTO⟩, h1.at fun o q => k i1 (by simp) o q, h2.at fun o q => k i2 (by simp) o q⟩
  item := by
    intro X hP hw hK hc i pins s σ H E I hf st hg
    subst hP hw hK
    obtain ⟨hz, hTI, ⟨x0, y0, hTO⟩, h1, h2⟩ := st
    obtain ⟨xs, ys, x, y, hqx, hqy, hx, hy⟩ := hg
    obtain ⟨its, rv, p, _⟩ := I.tuple hqx
    obtain ⟨its2, rv2, p2, _⟩ := I.list hqy
    obtain ⟨u, hu, ru⟩ := rv.get hx
    obtain ⟨u2, hu2, ru2⟩ := rv2.get hy
    have hzl : z < s.heap.objs.size := Heap.lt_size hz
    have S : ZipSep2 z TI TO i1 i2 [i1, a] [i2, b] := ⟨D.TIz, D.TOz, D.TITO, D.TIi1, by simp, by simp [D.i1z.symm, D.l1z.symm], by simp [D.TOi1, D.l1TO.symm], D.TIi2, by simp, by simp [D.i2z.symm, D.l2z.symm], by simp [D.TOi2, D.l2TO.symm], by simp [D.i12, D.l2i1.symm], by simp [D.i12.symm, D.l1i2.symm]⟩
    have hi1 : i < its.toArray.size := by rw [List.size_toArray]; exact (List.getElem?_eq_some_iff.mp hu).1
    have hi2 : i < its2.toArray.size := by rw [List.size_toArray]; exact (List.getElem?_eq_some_iff.mp hu2).1
    have hn : X.A.in1.handled = none := I.ok.hd hc
    refine wpAny_pyNext_zipD2_item S (Draws.tuple hn i1 a D.l1i1 its.toArray) (Draws.list hn i2 b D.l2i2 its2.toArray) hz hTI hTO ⟨h1, (show s.heap.IsTuple a its.toArray from p)⟩ ⟨h2, p2.isList⟩ hi1 hi2 fun v1 v2 h' tk' hv1 hv2 z' TO' h1' h2' hT hsz hk => ?_
    have e1 : v1 = u := by
      have q : its.toArray[i]? = some v1 := hv1
      rw [List.getElem?_toArray, hu] at q
      exact (Option.some.inj q).symm
    have e2 : v2 = u2 := by
      have q : its2.toArray[i]? = some v2 := hv2
      rw [List.getElem?_toArray, hu2] at q
      exact (Option.some.inj q).symm
    subst e1 e2
    refine ⟨_, rfl, wpAny_letOwnedTupleGo_zip (s := { s with heap := h', toks := tk' }) z' fun h'' z'' sb => ?_⟩
    have hT2 : h''.get? s.heap.objs.size = some { cls := .type "tuple", data := .seq #[v1, v2] } := (sb.2 _ (Nat.ne_of_gt hzl)).trans hT
    have new : ObjOk X.prog X.w (upd H s.heap.objs.size (.tup [x, y])) h'' s.heap.objs.size (.tup [x, y]) :=
      ⟨by show 2 ≤ sizeLine; decide, [v1, v2], .cons ru (.cons ru2 .nil), ⟨_, hT2, rfl, _, rfl⟩⟩
    have I1 : Inv X pins σ (upd H s.heap.objs.size (.tup [x, y])) { s with heap := h'', toks := tk' } :=
      I.turnedNew (t' := tk') (ch := [z, TI, TO, i1, i2]) (fun c o hb q => (sb.2 c (fun q' => hb (by simp [q']))).trans (hk c o (fun q' => hb (by simp [q'])) (fun q' => hb (by simp [q'])) (fun q' => hb (by simp [q'])) (fun q' => hb (by simp [q'])) q)) hf (Nat.le_refl _) new
    refine ⟨.ref s.heap.objs.size, _, I1, rfl, ⟨_, x, y, rfl, I.hok.fresh (Nat.le_refl _), rfl, fun l hl => by rw [I.tuple_inj hl hqx]; exact hx, fun l hl => by rw [I.list_inj hl hqy]; exact hy⟩, ⟨z'', ?_, ⟨v1, v2, ?_⟩, ?_, ?_⟩, fun c hcm => ?_⟩
    · exact (sb.2 _ D.TIz).trans (hk _ _ D.TIz D.TITO D.TIi1 D.TIi2 hTI)
    · exact (sb.2 _ D.TOz).trans TO'
    · exact h1'.1.at fun o q => (sb.2 _ D.i1z).trans q
    · exact h2'.1.at fun o q => (sb.2 _ D.i2z).trans q
    · have hlt : c < s.heap.objs.size := by
        have e' : c = z ∨ c = TI ∨ c = TO ∨ c = i1 ∨ c = i2 := by simpa using hcm
        rcases e' with q | q | q | q | q
        · rw [q]; exact hzl
        · rw [q]; exact Heap.lt_size hTI
        · rw [q]; exact Heap.lt_size hTO
        · rw [q]; obtain ⟨_, e1, _⟩ := h1; exact Heap.lt_size e1
        · rw [q]; obtain ⟨_, e2, _⟩ := h2; exact Heap.lt_size e2
      rw [upd_ne (Nat.ne_of_lt hlt)]
      exact (hf c hcm).1
  done := by
    intro X hP hw hK hc i pins s σ H E I hf st hg
    subst hP hw hK
    obtain ⟨hz, hTI, ⟨x0, y0, hTO⟩, h1, h2⟩ := st
    obtain ⟨xs, ys, hqx, hqy, hend, g1, g2⟩ := hg
    obtain ⟨its, rv, p, _⟩ := I.tuple hqx
    obtain ⟨its2, rv2, p2, _⟩ := I.list hqy
    have l1 := rv.length
    have l2 := rv2.length
    have S : ZipSep2 z TI TO i1 i2 [i1, a] [i2, b] := ⟨D.TIz, D.TOz, D.TITO, D.TIi1, by simp, by simp [D.i1z.symm, D.l1z.symm], by simp [D.TOi1, D.l1TO.symm], D.TIi2, by simp, by simp [D.i2z.symm, D.l2z.symm], by simp [D.TOi2, D.l2TO.symm], by simp [D.i12, D.l2i1.symm], by simp [D.i12.symm, D.l1i2.symm]⟩
    have hn : X.A.in1.handled = none := I.ok.hd hc
    have s1 : its.toArray.size = xs.length := by rw [List.size_toArray, ← l1]
    have s2 : its2.toArray.size = ys.length := by rw [List.size_toArray, ← l2]
    refine wpAny_pyNext_zipD2_end S (Draws.tuple hn i1 a D.l1i1 its.toArray) (Draws.list hn i2 b D.l2i2 its2.toArray) hz hTI hTO ⟨h1, (show s.heap.IsTuple a its.toArray from p)⟩ ⟨h2, p2.isList⟩ (by omega) (by omega) (by omega) fun h' tk' hk => ⟨rfl, I.turnedL (t' := tk') (ch := [z, TI, TO, i1, i2]) (fun c o hb q =>
      hk c o (fun q' => hb (by simp [q'])) (fun q' => hb (by simp [q'])) (fun q' => hb (by simp [q'])) (fun q' => hb (by simp [q'])) q) hf⟩
  self := fun A i s Q E st h => wpAny_pyIter_zip st.1 h
def iZipM (K : PySem.W.Frag) (ta : TA) : TI := fun σ H R => ta σ H fun vs H1 => ∃ a b xs ys, vs = [.ref a, .ref b] ∧ SqT K H1 a xs ∧ SqL K H1 b ys ∧ R (ItzM K a b) H1
theorem pi_zipM {X : Cx} {e e2 : Expr} {ta : TA} {p pos tpos : Pos} {elts : List Expr} {kk : Nat} (hg : Gl X "zip") (hm : X.mg "zip" = none) (ha : PA X [e, e2] ta)
    (hs : starEach [e, e2] X.env = (false, eval e X.env) :: starEach [e2] X.env := by rfl) (hpl : (backTo pos (starEach [e2] X.env)).any (·.1) = false := by rfl) :
    PI X (.Tuple elts kk tpos) (.Call (.Name "zip" p) [e, e2] [] pos) (iZipM X.K ta) := by
  refine ⟨fun pins s σ H R I h => ?_⟩
  refine Call_ (ld_blt I hg hm PyProof.Rows.boot_zip (PyProof.Rows.callWith_type1 (thn (ha.run pos pins s σ H _ I h) fun us s1 ⟨vs, H1, I1, r1, q1⟩ => ?_) hs hpl))
  obtain ⟨a, b, xs, ys, ex, hqx, hqy, q⟩ := q1
  subst ex
  cases r1 with
  | cons r rr =>
    cases rr with
    | cons r' rr =>
      cases rr
      cases r
      cases r'
      have fresh5 : ∀ c, c ∈ [s1.heap.objs.size + 4, s1.heap.objs.size + 2, s1.heap.objs.size + 3, s1.heap.objs.size, s1.heap.objs.size + 1] → FpOk X pins H1 c := fun c hcm => by
        have e' : c = s1.heap.objs.size + 4 ∨ c = s1.heap.objs.size + 2 ∨ c = s1.heap.objs.size + 3 ∨ c = s1.heap.objs.size ∨ c = s1.heap.objs.size + 1 := by simpa using hcm
        have hle : s1.heap.objs.size ≤ c := by
          rcases e' with z | z | z | z | z
          · rw [z]; exact Nat.le_add_right _ _
          · rw [z]; exact Nat.le_add_right _ _
          · rw [z]; exact Nat.le_add_right _ _
          · rw [z]; exact Nat.le_refl _
          · rw [z]; exact Nat.le_add_right _ _
        exact I1.fpOk hle (I1.hok.fresh hle)
      obtain ⟨its, rv, p1, _⟩ := I1.tuple hqx
      obtain ⟨its2, rv2, p2, _⟩ := I1.list hqy
      obtain ⟨o1, ho1, _⟩ := id p1
      refine zip_begins2 (begins_tuple a its.toArray) (begins_list b its2.toArray) p1 p2.isList fun h' hz hTI hTO h1 h2 hsz hk => wpAny_pyIter_zip hz ?_
      have I2 : Inv X pins σ H1 { s1 with heap := h' } := I1.kept (t' := s1.toks) hk
      exact ⟨s1.heap.objs.size + 4, [s1.heap.objs.size + 4, s1.heap.objs.size + 2, s1.heap.objs.size + 3, s1.heap.objs.size, s1.heap.objs.size + 1], _, _, H1, rfl, I2, turn_zipM (PySem.W.ktu_apart s1.heap.objs.size a b (Heap.lt_size ho1) p2.lt), ⟨hz, hTI, ⟨_, _, hTO⟩, ⟨_, h1, rfl, rfl⟩, ⟨_, h2, rfl, rfl⟩⟩, fresh5, q⟩
end Lk
end
section
set_option maxRecDepth 100000
set_option maxHeartbeats 2000000
/-! a walk over zip of two tuples. -/
namespace Lk
open PySem PySem.Spec PyProof.Rows L2 RZ
theorem walk_zipT {K : PySem.W.Frag} {a b : Addr} {xs ys : List V} (hl : xs.length = ys.length) : Walk (ItzT K a b) xs.length (fun H => SqT K H a xs ∧ SqT K H b ys) (YPair (fun i => xs[i]?) (fun i => ys[i]?)) := by
  refine ⟨fun i _ hi q => ⟨xs, ys, xs[i], ys[i], q.1, q.2, by simp [hi], by simp⟩, fun _ q => ⟨xs, ys, q.1, q.2, .inl (Nat.le_refl _)⟩, fun i H v H2 _ q ⟨T, x, y, h1, h2, h3, h4, h5⟩ => ?_⟩
  exact ⟨T, x, y, h1, h2, h3, h4 xs q.1, h5 ys q.2⟩
end Lk
end
section
set_option maxRecDepth 100000
set_option maxHeartbeats 2000000
/-! xs[i] += e of a list. -/
namespace Lk
open PySem PySem.Spec PyProof.Rows L2
theorem get_list {X : Cx} : PGet X (rIxL X.K) := by
  intro pins s σ H x y v u Q I rx ry h
  obtain ⟨p, xs, i, z, rfl, rfl, hq, he, q⟩ := h
  cases rx
  obtain ⟨t, rfl⟩ := ry
  obtain ⟨its, r, pl, hz⟩ := I.list hq
  obtain ⟨j, h1, h2, h3, h4, h5⟩ := atI_get he
  obtain ⟨w, ew, rw'⟩ := r.get h2
  have hl := r.length
  have hn := line63
  have fin : EP X pins σ Q w s := ⟨z, H, I, rw', q⟩
  by_cases h0 : 0 ≤ i
  · have hj : i.toNat = j := by
      rw [seqIndex_of h0 h5] at h1
      exact Option.some.inj h1
    exact wpAny_getItem_list pl.isList h0 (by omega) (by rw [hj]; simpa using ew) fin
  · have hj : (i + (its.toArray.size : Int)).toNat = j := by
      rw [seqIndex_neg (by omega) h4] at h1
      rw [List.size_toArray, ← hl]
      exact Option.some.inj h1
    exact wpAny_getItem_list_neg pl.isList (by omega) (by rw [List.size_toArray] <;> omega) (by omega) (by rw [hj]; simpa using ew) fin
end Lk
end
section
set_option maxRecDepth 100000
set_option maxHeartbeats 4000000
/-! The law's own rings. -/
namespace Lk
open PySem PySem.Spec PyProof.Rows L2
def spWays : Sp := fun vs H Q _ => ∃ (v : V) (c : Cd), vs = [v] ∧ Cat H v c ∧ CdOk c ∧ ∀ p H', H p = none → Same H H' → H' p = some (.lst ((gos c).map vN)) → Q (.ref p) H'
/-- lists of places, new -/
def RowsV (H0 H : Hp) : List V → List (List Nat) → Prop
  | [], [] => True
  | v :: vs, r :: rs => (∃ p, v = .ref p ∧ H0 p = none ∧ H p = some (.lst (r.map vN))) ∧ RowsV H0 H vs rs
  | _, _ => False
theorem RowsV.same {H0 H H' : Hp} (s : Same H H') : ∀ {vs : List V} {rs : List (List Nat)}, RowsV H0 H vs rs → RowsV H0 H' vs rs
  | [], [], _ => trivial
  | _ :: _, _ :: _, ⟨⟨p, e, n, h⟩, t⟩ => ⟨⟨p, e, n, s _ _ h⟩, RowsV.same s t⟩
theorem RowsV.push {H0 H : Hp} {q : Addr} {r : List Nat} (n : H0 q = none) (h : H q = some (.lst (r.map vN))) : ∀ {vs : List V} {rs : List (List Nat)}, RowsV H0 H vs rs → RowsV H0 H (vs ++ [.ref q]) (rs ++ [r])
  | [], [], _ => ⟨⟨q, rfl, n, h⟩, trivial⟩
  | _ :: _, _ :: _, ⟨a, t⟩ => ⟨a, RowsV.push n h t⟩
theorem RowsV.len {H0 H : Hp} : ∀ {vs : List V} {rs : List (List Nat)}, RowsV H0 H vs rs → vs.length = rs.length
  | [], [], _ => rfl
  | _ :: _, _ :: _, ⟨_, t⟩ => congrArg (· + 1) t.len
theorem RowsV.at {H0 H : Hp} : ∀ {vs : List V} {rs : List (List Nat)}, RowsV H0 H vs rs → ∀ {i : Nat} {v : V}, vs[i]? = some v → ∃ r p, rs[i]? = some r ∧ v = .ref p ∧ H0 p = none ∧ H p = some (.lst (r.map vN))
  | [], [], _, _, _, h => by simp at h
  | _ :: _, r :: _, ⟨⟨p, e, n, h⟩, _⟩, 0, v, hv => by
    cases hv
    exact ⟨r, p, rfl, e, n, h⟩
  | _ :: _, _ :: _, ⟨_, t⟩, i + 1, v, hv => RowsV.at t (by simpa using hv)
theorem RowsV.upd {H0 H : Hp} {q : Addr} {o : HO} : ∀ {vs : List V} {rs : List (List Nat)}, RowsV H0 H vs rs → (∀ u ∈ vs, u ≠ V.ref q) → RowsV H0 (L2.upd H q o) vs rs
  | [], [], _, _ => trivial
  | v :: _, _ :: _, ⟨⟨p, e, n, h⟩, t⟩, no => by
    have ne : p ≠ q := fun z => no v List.mem_cons_self (by rw [e, z])
    exact ⟨⟨p, e, n, (upd_ne ne).trans h⟩, RowsV.upd t fun u hu => no u (List.mem_cons_of_mem _ hu)⟩
theorem RowsV.keep {H0 H H' : Hp} {q : Addr} : ∀ {vs : List V} {rs : List (List Nat)}, RowsV H0 H vs rs → (∀ u ∈ vs, u ≠ V.ref q) → (∀ b o, b ≠ q → H b = some o → H' b = some o) → RowsV H0 H' vs rs
  | [], [], _, _, _ => trivial
  | v :: _, _ :: _, ⟨⟨p, e, n, h⟩, t⟩, no, k => by
    have ne : p ≠ q := fun z => no v List.mem_cons_self (by rw [e, z])
    exact ⟨⟨p, e, n, k _ _ ne h⟩, RowsV.keep t (fun u hu => no u (List.mem_cons_of_mem _ hu)) k⟩
def spRings : Sp := fun vs H Q _ => ∃ (v : V) (c : Cd), vs = [v] ∧ Cat H v c ∧ CdOk c ∧ ∀ F H' us fs, H F = none → Same H H' → H' F = some (.lst us) → RowsV H H' us fs → Fnd c c.2.length fs → Q (.ref F) H'
abbrev nWy : List Str := ["coder", "k", "length"]
abbrev nRs : List Str := ["coder", "ways", "found", "first", "walk", "k", "again"]
section
variable {P : Program} {w : World} {K : PySem.W.Frag} {mg : Str → Option Value} {base : Heap}
theorem sc_ways : FnScope nWy ["coder"] (defScope s_law_ways) := ⟨rfl, rfl, rfl, by decide +kernel, rfl, by decide +kernel, by decide +kernel⟩
theorem ok_ways {f : Addr} {fd : FuncData} (F : Fun K "_law_ways" "_law_ways" s_law_ways f fd) (ml : mg "len" = none) (me : mg "enumerate" = none) : FnOk P w K mg base CX0 1 f fd ["coder"] spWays := by
  refine F.ok sc_ways (fun vs H Q E h => ?_) (fun cdv A outer s H vs Q E hr h => ?_)
  · obtain ⟨v, c, rfl, _⟩ := h
    rfl
  · obtain ⟨v, c, rfl, cat, hc, q⟩ := h
    have nd := sc_ways.nd
    refine ⟨_, (pss_one (by exact (ps_ret (pe_lc (own := [("k", 1), ("length", 2)]) (g := (gTup K 2 (gCons (gName 1) (gCons (gName 2) gNil)))) (tt := tYes) rfl nd (pi_enumT (by rfl) me (pa_cons (pe_ix ix_tup (pv 0) pe_int (fun _ _ => rfl)) pa_nil)) (blkOk_by (N := nWy) (sc := defScope s_law_ways) (by decide +kernel)) (fun _ _ _ _ _ => (pg_tup rfl (pgs_cons (pg_name (i := 1) nd rfl (Or.inl rfl)) (pgs_cons (pg_name (i := 2) nd rfl (Or.inl rfl)) pgs_nil)))) (fun _ _ _ _ _ => pts_nil) (fun _ _ _ _ _ => (pe_op op_mod (pe_op op_add (pv 1) (pv 2)) (pe_callB (call_lenK (K := K) rfl) (by rfl) ml PySem.boot_len (pa_cons (pe_ix (ix_tupK (K := K) rfl) (pv 0) pe_int (fun _ _ => rfl)) pa_nil)))))))), ?_⟩
    obtain ⟨a, b, rfl, ha, hb⟩ := cat
    have h12 := hc.2
    have hp := hc.pos
    refine ⟨_, rfl, a, _, ((1 : Nat) : Int), .ref b, rfl, rfl, SqT.of ha, atI_nat rfl, b, _, rfl, SqT.of hb, fun D nD => ?_⟩
    refine lc_it walk_enumT (fun i H3 => Same H H3 ∧ H3 D = some (.lst (((gos c).take i).map vN))) ⟨same_new nD, upd_same⟩ (fun i H3 _ p => SqT.of (p.1 _ _ hb)) ?_ ?_
    · rintro i x H3 H4 hi ⟨s3, e3⟩ ⟨T, x1, x2, rfl, nT, rfl, hx1, hx2⟩
      rw [List.length_map] at hi
      dsimp only at hx1 hx2
      have hx1' : x1 = .int (0 + (i : Int)) := (Option.some.inj hx1).symm
      rw [nat_at hi] at hx2
      cases hx2
      subst hx1'
      have sT : Same H (upd H3 T (.tup [.int (0 + (i : Int)), .int ((c.2.getD i 0 : Nat) : Int)])) := s3.trans (same_new nT)
      refine ⟨T, [.int (0 + (i : Int)), .int ((c.2.getD i 0 : Nat) : Int)], rfl, SqT.of upd_same, rfl, _, _, rfl, _, _, rfl, rfl, rfl, _, rfl, _, rfl, _, _, rfl, rfl, _, rfl, a, _, ((1 : Nat) : Int), .ref b, rfl, rfl, SqT.of (sT _ _ ha), atI_nat rfl, b, _, rfl, .inr (SqT.of (sT _ _ hb)), _, _, rfl, rfl, (by rw [List.length_map]; omega), ?_⟩
      have e4 : upd H3 T (.tup [.int (0 + (i : Int)), .int ((c.2.getD i 0 : Nat) : Int)]) D = some (.lst (((gos c).take i).map vN)) := by rw [upd_ne (ne_of_none e3 nT)]; exact e3
      obtain ⟨acc, a1, a2, a3⟩ := snoc_map (f := vN) e4 (gos_at hi) (by rw [gos_len]; omega)
      refine ⟨acc, a1, a2, same_push sT nD, ?_⟩
      rw [show vN (go c i) = V.int ((0 + (i : Int) + ((c.2.getD i 0 : Nat) : Int)) % ((c.2.map vN).length : Int)) from ?_] at a3
      · exact a3
      · rw [List.length_map, Int.zero_add]
        show V.int (((i + len c i) % c.2.length : Nat) : Int) = _
        rw [Int.natCast_emod]
        rfl
    · rintro H3 ⟨s3, e3⟩
      rw [show (c.2.map vN).length = (gos c).length by rw [List.length_map, gos_len], List.take_length] at e3
      exact q D H3 nD s3 e3
theorem sc_rings : FnScope nRs ["coder"] (defScope s_law_rings) := ⟨rfl, rfl, rfl, by decide +kernel, rfl, by decide +kernel, by decide +kernel⟩
theorem ok_rings {f : Addr} {fd : FuncData} (F : Fun K "_law_rings" "_law_rings" s_law_rings f fd) (wy : C8.Cal P w K mg base 1 "_law_ways" spWays []) (ml : mg "len" = none) (mr : mg "range" = none) (mm : mg "min" = none) : FnOk P w K mg base CX0 2 f fd ["coder"] spRings := by
  refine F.ok sc_rings (fun vs H Q E h => ?_) (fun cdv A outer s H vs Q E hr h => ?_)
  · obtain ⟨v, c, rfl, _⟩ := h
    rfl
  · obtain ⟨v, c, rfl, cat, hc, q⟩ := h
    have nd := sc_rings.nd
    refine ⟨_, (pss_cons (by exact (ps_set (i := 1) nd rfl (Or.inl rfl) (C8.pe_c wy hr (by decide) rfl (pa_cons (pv 0) pa_nil))))
      (pss_cons (by exact (ps_set (i := 2) nd rfl (Or.inl rfl) (pe_lstS pa_nil)))
      (pss_cons (by exact (ps_for PassesOwn.never rfl (pi_range1 (by rfl) mr (pa_cons (pe_callB call_len_seq (by rfl) ml PySem.boot_len (pa_cons (pv 1) pa_nil)) pa_nil)) (pg_name (i := 3) nd rfl (Or.inl rfl)) (pss_cons (by exact (ps_set (i := 4) nd rfl (Or.inl rfl) (pe_lstS (pa_cons (pv 3) pa_nil))))
      (pss_cons (by exact (ps_for PassesOwn.never rfl (pi_range1 (by rfl) mr (pa_cons (pe_callB call_len_seq (by rfl) ml PySem.boot_len (pa_cons (pv 1) pa_nil)) pa_nil)) (pg_name (i := 5) nd rfl (Or.inl rfl)) (pss_one (by exact (ps_expr (pe_bm PySem.F.plainAttrs_list PySem.F.slot_list_append PySem.F.type_list_append mt_append (pv 4) (pa_cons (pe_ix ix_list (pv 1) (pe_ix ix_list (pv 4) (pe_un un_neg pe_int) (fun _ _ => rfl)) (fun _ _ => rfl)) pa_nil)))))))
      (C8.pss_cut (by exact (ps_set (i := 6) nd rfl (Or.inl rfl) (pe_ifExp (pt_cmpR op_in_seq (pv 3) (pe_slice sl_list (pv 4) (po_some pe_int) po_none) rfl) (pe_op op_add (pe_bm PySem.F.plainAttrs_list PySem.F.slot_list_index PySem.F.type_list_index mt_index (pe_slice sl_list (pv 4) (po_some pe_int) po_none) (pa_cons (pv 3) pa_nil)) pe_int) pe_int)))
      (pss_one (by exact (ps_if (PW.pt (pw_and (pt_cmpR op_gt (pv 6) pe_int (nomark _)) (pw_and (pt_cmpR op_eq (pe_callB (cr_min rfl) (by rfl) mm (by decide +kernel) (pa_cons (pe_slice sl_list (pv 4) po_none (po_some (pv 6))) pa_nil)) (pv 3) (nomark _)) (pw_and1 (pt_cmpR op_notIn_seq (pe_ix ix_tup (pv 0) pe_int (fun _ _ => rfl)) (pe_slice sl_list (pv 4) po_none (po_some (pv 6))) rfl))))) (pss_one (by exact (ps_expr (pe_bm PySem.F.plainAttrs_list PySem.F.slot_list_append PySem.F.type_list_append mt_append (pv 2) (pa_cons (pe_slice sl_list (pv 4) po_none (po_some (pv 6))) pa_nil))))) pss_nil))))))))
      (pss_one (by exact (ps_ret (pv 2))))))), ?_⟩
    have h12 := hc.2
    have hp := hc.pos
    have ok := hc.1
    refine ⟨_, rfl, v, c, rfl, cat, hc, fun W H1 nW s1 eW => ?_⟩
    refine ⟨Nat.zero_le _, fun FO H2 nF s2 eF => ?_⟩
    have gl := gos_len c
    have eW2 := s2 _ _ eW
    have nWF : W ≠ FO := ne_of_none eW nF
    have nFH : H FO = none := s1.free nF
    refine ⟨_, rfl, W, _, rfl, .inl (SqL.of eW2), (c.2.length : Int), by rw [List.length_map, gl], by omega, by omega, ?_⟩
    rw [Int.toNat_natCast]
    refine for_range (lo := 0) (n := c.2.length) (fun i σ H3 => ∃ y3 y4 y5 y6 us fs, σ = [some v, some (.ref W), some (.ref FO), y3, y4, y5, y6] ∧ H3 FO = some (.lst us) ∧ RowsV H H3 us fs ∧ Fnd c i fs ∧ H3 W = some (.lst ((gos c).map vN)) ∧ Same H H3 ∧ ∀ u ∈ us, u ≠ V.ref FO) ⟨none, none, none, none, [], [], rfl, eF, trivial, Fnd.none, eW2, s1.trans s2, (by intro u hu; cases hu)⟩ ?_ ?_
    · rintro i σ H3 hi ⟨y3, y4, y5, y6, us, fs, rfl, eF3, rv, fnd, eW3, s3, nus⟩
      refine ⟨_, rfl, (by show 1 ≤ sizeLine; decide), fun WK H4 nWK s4 eWK => ?_⟩
      have nWKF : WK ≠ FO := (ne_of_none eF3 nWK).symm
      have eW4 := s4 _ _ eW3
      have nWKW : WK ≠ W := (ne_of_none eW3 nWK).symm
      refine ⟨_, rfl, W, _, rfl, .inl (SqL.of eW4), (c.2.length : Int), by rw [List.length_map, gl], by omega, by omega, ?_⟩
      rw [Int.toNat_natCast]
      have wk0 : ∀ n, ((List.range (n + 1)).map fun j => gon c j i) = ((List.range n).map fun j => gon c j i) ++ [gon c n i] := fun n => by rw [List.range_succ, List.map_append]; rfl
      refine for_range (lo := 0) (n := c.2.length) (fun k σ H5 => ∃ y5, σ = [some v, some (.ref W), some (.ref FO), some (.int (0 + (i : Int))), some (.ref WK), y5, y6] ∧ H5 WK = some (.lst (((List.range (k + 1)).map fun j => gon c j i).map vN)) ∧ ∀ b o, b ≠ WK → H4 b = some o → H5 b = some o) ⟨y5, rfl, by rw [eWK, Int.zero_add]; rfl, fun b o _ e => e⟩ ?_ ?_
      · rintro k σ H5 hk ⟨z5, rfl, eK, kp⟩
        have eW5 := kp W _ nWKW.symm eW4
        have last : atI (((List.range (k + 1)).map fun j => gon c j i).map vN) (-1) = some (vN (gon c k i)) := by
          rw [wk0 k, List.map_append]
          exact atI_last _ _
        have gk := gon_lt ok hi k
        refine ⟨_, rfl, .inl ⟨rfl, _, SqL.of eK⟩, _, rfl, _, rfl, _, rfl, WK, _, (-1 : Int), _, rfl, rfl, SqL.of eK, last, W, _, ((gon c k i : Nat) : Int), _, rfl, rfl, SqL.of eW5, atI_nat (by rw [List.getElem?_map, gos_at gk]; rfl), WK, _, _, rfl, rfl, eK, ?_, ?_⟩
        · rw [List.length_map, List.length_map, List.length_range]
          exact Nat.lt_of_le_of_lt (show k + 1 ≤ 13 by omega) (by decide)
        · refine ⟨_, rfl, ?_, fun b o nb e => by rw [upd_ne nb]; exact kp b o nb e⟩
          rw [upd_same, wk0 (k + 1), List.map_append]
          rw [show go c (gon c k i) = gon c (k + 1) i from (gon_succ ..).symm]
          rfl
      · rintro σ H5 ⟨z5, rfl, eK, kp⟩
        have z0 : (0 : Int) + (i : Int) = (i : Int) := Int.zero_add _
        rw [z0]
        obtain ⟨wl, ewl⟩ : ∃ wl : List Nat, wl = (List.range c.2.length).map fun j => gon c (j + 1) i := ⟨_, rfl⟩
        have wll : wl.length = c.2.length := by rw [ewl, List.length_map, List.length_range]
        have ek1 : ((List.range (c.2.length + 1)).map fun j => gon c j i) = i :: wl := by
          rw [ewl, List.range_succ_eq_map, List.map_cons, List.map_map]
          rfl
        rw [ek1] at eK
        have ct1 : cutV ((i :: wl).map vN) (some (1 : Int)) Option.none = wl.map vN := cut_from (n := 1)
        have flat1 : ∀ n : Nat, flatV (vN n) = true := fun _ => rfl
        refine ⟨fun σ' H' => σ' = [some v, some (.ref W), some (.ref FO), some (.int (i : Int)), some (.ref WK), z5, some (.int (agn c i : Int))] ∧ H' WK = some (.lst ((i :: wl).map vN)) ∧ ∀ b o, b ≠ WK → H4 b = some o → H' b = some o, ?_, ?_⟩
        · refine ⟨_, rfl, _, rfl, _, rfl, WK, _, rfl, SqL.of eK, fun S1 nS1 => ?_⟩
          rw [ct1]
          have sS1 := same_new (o := .lst (wl.map vN)) nS1
          have eS1 : upd H5 S1 (.lst (wl.map vN)) S1 = some (.lst (wl.map vN)) := upd_same
          generalize upd H5 S1 (.lst (wl.map vN)) = H6 at sS1 eS1 ⊢
          refine ⟨S1, _, rfl, .inl (SqL.of eS1), rfl, flat_nat _, _, rfl, ?_⟩
          show (if inV (vN i) (wl.map vN) = true then _ else _)
          rw [inV_nat]
          by_cases mem : i ∈ wl
          · rw [decide_eq_true mem]
            have ag0 : 0 < agn c i := by
              rw [ewl] at mem
              obtain ⟨j, hj, ej⟩ := List.mem_map.mp mem
              by_cases g : 0 < agn c i
              · exact g
              · exfalso
                obtain ⟨m, hm, lm⟩ := least_of (Q := fun j => 0 < j ∧ gon c j i = i) (n := j + 1) ⟨Nat.succ_pos _, ej⟩
                have mj : m ≤ j + 1 := by
                  by_cases z : m ≤ j + 1
                  · exact z
                  · exact absurd ⟨Nat.succ_pos _, ej⟩ (lm (j + 1) (by omega))
                have := agn_some hm.1 (by have := List.mem_range.mp hj; omega) hm.2 fun j2 h0 h1 e => lm j2 h1 ⟨h0, e⟩
                omega
            obtain ⟨g1, g2, g3⟩ := agn_pos ag0
            have atw : ∀ m, m < c.2.length → (wl.map vN)[m]? = some (vN (gon c (m + 1) i)) := fun m hm => by
              rw [ewl, List.getElem?_map, List.getElem?_map, List.getElem?_range hm]
              rfl
            refine iteT ⟨_, rfl, _, rfl, WK, _, rfl, SqL.of (sS1 _ _ eK), fun S2 nS2 => ?_⟩
            rw [ct1]
            have sS2 := same_new (o := .lst (wl.map vN)) nS2
            have eS2 : upd H6 S2 (.lst (wl.map vN)) S2 = some (.lst (wl.map vN)) := upd_same
            generalize upd H6 S2 (.lst (wl.map vN)) = H7 at sS2 eS2 ⊢
            refine ⟨.inl ⟨rfl, _, SqL.of eS2⟩, _, rfl, S2, _, vN i, agn c i - 1, vN i, rfl, rfl, SqL.of eS2, rfl, flat_nat _, ?_, ?_, fun m z' hm hz => ?_, _, _, rfl, rfl, ?_⟩
            · rw [atw _ (by omega), show agn c i - 1 + 1 = agn c i by omega, g2]
            · show ((i : Int) == (i : Int)) = true
              simp
            · rw [atw _ (by omega)] at hz
              cases hz
              show (((gon c (m + 1) i : Nat) : Int) == (i : Int)) = false
              have := g3 (m + 1) (by omega) (by omega)
              rw [beq_eq_false_iff_ne]
              omega
            · refine ⟨?_, (sS1.trans sS2) _ _ eK, fun b o nb e => (sS1.trans sS2) _ _ (kp b o nb e)⟩
              have e : ((agn c i - 1 : Nat) : Int) + 1 = (agn c i : Int) := by omega
              dsimp only
              rw [e]
              rfl
          · rw [decide_eq_false mem]
            have ag0 : agn c i = 0 := agn_none fun j h0 h1 e => mem (by
              rw [ewl]
              exact List.mem_map.mpr ⟨j - 1, List.mem_range.mpr (by omega), by rw [show j - 1 + 1 = j by omega]; exact e⟩)
            exact iteF ⟨by rw [ag0]; rfl, sS1 _ _ eK, fun b o nb e => sS1 _ _ (kp b o nb e)⟩
        rintro σ6 H6 ⟨rfl, eK6, kp6⟩
        have eF6 := kp6 FO _ nWKF.symm (s4 _ _ eF3)
        have eW6 := kp6 W _ nWKW.symm eW4
        have s06 : Same H H6 := fun b o e => kp6 b o (ne_of_none (s3 _ _ e) nWK) (s4 _ _ (s3 _ _ e))
        have rv6 : RowsV H H6 us fs := by
          have z := rv.same s4
          exact RowsV.keep z (fun u hu z2 => by
            obtain ⟨k, hk⟩ := List.mem_iff_getElem?.mp hu
            obtain ⟨r, p, _, e1, _, e2⟩ := rv.at hk
            rw [e1] at z2
            have : p = WK := V.ref.inj z2
            rw [this, nWK] at e2
            cases e2) kp6
        have no : ∀ H7, Same H6 H7 → ¬ RingAt c i → ∃ y3 y4 y5 y6 us fs, [some v, some (V.ref W), some (.ref FO), some (.int (i : Int)), some (.ref WK), z5, some (.int (agn c i : Int))] = [some v, some (.ref W), some (.ref FO), y3, y4, y5, y6] ∧ H7 FO = some (.lst us) ∧ RowsV H H7 us fs ∧ Fnd c (i + 1) fs ∧ H7 W = some (.lst ((gos c).map vN)) ∧ Same H H7 ∧ ∀ u ∈ us, u ≠ V.ref FO := fun H7 s7 nr => ⟨_, _, _, _, us, fs, rfl, s7 _ _ eF6, rv6.same s7, fnd.no nr, s7 _ _ eW6, s06.trans s7, nus⟩
        obtain ⟨a, b, rfl, ha, hb⟩ := id cat
        have rk : ∀ {k : Nat}, k ≤ c.2.length → cutV ((i :: wl).map vN) Option.none (some (k : Int)) = (ringL c i k).map vN := fun {k} hk => by
          rw [cut_to (by rw [List.length_map, List.length_cons, wll]; omega), ← ek1, ← List.map_take, ← List.map_take, List.take_range, Nat.min_eq_left (by omega)]
          rfl
        have nl : (ringL c i (agn c i)).map vN = ((ringL c i (agn c i)).map fun x : Nat => (x : Int)).map V.int := by rw [List.map_map]; rfl
        refine ⟨_, rfl, _, _, rfl, rfl, _, rfl, ?_⟩
        by_cases g : 0 < agn c i
        · rw [decide_eq_true (show (0 : Int) < (agn c i : Int) by omega)]
          obtain ⟨g1, g2, g3⟩ := agn_pos g
          refine iteT ⟨_, rfl, _, rfl, _, rfl, WK, _, rfl, SqL.of eK6, fun S3 nS3 => ?_⟩
          rw [rk g1]
          have s7 := same_new (o := .lst ((ringL c i (agn c i)).map vN)) nS3
          have eS3 : upd H6 S3 (.lst ((ringL c i (agn c i)).map vN)) S3 = some (.lst ((ringL c i (agn c i)).map vN)) := upd_same
          generalize upd H6 S3 (.lst ((ringL c i (agn c i)).map vN)) = H7 at s7 eS3 ⊢
          refine ⟨S3, (ringL c i (agn c i)).map fun x : Nat => (x : Int), rfl, SqL.of (by rw [← nl]; exact eS3), by rw [List.length_map, ringL_len]; exact g, fun m hm hall => ?_⟩
          obtain ⟨m', hm', rfl⟩ := List.mem_map.mp hm
          have i_in : i ∈ ringL c i (agn c i) := by
            unfold ringL
            exact List.mem_map.mpr ⟨0, List.mem_range.mpr g, rfl⟩
          have mi : m' ≤ i := by
            have := hall _ (List.mem_map.mpr ⟨i, i_in, rfl⟩)
            omega
          refine ⟨_, rfl, rfl, _, rfl, ?_⟩
          by_cases e : m' = i
          · rw [show (decide (V.int (m' : Int) = V.int (i : Int))) = true from decide_eq_true (by rw [e])]
            have all : ∀ x ∈ ringL c i (agn c i), i ≤ x := fun x hx => by
              have := hall _ (List.mem_map.mpr ⟨x, hx, rfl⟩)
              omega
            refine iteT ⟨_, rfl, a, _, ((0 : Nat) : Int), _, rfl, rfl, SqT.of ((s06.trans s7) _ _ ha), atI_nat rfl, _, rfl, _, rfl, _, rfl, WK, _, rfl, SqL.of (s7 _ _ eK6), fun S4 nS4 => ?_⟩
            rw [rk g1]
            have s8 := same_new (o := .lst ((ringL c i (agn c i)).map vN)) nS4
            have eS4 : upd H7 S4 (.lst ((ringL c i (agn c i)).map vN)) S4 = some (.lst ((ringL c i (agn c i)).map vN)) := upd_same
            generalize upd H7 S4 (.lst ((ringL c i (agn c i)).map vN)) = H8 at s8 eS4 ⊢
            refine ⟨S4, _, rfl, .inl (SqL.of eS4), rfl, flat_nat _, _, rfl, ?_⟩
            show (if (!inV (vN c.1) ((ringL c i (agn c i)).map vN)) = true then _ else _)
            rw [inV_nat]
            by_cases hc1 : c.1 ∈ ringL c i (agn c i)
            · rw [decide_eq_true hc1]
              exact iteF (no H8 (s7.trans s8) fun ⟨k, r⟩ => by
                obtain ⟨h1, _, h3⟩ := ring_agn ok hi r
                rw [h1] at hc1
                exact h3 hc1)
            · rw [decide_eq_false hc1]
              have ring := agn_ring g all hc1
              have s68 := s7.trans s8
              refine iteT ⟨_, rfl, .inl ⟨rfl, _, SqL.of (s68 _ _ eF6)⟩, _, rfl, _, rfl, _, rfl, WK, _, rfl, SqL.of (s68 _ _ eK6), fun S5 nS5 => ?_⟩
              rw [rk g1]
              have s9 := same_new (o := .lst ((ringL c i (agn c i)).map vN)) nS5
              have eS5 : upd H8 S5 (.lst ((ringL c i (agn c i)).map vN)) S5 = some (.lst ((ringL c i (agn c i)).map vN)) := upd_same
              generalize upd H8 S5 (.lst ((ringL c i (agn c i)).map vN)) = H9 at s9 eS5 ⊢
              have s69 := s68.trans s9
              have eF9 := s69 _ _ eF6
              have nS5F : S5 ≠ FO := (ne_of_none (s68 _ _ eF6) nS5).symm
              have nS5H : H S5 = none := (s06.trans s68).free nS5
              have rvl := rv6.len
              have fl := fnd.len
              refine ⟨FO, us, .ref S5, rfl, rfl, eF9, Nat.lt_of_le_of_lt (show us.length ≤ 12 by omega) (by decide), _, _, _, _, us ++ [.ref S5], fs ++ [ringL c i (agn c i)], rfl, upd_same, ?_, fnd.yes ring, (upd_ne nWF).trans (s69 _ _ eW6), same_push (s06.trans s69) nFH, fun u hu => ?_⟩
              · exact RowsV.push nS5H ((upd_ne nS5F).trans eS5) ((rv6.same s69).upd nus)
              · rcases List.mem_append.mp hu with z | z
                · exact nus u z
                · rw [List.mem_singleton.mp z]
                  exact fun y => nS5F (V.ref.inj y)
          · rw [show (decide (V.int (m' : Int) = V.int (i : Int))) = false from decide_eq_false (fun z => e (by have := V.int.inj z; omega))]
            exact iteF (no H7 s7 fun ⟨k, r⟩ => by
              obtain ⟨h1, h2, _⟩ := ring_agn ok hi r
              rw [h1] at hm'
              have := h2 m' hm'
              omega)
        · rw [decide_eq_false (show ¬ ((0 : Int) < (agn c i : Int)) by omega)]
          exact iteF (no H6 (Same.refl _) fun ⟨k, r⟩ => by
            have := (ring_agn ok hi r).1
            have := r.pos
            omega)
    · rintro σ H3 ⟨y3, y4, y5, y6, us, fs, rfl, eF3, rv, fnd, eW3, s3, nus⟩
      exact ⟨_, rfl, q FO H3 us fs nFH s3 eF3 rv fnd⟩
end
end Lk
end
section
set_option maxRecDepth 100000
set_option maxHeartbeats 2000000
namespace Lk
open PySem PySem.Spec PyProof.Rows L2
/-- letters from a to z -/
def Az (l : List Nat) : Prop := ∀ c ∈ l, 97 ≤ c ∧ c ≤ 122
theorem sameBut_new {a p : Addr} {H : Hp} {o : HO} (h : H p = none) : SameBut a H (upd H p o) := fun b u n e => by rw [upd_ne (ne_of_none e h)]; exact e
theorem alpha_at {i : Nat} (h : i < 26) : (Str.ofString "abcdefghijklmnopqrstuvwxyz").cps[i]? = some (97 + i) := by
  have e : ∀ i : Fin 26, (Str.ofString "abcdefghijklmnopqrstuvwxyz").cps[i.val]? = some (97 + i.val) := by decide +kernel
  exact e ⟨i, h⟩
theorem alpha_len : (Str.ofString "abcdefghijklmnopqrstuvwxyz").length = 26 := by decide +kernel
theorem join_ones (l : List Nat) : Txt.join (Str.ofString "") (l.map fun c => SX.S [c]) = SX.S l := by
  have e : ∀ l : List Nat, TL.joinL [] (l.map fun c => [c]) = l := by
    intro l
    induction l with
    | nil => rfl
    | cons c r ih =>
      cases r with
      | nil => rfl
      | cons d r => 
        show [c] ++ ([] ++ TL.joinL [] ((d :: r).map fun c => [c])) = c :: d :: r
        rw [ih]
        rfl
  have h := SX.join_S [] (l.map fun c => [c])
  rw [e, List.map_map] at h
  exact h
section
variable {P : Program} {w : World} {K : PySem.W.Frag} {mg : Str → Option Value} {base : Heap}
def spSomeT : Sp := fun vs H Q _ => ∃ (a : Addr) (m : Int) (b : Int × Int × Int), vs = [.ref a, .int m] ∧ H a = some (bagO b) ∧ 0 ≤ m ∧ m ≤ 1000000 ∧
  ∀ l H', Az l → (l.length : Int) = m → Bag H' a → SameBut a H H' → Q (.str (SX.S l)) H'
end
def azC (c : Nat) : Bool := decide (97 ≤ c) && decide (c ≤ 122)
def isAz (l : List Nat) : Bool := l.all azC
theorem isAz_iff {l : List Nat} : isAz l = true ↔ Az l := by
  unfold isAz Az azC
  rw [List.all_eq_true]
  constructor
  · intro h c hc
    have z := h c hc
    rw [Bool.and_eq_true, decide_eq_true_eq, decide_eq_true_eq] at z
    exact z
  · intro h c hc
    rw [Bool.and_eq_true, decide_eq_true_eq, decide_eq_true_eq]
    exact h c hc
/-- what is no text -/
inductive NoStr (H : Hp) : V → Prop where
  | non : NoStr H .non
  | bl (b : Bool) : NoStr H (.bl b)
  | int (i : Int) : NoStr H (.int i)
  | lst {a : Addr} {xs : List V} (e : H a = some (.lst xs)) : NoStr H (.ref a)
  | tup {a : Addr} {xs : List V} (e : H a = some (.tup xs)) : NoStr H (.ref a)
  | dK {a : Addr} {kvs : List (Key × V)} (e : H a = some (.dK kvs)) : NoStr H (.ref a)
theorem NoStr.same {H H' : Hp} {v : V} (h : NoStr H v) (s : Same H H') : NoStr H' v := by
  cases h with
  | non => exact .non
  | bl b => exact .bl b
  | int i => exact .int i
  | lst e => exact .lst (s _ _ e)
  | tup e => exact .tup (s _ _ e)
  | dK e => exact .dK (s _ _ e)
theorem NoStr.ty {K : PySem.W.Frag} {H : Hp} {v : V} (h : NoStr H v) : ∃ n, TyX K H v (.type n) ∧ kitB n "str" = some false := by
  cases h with
  | non => exact ⟨"NoneType", .base .non, by decide +kernel⟩
  | bl b => exact ⟨"bool", .base (.bl b), by decide +kernel⟩
  | int i => exact ⟨"int", .base (.int i), by decide +kernel⟩
  | lst e => exact ⟨"list", .base (.lst e), by decide +kernel⟩
  | tup e => exact ⟨"tuple", .base (.tup e), by decide +kernel⟩
  | dK e => exact ⟨"dict", .base (.dK e), by decide +kernel⟩
/-- is_letters of v is b -/
inductive LetV (H : Hp) : V → Bool → Prop where
  | str (l : List Nat) (h : l.length ≤ 100000) : LetV H (.str (SX.S l)) (isAz l)
  | oth {v : V} (h : NoStr H v) : LetV H v false
theorem LetV.same {H H' : Hp} {v : V} {b : Bool} (h : LetV H v b) (s : Same H H') : LetV H' v b := by
  cases h with
  | str l z => exact .str l z
  | oth z => exact .oth (z.same s)
theorem lt_one (c d : Nat) : decide (([c] : List Nat) < [d]) = decide (c < d) := by
  by_cases h : c < d
  · rw [decide_eq_true h, decide_eq_true]
    exact List.Lex.rel h
  · rw [decide_eq_false h, decide_eq_false]
    intro z
    cases z with
    | rel z => exact h z
    | cons z => cases z
theorem az_ge (c : Nat) : (!decide (((SX.S [c]).cps.toList : List Nat) < (Str.ofString "a").cps.toList)) = decide (97 ≤ c) := by
  rw [show (Str.ofString "a").cps.toList = [97] from by decide +kernel]
  show (!decide (([c] : List Nat) < [97])) = _
  rw [lt_one]
  by_cases h : c < 97
  · rw [decide_eq_true h, decide_eq_false (by omega)]; rfl
  · rw [decide_eq_false h, decide_eq_true (by omega)]; rfl
theorem az_le (c : Nat) : (!decide ((Str.ofString "z").cps.toList < ((SX.S [c]).cps.toList : List Nat))) = decide (c ≤ 122) := by
  rw [show (Str.ofString "z").cps.toList = [122] from by decide +kernel]
  show (!decide (([122] : List Nat) < [c])) = _
  rw [lt_one]
  by_cases h : 122 < c
  · rw [decide_eq_true h, decide_eq_false (by omega)]; rfl
  · rw [decide_eq_false h, decide_eq_true (by omega)]; rfl
section
variable {P : Program} {w : World} {K : PySem.W.Frag} {mg : Str → Option Value} {base : Heap}
def spLetters : Sp := fun vs H Q _ => ∃ v b, vs = [v] ∧ LetV H v b ∧ ∀ H', Same H H' → Q (.bl b) H'
end

end Lk
end
section
set_option maxRecDepth 100000
set_option maxHeartbeats 2000000
/-! Numbers by their figures. -/
namespace Lk
open PySem PySem.Spec PyProof.Rows L2
def dec (n : Nat) : List Nat := (Nat.toDigits 10 n).map Char.toNat
theorem str_dec (n : Nat) : Str.ofString (toString ((n : Nat) : Int)) = SX.S (dec n) := by
  rw [Str.ofString_eq_toList]
  show (⟨((String.ofList (Nat.toDigits 10 n)).toList.map Char.toNat).toArray⟩ : Str) = _
  rw [String.toList_ofList]
  rfl
theorem dec_small {n : Nat} (h : n < 10) : dec n = [48 + n] := by
  unfold dec
  rw [Nat.toDigits_of_lt_base h, NumText.digitChar_of _ h]
  show [(Char.ofNat (48 + n)).toNat] = _
  have e : ∀ n : Nat, n < 10 → (Char.ofNat (48 + n)).toNat = 48 + n := by decide
  rw [e n h]
theorem dec_more {n : Nat} (h : 10 ≤ n) : dec n = dec (n / 10) ++ [48 + n % 10] := by
  have e : n = 10 * (n / 10) + n % 10 := (Nat.div_add_mod n 10).symm
  have z := Nat.toDigits_append_toDigits (b := 10) (n := n / 10) (d := n % 10) (by decide) (by omega) (Nat.mod_lt _ (by decide))
  rw [← e] at z
  unfold dec
  rw [← z, List.map_append]
  congr 1
  exact dec_small (Nat.mod_lt _ (by decide))
theorem dec_ne (n : Nat) : dec n ≠ [] := by
  by_cases h : n < 10
  · rw [dec_small h]; exact List.cons_ne_nil _ _
  · rw [dec_more (by omega)]
    intro z
    simp at z
theorem dec_digits (n : Nat) : NumText.AllDigits (dec n) := by
  induction n using Nat.strongRecOn with
  | _ n ih =>
    by_cases h : n < 10
    · rw [dec_small h]
      intro c hc
      rw [List.mem_singleton.mp hc]
      omega
    · rw [dec_more (by omega)]
      intro c hc
      rcases List.mem_append.mp hc with z | z
      · exact ih (n / 10) (by omega) c z
      · rw [List.mem_singleton.mp z]
        omega
theorem dec_val (n : Nat) : NumText.digitsVal (dec n) = n := by
  induction n using Nat.strongRecOn with
  | _ n ih =>
    by_cases h : n < 10
    · rw [dec_small h]
      show 0 * 10 + (48 + n - 48) = n
      omega
    · rw [dec_more (by omega), NumText.digitsVal_snoc, ih (n / 10) (by omega)]
      omega
/-- no nought ahead -/
theorem dec_head (n : Nat) : dec n = [48] ∨ ∃ c r, dec n = c :: r ∧ 49 ≤ c := by
  induction n using Nat.strongRecOn with
  | _ n ih =>
    by_cases h : n < 10
    · rw [dec_small h]
      by_cases h0 : n = 0
      · left; rw [h0]
      · exact .inr ⟨_, [], rfl, by omega⟩
    · right
      rw [dec_more (by omega)]
      rcases ih (n / 10) (by omega) with z | ⟨c, r, z, hc⟩
      · exfalso
        have y := dec_val (n / 10)
        rw [z] at y
        have x : NumText.digitsVal [48] = 0 := rfl
        omega
      · rw [z]
        exact ⟨c, r ++ [48 + n % 10], rfl, hc⟩
theorem dec_len {n k : Nat} (hk : 0 < k) (h : n < 10 ^ k) : (dec n).length ≤ k := by
  have z := (Nat.length_repr_le_iff hk).mpr h
  have e : (Nat.repr n).length = (dec n).length := by
    show (String.ofList (Nat.toDigits 10 n)).length = _
    unfold dec
    rw [List.length_map, String.length_ofList]
  omega
theorem int_dec (n : Nat) (h : (dec n).length ≤ 4300) : intText? (SX.S (dec n)) = some ((n : Nat) : Int) := by
  have z := intText_digits (x := SX.S (dec n)) (dec_digits n) (dec_ne n) (by rw [SX.S_len]; exact h)
  have e : (SX.S (dec n)).cps.toList = dec n := rfl
  rw [e, dec_val] at z
  exact z
theorem dec_inj {a b : Nat} (h : dec a = dec b) : a = b := by
  rw [← dec_val a, ← dec_val b, h]
theorem dec_noblank (n : Nat) : (32 : Nat) ∉ dec n := fun z => by
  have y := dec_digits n 32 z
  omega
/-! ### what a text says as a number -/
def isDig (c : Nat) : Bool := decide (48 ≤ c) && decide (c ≤ 57)
def readN (w : List Nat) : Option Nat := if decide (1 ≤ w.length) && decide (w.length ≤ 40) && w.all isDig && !(decide (w.head? = some 48) && decide (w ≠ [48])) then some (NumText.digitsVal w) else none
theorem readN_bad {w : List Nat} (h : ¬ (1 ≤ w.length ∧ w.length ≤ 40 ∧ w.all isDig = true)) : readN w = none := by
  unfold readN
  refine if_neg fun z => h ?_
  simp only [Bool.and_eq_true, decide_eq_true_eq] at z
  exact ⟨z.1.1.1, z.1.1.2, z.1.2⟩
theorem readN_zero {w : List Nat} (h : w.head? = some 48) (k : w ≠ [48]) : readN w = none := by
  unfold readN
  refine if_neg fun z => ?_
  rw [Bool.and_eq_true] at z
  rw [decide_eq_true h, decide_eq_true k] at z
  exact absurd z.2 (by decide)
theorem readN_good {w : List Nat} (h1 : 1 ≤ w.length) (h2 : w.length ≤ 40) (h3 : w.all isDig = true) (h4 : ¬ (w.head? = some 48 ∧ w ≠ [48])) : readN w = some (NumText.digitsVal w) := by
  unfold readN
  refine if_pos ?_
  rw [decide_eq_true h1, decide_eq_true h2, h3]
  by_cases c : w.head? = some 48
  · rw [decide_eq_true c, decide_eq_false (fun z => h4 ⟨c, z⟩)]; rfl
  · rw [decide_eq_false c]; rfl
theorem dig_ge (c : Nat) : (!decide (((SX.S [c]).cps.toList : List Nat) < (Str.ofString "0").cps.toList)) = decide (48 ≤ c) := by
  rw [show (Str.ofString "0").cps.toList = [48] from by decide +kernel]
  show (!decide (([c] : List Nat) < [48])) = _
  rw [lt_one]
  by_cases h : c < 48
  · rw [decide_eq_true h, decide_eq_false (by omega)]; rfl
  · rw [decide_eq_false h, decide_eq_true (by omega)]; rfl
theorem dig_le (c : Nat) : (!decide ((Str.ofString "9").cps.toList < ((SX.S [c]).cps.toList : List Nat))) = decide (c ≤ 57) := by
  rw [show (Str.ofString "9").cps.toList = [57] from by decide +kernel]
  show (!decide (([57] : List Nat) < [c])) = _
  rw [lt_one]
  by_cases h : 57 < c
  · rw [decide_eq_true h, decide_eq_false (by omega)]; rfl
  · rw [decide_eq_false h, decide_eq_true (by omega)]; rfl
theorem all_dig {w : List Nat} (h : w.all isDig = true) : NumText.AllDigits w := fun c hc => by
  have z := List.all_eq_true.mp h c hc
  unfold isDig at z
  rw [Bool.and_eq_true] at z
  exact ⟨of_decide_eq_true z.1, of_decide_eq_true z.2⟩
theorem read_dec {n : Nat} (h : n < 10 ^ 40) : readN (dec n) = some n := by
  unfold readN
  have h1 := dec_len (k := 40) (by decide) h
  have h0 : 1 ≤ (dec n).length := List.length_pos_iff.mpr (dec_ne n)
  have h2 : (dec n).all isDig = true := List.all_eq_true.mpr fun c hc => by
    have z := dec_digits n c hc
    unfold isDig
    rw [decide_eq_true z.1, decide_eq_true z.2]
    rfl
  rw [decide_eq_true h0, decide_eq_true h1, h2]
  have h3 : (decide ((dec n).head? = some 48) && decide (dec n ≠ [48])) = false := by
    rcases dec_head n with z | ⟨c, r, z, hc⟩
    · rw [z]; rfl
    · rw [z, decide_eq_false (by intro y; have := Option.some.inj y; omega)]; rfl
  rw [h3, dec_val]
  rfl
/-- numbers with blanks between -/
def blanks (ns : List Nat) : List Nat := TL.joinL [32] (ns.map dec)
/-- a coder's text -/
def wordsC (c : Cd) : List (List Nat) := [97, 116] :: dec c.1 :: [107, 110, 111, 119, 115] :: c.2.map dec
def showL (c : Cd) : List Nat := TL.joinL [32] (wordsC c)
theorem split_show (c : Cd) : TL.spl [32] 0 [] (showL c) = wordsC c := by
  refine SX.spl_join (c := 32) (sep := []) (List.cons_ne_nil _ _) fun p hp => ?_
  unfold wordsC at hp
  rcases List.mem_cons.mp hp with rfl | hp
  · decide
  rcases List.mem_cons.mp hp with rfl | hp
  · exact dec_noblank _
  rcases List.mem_cons.mp hp with rfl | hp
  · decide
  obtain ⟨n, _, rfl⟩ := List.mem_map.mp hp
  exact dec_noblank _
theorem show_inj {c d : Cd} (h : showL c = showL d) : c = d := by
  have z := congrArg (TL.spl [32] 0 []) h
  rw [split_show, split_show] at z
  unfold wordsC at z
  injection z with _ z
  injection z with z1 z
  injection z with _ z
  refine Prod.ext (dec_inj z1) ?_
  have z2 := congrArg (List.map NumText.digitsVal) z
  rw [List.map_map, List.map_map] at z2
  have e : ∀ l : List Nat, l.map (NumText.digitsVal ∘ dec) = l := fun l => by
    rw [show (NumText.digitsVal ∘ dec) = id from funext dec_val, List.map_id]
  rw [e, e] at z2
  exact z2
theorem show_cons (c : Cd) (h : c.2 ≠ []) : showL c = [97, 116, 32] ++ (dec c.1 ++ ([32, 107, 110, 111, 119, 115, 32] ++ blanks c.2)) := by
  obtain ⟨a, l⟩ := c
  cases l with
  | nil => exact absurd rfl h
  | cons b l =>
    unfold showL wordsC blanks
    simp only [List.map_cons, TL.joinL, List.append_assoc, List.cons_append, List.nil_append]
theorem joinL_len (ws : List (List Nat)) {B : Nat} (h : ∀ w ∈ ws, w.length ≤ B) : (TL.joinL [32] ws).length ≤ ws.length * (B + 1) := by
  match ws, h with
  | [], _ => exact Nat.zero_le _
  | [p], h =>
    have := h p List.mem_cons_self
    show p.length ≤ 1 * (B + 1)
    omega
  | p :: q :: r, h =>
    have h1 := h p List.mem_cons_self
    have h2 := joinL_len (q :: r) fun w hw => h w (List.mem_cons_of_mem _ hw)
    show (p ++ ([32] ++ TL.joinL [32] (q :: r))).length ≤ _
    rw [List.length_append, List.length_append]
    show p.length + (1 + _) ≤ (r.length + 1 + 1) * (B + 1)
    have e : (q :: r).length = r.length + 1 := rfl
    rw [e] at h2
    rw [Nat.succ_mul (r.length + 1)]
    omega
end Lk
end
section
set_option maxRecDepth 100000
set_option maxHeartbeats 2000000
/-! What is shown of lists of numbers tells them apart, from one another and from the law's other things. -/
namespace Lk
open PySem PySem.Spec PyProof.Rows L2
theorem sjoin_S (a : List Nat) (ys : List (List Nat)) : Str.join (SX.S a) (ys.map SX.S) = SX.S (TL.joinL a ys) := by
  have e := TL.tl_join (SX.S a) (ys.map SX.S)
  rw [SX.map_S_tl] at e
  exact TL.ext_tl e
theorem shownAll_dec : ∀ l : List Nat, PyData.shownAll (l.map dN) = (l.map dec).map SX.S
  | [] => by simp only [List.map_nil, PyData.shownAll]
  | a :: l => by
    simp only [List.map_cons, PyData.shownAll, shownAll_dec l]
    congr 1
    show PyData.shown (.int ((a : Nat) : Int)) = _
    rw [PyData.shown_int]
    exact str_dec a
theorem shown_nats (l : List Nat) : (PyData.list (l.map dN)).shown = SX.S (91 :: (TL.joinL [44, 32] (l.map dec) ++ [93])) := by
  simp only [PyData.shown]
  rw [listText_eq_join, shownAll_dec]
  have e1 : ((", " : String) : Str) = SX.S [44, 32] := by decide +kernel
  have e2 : (("[" : String) : Str) = SX.S [91] := by decide +kernel
  have e3 : (("]" : String) : Str) = SX.S [93] := by decide +kernel
  rw [e1, e2, e3, sjoin_S, SX.S_cat, SX.S_cat]
  rfl
def inT (c : Nat) : Bool := isDig c || (c == 44 || (c == 32 || c == 93))
def natT (t : Str) : Bool := match t.cps.toList with
  | c :: r => c == 91 && r.all inT
  | [] => false
theorem dec_inT (n : Nat) : (dec n).all inT = true := by
  rw [List.all_eq_true]
  intro c hc
  have z := dec_digits n c hc
  unfold inT isDig
  rw [decide_eq_true (show 48 ≤ c by omega), decide_eq_true (show c ≤ 57 by omega)]
  rfl
theorem join_inT : ∀ l : List Nat, (TL.joinL [44, 32] (l.map dec)).all inT = true
  | [] => rfl
  | [a] => dec_inT a
  | a :: b :: l => by
    show (dec a ++ ([44, 32] ++ TL.joinL [44, 32] ((b :: l).map dec))).all inT = true
    rw [List.all_append, List.all_append, dec_inT, join_inT (b :: l)]
    rfl
theorem natT_nats (l : List Nat) : natT (PyData.list (l.map dN)).shown = true := by
  rw [shown_nats]
  show ((91 : Nat) == 91 && (TL.joinL [44, 32] (l.map dec) ++ [93]).all inT) = true
  rw [List.all_append, join_inT]
  rfl
theorem comma_dec (n : Nat) : (44 : Nat) ∉ dec n := fun z => by
  have y := dec_digits n 44 z
  omega
theorem map_dec_inj : ∀ {l m : List Nat}, l.map dec = m.map dec → l = m
  | [], [], _ => rfl
  | [], _ :: _, h => by cases h
  | _ :: _, [], h => by cases h
  | a :: l, b :: m, h => by
    rw [List.map_cons, List.map_cons] at h
    injection h with h1 h2
    rw [dec_inj h1, map_dec_inj h2]
theorem joinL_ne (a : Nat) (l : List Nat) : TL.joinL [44, 32] ((a :: l).map dec) ≠ [] := by
  cases l with
  | nil => exact dec_ne a
  | cons b l =>
    intro z
    have z : dec a ++ ([44, 32] ++ TL.joinL [44, 32] ((b :: l).map dec)) = [] := z
    rw [List.append_eq_nil_iff] at z
    exact dec_ne a z.1
theorem nats_inj {l m : List Nat} (h : (PyData.list (l.map dN)).shown = (PyData.list (m.map dN)).shown) : l = m := by
  rw [shown_nats, shown_nats] at h
  have h := SX.S_inj h
  injection h with _ h
  have h := List.append_cancel_right h
  cases l with
  | nil =>
    cases m with
    | nil => rfl
    | cons b m => exact absurd h.symm (joinL_ne b m)
  | cons a l =>
    cases m with
    | nil => exact absurd h (joinL_ne a l)
    | cons b m =>
      have no : ∀ ks : List Nat, ∀ p ∈ ks.map dec, (44 : Nat) ∉ p := fun ks p hp => by
        obtain ⟨k, _, rfl⟩ := List.mem_map.mp hp
        exact comma_dec k
      have e1 := SX.spl_join (c := 44) (sep := [32]) (parts := (a :: l).map dec) (by simp) (no _)
      have e2 := SX.spl_join (c := 44) (sep := [32]) (parts := (b :: m).map dec) (by simp) (no _)
      rw [h, e2] at e1
      exact (map_dec_inj e1).symm
/-- a list of numbers, or a thing whose text is none of theirs; shown in small -/
def Oth (d : PyData) : Prop := ((∃ l : List Nat, d = .list (l.map dN)) ∨ natT d.shown = false) ∧ Good d
theorem Oth.eq {d : PyData} {l : List Nat} (h : Oth d) (e : d.shown = (PyData.list (l.map dN)).shown) : d = .list (l.map dN) := by
  rcases h.1 with ⟨m, rfl⟩ | n
  · rw [nats_inj e]
  · rw [e, natT_nats] at n
    cases n
theorem due_ring {c : Cd} {fs : List (List Nat)} {d : PyData} (f : Fnd c c.2.length fs) (o : Oth d) : (∃ r ∈ fs, d.shown = (PyData.list (r.map dN)).shown) ↔ ∃ a k, a < c.2.length ∧ RingK c a k ∧ d = .list ((ringL c a k).map dN) := by
  refine ⟨fun ⟨r, hr, e⟩ => ?_, fun ⟨a, k, ha, rk, e⟩ => ?_⟩
  · obtain ⟨a, k, ha, rk, er⟩ := (f.mem r).mp hr
    exact ⟨a, k, ha, rk, by rw [← er]; exact o.eq e⟩
  · exact ⟨_, (f.mem _).mpr ⟨a, k, ha, rk, rfl⟩, by rw [e]⟩
theorem oth_lst {t : List Nat} (h : ∀ x ∈ t, x ≤ 12) (l : t.length ≤ 30) : Oth (.list (t.map dN)) := ⟨.inl ⟨t, rfl⟩, good_lst (fun x hx => Nat.lt_of_le_of_lt (h x hx) (by decide +kernel)) l⟩
theorem natT_tup (ds : List PyData) : natT (PyData.tuple ds).shown = false := by
  simp only [PyData.shown]
  unfold tupleText
  have e2 : (("(" : String) : Str) = SX.S [40] := by decide +kernel
  rw [e2]
  generalize (Str.join ", " (PyData.shownAll ds)) = x
  generalize ((if (PyData.shownAll ds).length == 1 then ",)" else ")" : String) : Str) = y
  rw [← SX.S_tl x, ← SX.S_tl y, SX.S_cat, SX.S_cat]
  rfl
theorem oth_tup {t : List Nat} (h : ∀ x ∈ t, x ≤ 12) (l : t.length ≤ 30) : Oth (.tuple (t.map dN)) := ⟨.inr (natT_tup _), good_tup (fun x hx => Nat.lt_of_le_of_lt (h x hx) (by decide +kernel)) l⟩
theorem good_c {d : PyData} (h : (d.showable && (decide (d.depth ≤ 8) && decide (wt d ≤ 2000))) = true) : Good d := by
  simp only [Bool.and_eq_true, decide_eq_true_eq] at h
  exact ⟨h.1, h.2.1, h.2.2⟩
theorem oth_c {d : PyData} (h : (!natT d.shown && (d.showable && (decide (d.depth ≤ 8) && decide (wt d ≤ 2000)))) = true) : Oth d := by
  rw [Bool.and_eq_true, Bool.not_eq_true'] at h
  exact ⟨.inr h.1, good_c h.2⟩
theorem oth_none : Oth .none := oth_c (by decide +kernel)
theorem oth_m1 : Oth (.list [.int (-1)]) := oth_c (by decide +kernel)
theorem oth_ln : Oth (.list [.none]) := oth_c (by decide +kernel)
theorem oth_s0 : Oth (.str "0") := oth_c (by decide +kernel)
theorem oth_lt : Oth (.list [.bool true]) := oth_c (by decide +kernel)
theorem oth_l0 : Oth (.list [.list [.int 0]]) := oth_c (by decide +kernel)
theorem oth_ld : Oth (.list [.dict []]) := oth_c (by decide +kernel)
theorem oth_lt0 : Oth (.list [.tuple [.int 0]]) := oth_c (by decide +kernel)
theorem oth_d : Oth (.dict []) := oth_c (by decide +kernel)
theorem oth_0l : Oth (.list [.int 0, .list [.int 0]]) := oth_c (by decide +kernel)
theorem oth_ls : Oth (.list [.str ""]) := oth_c (by decide +kernel)
end Lk
end
section
set_option maxRecDepth 100000
set_option maxHeartbeats 2000000
/-! repr within a comprehension; xs[:0:-1]. -/
namespace Lk
open PySem PySem.Spec PyProof.Rows L2
theorem call_repK {X : Cx} {K : PySem.W.Frag} (h : X.K = K) (hg : X.A.guards = some []) (hu : X.A.units + 100 < cLine) : CallR X (.builtin "repr") (rRep K) := by
  subst h
  exact call_rep hg hu
theorem rev_down (n : Nat) : (List.range n).map (fun k => n - k) = ((List.range n).map fun k => 1 + k).reverse := by
  apply List.ext_getElem
  · simp
  · intro i h1 h2
    rw [List.length_map, List.length_range] at h1
    simp only [List.getElem_map, List.getElem_reverse, List.getElem_range, List.length_map, List.length_range]
    omega
theorem pick_down (items : Array Value) : slicePick items none (some 0) (some (-1)) = (items.toList.drop 1).reverse.toArray := by
  unfold slicePick
  by_cases z : items.size = 0
  · have e : items = #[] := Array.eq_empty_of_size_eq_zero z
    subst e
    rfl
  · obtain ⟨m, hm⟩ : ∃ m, items.size = m + 1 := ⟨items.size - 1, by omega⟩
    have b : sliceBounds none (some 0) (some (-1)) items.size = ((m : Int), 0, -1) := by
      rw [hm]
      simp only [sliceBounds, Option.getD_some]
      rw [if_neg (by decide), if_neg (by decide), if_neg (by decide)]
      refine Prod.ext (by show ((m + 1 : Nat) : Int) - 1 = m; omega) (Prod.ext ?_ rfl)
      show max (-1) (min (0 : Int) (((m + 1 : Nat) : Int) - 1)) = 0
      omega
    rw [b]
    have r : sliceRange (m : Int) 0 (-1) = (List.range m).map fun k => m - k := by
      unfold sliceRange
      have h1 : ¬ ((-1 : Int) > 0) := by decide
      by_cases h : (m : Int) > 0
      · have e : ((m : Int) - 0 - -1 - 1) / (- -1) = (m : Int) := by
          rw [show (- -1 : Int) = 1 by decide, Int.ediv_one]
          omega
        simp only [h1, if_false, h, if_true, e, Int.toNat_natCast]
        apply List.map_congr_left
        intro k hk
        have := List.mem_range.mp hk
        omega
      · have e : m = 0 := by omega
        subst e
        rfl
    show ((sliceRange (m : Int) 0 (-1)).filterMap (items[·]?)).toArray = _
    rw [r, rev_down, List.filterMap_reverse, pick_run, List.take_of_length_le (by rw [List.length_drop, Array.length_toList]; omega)]
def tDownL (K : PySem.W.Frag) (te : TE) : TE := fun σ H Q => te σ H fun x H1 => ∃ a xs, x = .ref a ∧ SqL K H1 a xs ∧ ∀ p, H1 p = none → Q (.ref p) (upd H1 p (.lst (xs.drop 1).reverse))
theorem Vals.drop1 {vs : List V} {us : List Value} (h : Vals vs us) : Vals (vs.drop 1) (us.drop 1) := by
  cases h with
  | nil => exact .nil
  | cons a b => exact b
theorem pe_downL {X : Cx} {e : Expr} {te : TE} {k k0 : Nat} {p0 p1 p2 p3 pos : Pos} (he : PE X e te) : PE X (.Subscript e (.Slice none (some (.Constant (.int 0) k0 p0)) (some (.UnaryOp .USub (.Constant (.int 1) k p1) p2)) p3) pos) (tDownL X.K te) := by
  refine ⟨fun pins s σ H Q I h => ?_⟩
  refine Subscript_ (thn (he.run pins s σ H _ I h) fun v s1 ⟨x, H1, I1, r1, q1⟩ => ?_)
  obtain ⟨a, xs, ex, hx, q⟩ := q1
  subst ex
  cases r1
  have hst : PO X (some (.UnaryOp .USub (.Constant (.int 1) k p1) p2)) (tPart (tUn (rU fun i => .int (-i)) (tC (.int 1)))) := po_some (pe_un un_neg pe_int)
  have hz0 : PO X (some (.Constant (.int 0) k0 p0)) (tPart (tC (.int 0))) := po_some pe_int
  refine wpAny_Slice (thn (po_none.run pins s1 σ H1 (fun o H2 => o = none ∧ H2 = H1) I1 ⟨rfl, rfl⟩) fun vl s2 ⟨l, H2, I2, pl, el, e2⟩ => ?_)
  subst el e2
  refine thn (hz0.run pins s2 σ H2 (fun o H3 => o = some 0 ∧ H3 = H2) I2 ⟨0, rfl, rfl, rfl⟩) fun vu s3 ⟨u, H3, I3, pu, eu, e3⟩ => ?_
  subst eu e3
  refine thn (hst.run pins s3 σ H3 (fun o H4 => o = some (-1) ∧ H4 = H3) I3 ⟨1, rfl, -1, rfl, rfl, rfl⟩) fun vs s4 ⟨o, H4, I4, ps, eo, e4⟩ => ?_
  subst eo e4
  have I5 : Inv X pins σ H4 { s4 with heap := s4.heap.push { cls := .type "slice", data := .fields #[vl, vu, vs] } } := I4.kept (t' := s4.toks) fun b ob q => Heap.get?_push_of_some _ q
  obtain ⟨its, r, ht, hz⟩ := I5.list hx
  have hlen := r.length
  show wpAny (model X.prog X.w) X.A (subscriptTail e (.Slice none (some (.Constant (.int 0) k0 p0)) (some (.UnaryOp .USub (.Constant (.int 1) k p1) p2)) p3) (.ref a) (.ref s4.heap.objs.size)) (EP X pins σ Q) X.xe { s4 with heap := s4.heap.push { cls := .type "slice", data := .fields #[vl, vu, vs] } }
  refine tail_any (ops := [.ref a, .ref s4.heap.objs.size]) ht.isList.typeIs (PySem.slot_list_getitem.lookup) ?_ (by with_unfolding_all rfl)
  refine wpAny_getItem_list_slice ht.isList (Heap.IsSliceOf.new _ vl vu vs) pl pu ps (by decide) ?_ (by rw [List.size_toArray]; omega)
  rw [pick_down]
  refine ⟨.ref _, _, I5.laid (t' := s4.toks) (o := .lst (xs.drop 1).reverse) (fun b ob q => Heap.get?_push_of_some _ q) (Nat.le_refl _) ?_, rfl, q _ (I5.hok.fresh (Nat.le_refl _))⟩
  exact ⟨by rw [List.length_reverse, List.length_drop]; omega, _, 0, (Vals.drop1 r).reverse, Heap.get?_push_size _ rfl⟩
/-- repr of data, also of a dict with nothing in it -/
def rRepD (K : PySem.W.Frag) : List V → Hp → VK → Prop := fun xs H Q => rRep K xs H Q ∨ ∃ a, xs = [.ref a] ∧ H a = some (.dK []) ∧ Q (.str (PyData.dict []).shown) H
theorem call_repD {X : Cx} (hg : X.A.guards = some []) (hu : X.A.units + 100 < cLine) : CallR X (.builtin "repr") (rRepD X.K) := by
  intro pins s σ H xs us Q I ru h
  rcases h with h | ⟨a, rfl, ha, q⟩
  · exact call_rep hg hu pins s σ H xs us Q I ru h
  · obtain ⟨u, rfl, r⟩ := vals1 ru
    clear ru
    cases r
    obtain ⟨_, far, vs, kv, o, es, ep, ho, ex, hd, _, hp, _⟩ := dk_of I.hok ha
    cases kv
    have e0 : es.toList = [] := List.eq_nil_of_length_eq_zero (by rw [hp.length]; rfl)
    obtain ⟨el⟩ := es
    dsimp only at e0
    subst e0
    refine call_repr_slot (by omega) ⟨o, ho, ex.1⟩ PySem.F.slot_dict_repr ?_
    refine call_dict_reprK (as := []) (d := 0) (ps := []) ho ex.1 hd far (fun q => nomatch q) .nil hg (fun b _ => Clear.nil b) (by show X.A.units + 1 + _ < cLine; omega) (fun _ _ e => e) (fun h2 u tk k => ?_) (by decide +kernel)
    refine ⟨_, _, rfl, ⟨.str _, H, I.kept k, ⟨_, rfl⟩, ?_⟩⟩
    simp only [PyData.shown, PyData.shownKv] at q
    exact q
end Lk
end
section
set_option maxRecDepth 100000
set_option maxHeartbeats 4000000
/-! The law's other things. -/
namespace Lk
open PySem PySem.Spec PyProof.Rows L2
abbrev nOt : List Str := ["bag", "coder", "rings", "p", "some", "one", "at", "k"]
def spOthers : Sp := fun vs H Q _ => ∃ (A F : Addr) (v : V) (c : Cd) (H0 : Hp) (us : List V) (fs : List (List Nat)), vs = [.ref A, v, .ref F] ∧ Bag H A ∧ Cat (rm A H) v c ∧ CdOk c ∧ rm A H F = some (.lst us) ∧ RowsV H0 (rm A H) us fs ∧ fs.length ≤ 12 ∧
  (∀ r ∈ fs, r ≠ [] ∧ r.length ≤ 12 ∧ ∀ x ∈ r, x ≤ 12) ∧
  ∀ S H' ts ds, Bag H' A → SameBut A H H' → H S = none → H' S = some (.lst ts) → ThAll (rm A H') ts ds → (∀ d ∈ ds, Oth d) → Q (.ref S) H'
/-- the things so far -/
def StO (A : Addr) (H : Hp) (us : List V) (ds : List PyData) (n : Nat) (S : Addr) (H1 : Hp) : Prop := Bag H1 A ∧ SameBut A H H1 ∧ H S = none ∧ S ≠ A ∧ H1 S = some (.lst us) ∧ ThAll (rm S (rm A H1)) us ds ∧ (∀ d ∈ ds, Oth d) ∧ us.length ≤ n
theorem StO.cat {A S S2 : Addr} {H H1 H2 H3 : Hp} {us ts : List V} {ds es : List PyData} {n : Nat} (st : StO A H us ds n S H1) (s : SameBut A H1 H2) (b : Bag H2 A) (th : ThAll (rm A H2) ts es) (o : ∀ e ∈ es, Oth e) (nS : H2 S2 = none) (s3 : Same H2 H3) (e3 : H3 S2 = some (.lst (us ++ ts))) : StO A H (us ++ ts) (ds ++ es) (n + ts.length) S2 H3 := by
  obtain ⟨b1, sb1, h1, h2, h3, h4, h5, h6⟩ := st
  have sa : S2 ≠ A := (b.ne nS).symm
  have sall : SameBut A H H3 := fun b o ne e => s3 _ _ (s b o ne (sb1 b o ne e))
  have up : ∀ {H4 : Hp}, Same H4 (rm A H2) → Same H4 (rm S2 (rm A H3)) := fun k b o e => by
    have z := k b o e
    have ne : b ≠ S2 := fun y => by
      rw [y, rm_none nS] at z
      cases z
    rw [rm_ne ne]
    exact rm_mono s3 _ _ z
  refine ⟨b.same s3, sall, ?_, sa, e3, ThAll.append (ThAll.same (up ?_) ds h4) (ThAll.same (up (Same.refl _)) es th), fun d hd => ?_, by rw [List.length_append]; omega⟩
  · cases z : H S2 with
    | none => rfl
    | some x =>
      have y := s _ _ sa (sb1 _ _ sa z)
      rw [nS] at y
      cases y
  · intro b o e
    have ne : b ≠ S := fun y => by
      rw [y] at e
      unfold rm at e
      rw [if_pos rfl] at e
      cases e
    rw [rm_ne ne] at e
    exact rm_but s b o e
  · rcases List.mem_append.mp hd with z | z
    · exact h5 d z
    · exact o d z
theorem StO.push {A S : Addr} {H H1 H2 : Hp} {us : List V} {ds : List PyData} {n : Nat} {u : V} {d : PyData} (st : StO A H us ds n S H1) (s : SameBut A H1 H2) (b : Bag H2 A) (th : Th (rm S (rm A H2)) u d) (o : Oth d) : StO A H (us ++ [u]) (ds ++ [d]) (n + 1) S (upd H2 S (.lst (us ++ [u]))) := by
  obtain ⟨⟨b0, b1⟩, sb1, h1, h2, h3, h4, h5, h6⟩ := st
  obtain ⟨bb, eb⟩ := b
  refine ⟨⟨bb, by rw [upd_ne h2.symm]; exact eb⟩, fun b o ne e => ?_, h1, h2, upd_same, ?_, fun d hd => ?_, by rw [List.length_append]; show _ + 1 ≤ _; omega⟩
  · have nS : b ≠ S := fun y => by rw [y, h1] at e; cases e
    rw [upd_ne nS]
    exact s b o ne (sb1 b o ne e)
  · have k : Same (rm S (rm A H2)) (rm S (rm A (upd H2 S (.lst (us ++ [u]))))) := rm_upd2
    refine ThAll.append (ThAll.same ?_ ds h4) (.cons (Th.same k _ th) .nil)
    exact fun b o e => k b o (rm_mono (rm_but s) b o e)
  · rcases List.mem_append.mp hd with z | z
    · exact h5 d z
    · rw [List.mem_singleton.mp z]; exact o
theorem StO.new {A S : Addr} {H H2 H3 : Hp} {ts : List V} {es : List PyData} {n : Nat} (b : Bag H A) (s : Same H H2) (th : ThAll (rm A H2) ts es) (o : ∀ e ∈ es, Oth e) (nS : H2 S = none) (s3 : Same H2 H3) (e3 : H3 S = some (.lst ts)) (l : ts.length ≤ n) : StO A H ts es n S H3 := by
  have nH := s.free nS
  have ne := b.ne nH
  refine ⟨b.same (s.trans s3), but_of (s.trans s3), nH, ne.symm, e3, ThAll.same (fun x y e => ?_) es th, o, l⟩
  have nb : x ≠ S := fun z => by
    rw [z, rm_none nS] at e
    cases e
  rw [rm_ne nb]
  exact rm_mono s3 _ _ e
theorem oth_nil : ∀ d ∈ ([] : List PyData), Oth d := fun _ h => nomatch h
theorem oth_cons {d : PyData} {ds : List PyData} (h : Oth d) (t : ∀ e ∈ ds, Oth e) : ∀ e ∈ d :: ds, Oth e := fun e he => by
  rcases List.mem_cons.mp he with z | z
  · rw [z]; exact h
  · exact t e z
theorem le_one {k : Nat} (h : k ≤ 12) : ∀ x ∈ [k], x ≤ 12 := fun x hx => by rw [List.mem_singleton.mp hx]; exact h
/-- a few numbers -/
def NL (m : Nat) (xs : List V) : Prop := ∃ l : List Nat, xs = l.map vN ∧ l.length ≤ m ∧ ∀ x ∈ l, x ≤ 12
theorem NL.one {k : Nat} (h : k ≤ 12) : NL 1 [vN k] := ⟨[k], rfl, Nat.le_refl _, le_one h⟩
theorem NL.app {m k : Nat} {xs ys : List V} : NL m xs → NL k ys → NL (m + k) (xs ++ ys)
  | ⟨l, e, h, a⟩, ⟨l2, e2, h2, a2⟩ => ⟨l ++ l2, by rw [e, e2, List.map_append], by rw [List.length_append]; omega, fun x hx => (List.mem_append.mp hx).elim (a x) (a2 x)⟩
theorem NL.cut {m : Nat} {xs : List V} {lo hi : Option Int} : NL m xs → NL m (cutV xs lo hi)
  | ⟨l, e, h, a⟩ => by
    subst e
    unfold cutV
    rw [← List.map_drop, ← List.map_take]
    exact ⟨_, rfl, by rw [List.length_take, List.length_drop]; omega, fun x hx => a x (List.mem_of_mem_drop (List.mem_of_mem_take hx))⟩
theorem NL.rev {m : Nat} {xs : List V} : NL m xs → NL m xs.reverse
  | ⟨l, e, h, a⟩ => ⟨l.reverse, by rw [e, List.map_reverse], by rw [List.length_reverse]; exact h, fun x hx => a x (List.mem_reverse.mp hx)⟩
theorem NL.drop {m k : Nat} {xs : List V} : NL m xs → NL m (xs.drop k)
  | ⟨l, e, h, a⟩ => ⟨l.drop k, by rw [e, List.map_drop], by rw [List.length_drop]; omega, fun x hx => a x (List.mem_of_mem_drop hx)⟩
theorem NL.len {m : Nat} {xs : List V} : NL m xs → xs.length ≤ m
  | ⟨l, e, h, _⟩ => by rw [e, List.length_map]; exact h
theorem NL.ints {m : Nat} {xs : List V} : NL m xs → ∃ ns : List Int, xs = ns.map V.int ∧ ns.length ≤ m ∧ ∀ ns' : List Int, ns'.Perm ns → NL m (ns'.map V.int)
  | ⟨l, e, h, a⟩ => by
    refine ⟨l.map fun x : Nat => (x : Int), by rw [e, List.map_map]; rfl, by rw [List.length_map]; exact h, fun ns' p => ?_⟩
    have pl := p.length_eq
    rw [List.length_map] at pl
    refine ⟨ns'.map Int.toNat, ?_, by rw [List.length_map]; omega, fun x hx => ?_⟩
    · rw [List.map_map]
      refine List.map_congr_left fun n hn => ?_
      obtain ⟨k, _, rfl⟩ := List.mem_map.mp (p.mem_iff.mp hn)
      rfl
    · obtain ⟨n, hn, rfl⟩ := List.mem_map.mp hx
      obtain ⟨k, hk, rfl⟩ := List.mem_map.mp (p.mem_iff.mp hn)
      exact a k hk
/-- a thing of the law's -/
def ThO (H : Hp) (v : V) : Prop := ∃ d, Th H v d ∧ Oth d
def Each (H : Hp) (vs : List V) : Prop := ∃ ds, ThAll H vs ds ∧ ∀ d ∈ ds, Oth d
theorem Each.nil {H : Hp} : Each H [] := ⟨[], .nil, oth_nil⟩
theorem Each.cons {H : Hp} {v : V} {vs : List V} : ThO H v → Each H vs → Each H (v :: vs)
  | ⟨d, t, o⟩, ⟨ds, m, os⟩ => ⟨d :: ds, .cons t m, oth_cons o os⟩
theorem NL.th {B p : Addr} {H : Hp} {m : Nat} {xs : List V} (ne : p ≠ B) (e : H p = some (.lst xs)) (n : NL m xs) (h : m ≤ 30) : ThO (rm B H) (.ref p) := by
  obtain ⟨l, rfl, hl, a⟩ := n
  exact ⟨_, th_lst ne e (ints_nat l), oth_lst a (by omega)⟩
theorem NL.tt {B p : Addr} {H : Hp} {m : Nat} {xs : List V} (ne : p ≠ B) (e : H p = some (.tup xs)) (n : NL m xs) (h : m ≤ 30) : ThO (rm B H) (.ref p) := by
  obtain ⟨l, rfl, hl, a⟩ := n
  exact ⟨_, .tup (by rw [rm_ne ne]; exact e) (ints_nat l), oth_tup a (by omega)⟩
theorem slN {K : PySem.W.Frag} {p : Addr} {H : Hp} {m : Nat} {xs : List V} {lo hi : Option Int} {Q : VK} (e : H p = some (.lst xs)) (n : NL m xs) (k : ∀ S H' ys, H S = none → Same H H' → H' S = some (.lst ys) → NL m ys → Q (.ref S) H') : rSlL K (.ref p) lo hi H Q :=
  ⟨p, xs, rfl, SqL.of e, fun S nS => k S _ _ nS (same_new nS) upd_same n.cut⟩
theorem catN {p q : Addr} {H : Hp} {m j : Nat} {xs zs : List V} {Q : VK} (e : H p = some (.lst xs)) (e2 : H q = some (.lst zs)) (n : NL m xs) (n2 : NL j zs) (h : m + j ≤ 100) (k : ∀ S H' ys, H S = none → Same H H' → H' S = some (.lst ys) → NL (m + j) ys → Q (.ref S) H') : rCatS (.ref p) (.ref q) H Q :=
  ⟨p, q, xs, zs, rfl, rfl, e, e2, by have := n.len; have := n2.len; rw [sizeLine_eq]; omega, fun S H' nS s e => k S H' _ nS s e (n.app n2)⟩
theorem sortN {K : PySem.W.Frag} {p : Addr} {H : Hp} {m : Nat} {xs : List V} {Q : VK} (e : H p = some (.lst xs)) (n : NL m xs) (h : m < 64) (k : ∀ S H' ys, H S = none → Same H H' → H' S = some (.lst ys) → NL m ys → Q (.ref S) H') : rSorted K [.ref p] H Q := by
  obtain ⟨ns, rfl, hl, a⟩ := n.ints
  exact ⟨p, ns, rfl, SqL.of e, by omega, fun ns' S pm _ nS => k S _ _ nS (same_new nS) upd_same (a ns' pm)⟩
theorem rm_at {B p : Addr} {H : Hp} {o : HO} (h : rm B H p = some o) : p ≠ B ∧ H p = some o := by
  have ne : p ≠ B := fun z => by
    rw [z] at h
    unfold rm at h
    rw [if_pos rfl] at h
    cases h
  exact ⟨ne, by rw [rm_ne ne] at h; exact h⟩
section
variable {P : Program} {w : World} {K : PySem.W.Frag} {mg : Str → Option Value} {base : Heap}
theorem sc_others : FnScope nOt ["bag", "coder", "rings"] (defScope s_law_others) := ⟨rfl, rfl, rfl, by decide +kernel, rfl, by decide +kernel, by decide +kernel⟩
theorem ok_others {f : Addr} {fd : FuncData} (F : Fun K "_law_others" "_law_others" s_law_others f fd) (wy : C8.Cal P w K mg base 1 "_law_ways" spWays []) (pick : C8.Cal P w K mg base 1 "_law_pick" spPick []) (ml : mg "len" = none) (mr : mg "range" = none) (mt : mg "tuple" = none) (mi : mg "list" = none) (ms : mg "sorted" = none) : FnOk P w K mg base CX0 2 f fd ["bag", "coder", "rings"] spOthers := by
  refine F.ok sc_others (fun vs H Q E h => ?_) (fun cdv A outer s H vs Q E hr h => ?_)
  · obtain ⟨A, F, v, c, H0, us, fs, rfl, _⟩ := h
    rfl
  · obtain ⟨B, FO, v, c, H0, us, fs, rfl, hb, cat, hc, hF, rv, fl, fr, q⟩ := h
    have nd := sc_others.nd
    refine ⟨_, (pss_cons (by exact (ps_set (i := 3) nd rfl (Or.inr rfl) (pe_callB call_len_seq (by rfl) ml PySem.boot_len (pa_cons (pe_ix ix_tup (pv 1) pe_int (fun _ _ => rfl)) pa_nil))))
      (C8.pss_cut (by exact (ps_set (i := 4) nd rfl (Or.inl rfl) (pe_lstS (pa_cons (pe_lstS pa_nil) (pa_cons (pe_lstS (pa_cons (pe_ix ix_tup (pv 1) pe_int (fun _ _ => rfl)) pa_nil)) (pa_cons pe_non (pa_cons (pe_tupS pa_nil) (pa_cons (pe_lstS (pa_cons (pv 3) pa_nil)) (pa_cons (pe_lstS (pa_cons (pe_un un_neg pe_int) pa_nil)) (pa_cons (pe_lstS (pa_cons pe_non pa_nil)) (pa_cons pe_str (pa_cons (pe_lstS (pa_cons pe_bl pa_nil)) (pa_cons (pe_lstS (pa_cons (pe_ix ix_tup (pv 1) pe_int (fun _ _ => rfl)) (pa_cons pe_int pa_nil))) (pa_cons (pe_listRg rfl (by rfl) mi (prg_1 (by rfl) mr (pv 3))) (pa_cons (C8.pe_c wy hr (by decide) rfl (pa_cons (pv 1) pa_nil)) pa_nil)))))))))))))))
      (C8.pss_cut (by exact (ps_set (i := 4) nd rfl (Or.inl rfl) (pe_op op_catS (pv 4) (pe_lstS (pa_cons (pe_lstS (pa_cons (pe_lstS (pa_cons pe_int pa_nil)) pa_nil)) (pa_cons (pe_lstS (pa_cons pe_dnewK pa_nil)) (pa_cons (pe_lstS (pa_cons (pe_tupS (pa_cons pe_int pa_nil)) pa_nil)) (pa_cons pe_dnewK (pa_cons (pe_lstS (pa_cons pe_int (pa_cons (pe_lstS (pa_cons pe_int pa_nil)) pa_nil))) (pa_cons (pe_lstS (pa_cons pe_str pa_nil)) pa_nil))))))))))
      (pss_cons (by exact (ps_for PassesOwn.never rfl (pi_list (pv 2)) (pg_name (i := 5) nd rfl (Or.inl rfl)) (pss_cons (by exact (ps_set (i := 6) nd rfl (Or.inl rfl) (C8.pe_c pick hr (by decide) rfl (pa_cons (pv 0) (pa_cons (pe_callB call_len_seq (by rfl) ml PySem.boot_len (pa_cons (pv 5) pa_nil)) pa_nil)))))
      (C8.pss_cut (by exact (ps_set (i := 4) nd rfl (Or.inl rfl) (pe_op op_catS (pv 4) (pe_lstS (pa_cons (pv 5) (pa_cons (pe_op op_catS (pe_slice sl_list (pv 5) (po_some pe_int) po_none) (pe_slice sl_list (pv 5) po_none (po_some pe_int))) (pa_cons (pe_op op_catS (pv 5) (pv 5)) (pa_cons (pe_callTy call_tupS (by rfl) mt (by decide +kernel) (pa_cons (pv 5) pa_nil)) (pa_cons (pe_slice sl_list (pv 5) po_none (po_some (pe_un un_neg pe_int))) (pa_cons (pe_op op_catS (pv 5) (pe_lstS (pa_cons (pe_ix ix_tup (pv 1) pe_int (fun _ _ => rfl)) pa_nil))) pa_nil))))))))))
      (pss_cons (by exact (ps_expr (pe_bm PySem.F.plainAttrs_list PySem.F.slot_list_append PySem.F.type_list_append mt_append (pv 4) (pa_cons (pe_op op_catS (pe_op op_catS (pe_slice sl_list (pv 5) po_none (po_some (pv 6))) (pe_lstS (pa_cons (C8.pe_c pick hr (by decide) rfl (pa_cons (pv 0) (pa_cons (pv 3) pa_nil))) pa_nil))) (pe_slice sl_list (pv 5) (po_some (pe_op op_add (pv 6) pe_int)) po_none)) pa_nil))))
      (pss_one (by exact (ps_set (i := 4) nd rfl (Or.inl rfl) (pe_op op_catS (pv 4) (pe_lstS (pa_cons (pe_callB cr_sorted (by rfl) ms (by decide +kernel) (pa_cons (pv 5) pa_nil)) (pa_cons (pe_revL (pv 5)) (pa_cons (pe_op op_catS (pe_slice sl_list (pv 5) po_none (po_some pe_int)) (pe_downL (pv 5))) (pa_cons (pe_op op_catS (pe_slice sl_list (pv 5) po_none (po_some pe_int)) (pe_callB cr_sorted (by rfl) ms (by decide +kernel) (pa_cons (pe_slice sl_list (pv 5) (po_some pe_int) po_none) pa_nil))) pa_nil))))))))))))))
      (pss_one (by exact (ps_ret (pe_op op_catS (pv 4) (pe_lstS (pa_cons (pe_lc (own := [("k", 7)]) (g := (gName 7)) (tt := tYes) rfl nd (pi_range1 (by rfl) mr (pa_cons (pe_op op_add pe_int (C8.pe_c pick hr (by decide) rfl (pa_cons (pv 0) (pa_cons (pv 3) pa_nil)))) pa_nil)) (blkOk_by (N := nOt) (sc := defScope s_law_others) (by decide +kernel)) (fun _ _ _ _ _ => (pg_name (i := 7) nd rfl (Or.inl rfl))) (fun _ _ _ _ _ => pts_nil) (fun _ _ _ _ _ => (C8.pe_c pick hr (by decide) rfl (pa_cons (pv 0) (pa_cons (pv 3) pa_nil))))) pa_nil)))))))))), ?_⟩
    obtain ⟨a, b, rfl, ha', hb'⟩ := id cat
    have ha := rm_same _ _ ha'
    have hbb := rm_same _ _ hb'
    have h12 := hc.2
    have hp := hc.pos
    have hB0 := hb
    refine ⟨_, rfl, a, _, ((1 : Nat) : Int), .ref b, rfl, rfl, SqT.of ha, atI_nat rfl, b, _, rfl, .inr (SqT.of hbb), ?_⟩
    rw [List.length_map]
    refine ⟨fun σ' H' => ∃ S ts ds, σ' = [some (.ref B), some (.ref a), some (.ref FO), some (.int (c.2.length : Int)), some (.ref S), none, none, none] ∧ StO B H ts ds 12 S H', ?_, ?_⟩
    · refine ⟨(by show 0 ≤ sizeLine; exact Nat.zero_le _), fun t1 G1 m1 w1 e1 => ?_⟩
      refine ⟨_, rfl, a, _, ((0 : Nat) : Int), _, rfl, rfl, SqT.of (w1 _ _ ha), atI_nat rfl, (by show 1 ≤ sizeLine; decide), fun t2 G2 m2 w2 e2 => ?_⟩
      refine ⟨(by show 0 ≤ sizeLine; exact Nat.zero_le _), fun t3 G3 m3 w3 e3 => ?_⟩
      refine ⟨_, rfl, (by show 1 ≤ sizeLine; decide), fun t4 G4 m4 w4 e4 => ?_⟩
      refine ⟨_, rfl, (by show 1 ≤ sizeLine; decide), fun t5 G5 m5 w5 e5 => ?_⟩
      refine ⟨(by show 1 ≤ sizeLine; decide), fun t6 G6 m6 w6 e6 => ⟨(by show 1 ≤ sizeLine; decide), fun t7 G7 m7 w7 e7 => ?_⟩⟩
      have g7 : Same H G7 := Same.trans w1 (Same.trans w2 (Same.trans w3 (Same.trans w4 (Same.trans w5 (Same.trans w6 w7)))))
      refine ⟨_, rfl, a, _, ((0 : Nat) : Int), _, rfl, rfl, SqT.of (g7 _ _ ha), atI_nat rfl, (by show 2 ≤ sizeLine; decide), fun t8 G8 m8 w8 e8 => ?_⟩
      refine ⟨_, rfl, (c.2.length : Int), rfl, RgOk.of_le (by decide) (by omega) (by decide) (by omega), fun t9 m9 => ?_⟩
      have w9 := same_new (o := .lst (rgV 0 (c.2.length : Int))) m9
      have e9 : upd G8 t9 (.lst (rgV 0 (c.2.length : Int))) t9 = some (.lst (rgV 0 (c.2.length : Int))) := upd_same
      have er : rgV 0 (c.2.length : Int) = (List.range c.2.length).map vN := by
        unfold rgV
        rw [show ((c.2.length : Int) - 0).toNat = c.2.length by omega]
        refine List.map_congr_left fun i _ => ?_
        show V.int (0 + (i : Int)) = V.int (i : Int)
        rw [Int.zero_add]
      rw [er] at w9 e9 ⊢
      generalize upd G8 t9 (.lst ((List.range c.2.length).map vN)) = G9 at w9 e9 ⊢
      have g9 : Same H G9 := Same.trans g7 (Same.trans w8 w9)
      refine ⟨_, rfl, .ref a, c, rfl, ⟨a, b, rfl, g9 _ _ ha, g9 _ _ hbb⟩, hc, fun t10 G10 m10 w10 e10 => ?_⟩
      refine ⟨(by show 12 ≤ sizeLine; decide), fun S G11 m11 w11 e11 => ?_⟩
      have c9 := w10
      have c8 : Same G8 G10 := Same.trans w9 c9
      have c7 : Same G7 G10 := Same.trans w8 c8
      have c6 : Same G6 G10 := Same.trans w7 c7
      have c5 : Same G5 G10 := Same.trans w6 c6
      have c4 : Same G4 G10 := Same.trans w5 c5
      have c3 : Same G3 G10 := Same.trans w4 c4
      have c2 : Same G2 G10 := Same.trans w3 c3
      have c1 : Same G1 G10 := Same.trans w2 c2
      have c0 : Same H G10 := Same.trans w1 c1
      have d1 : Same H G1 := w1
      have d2 : Same H G2 := d1.trans w2
      have d3 : Same H G3 := d2.trans w3
      have d4 : Same H G4 := d3.trans w4
      have d5 : Same H G5 := d4.trans w5
      have d6 : Same H G6 := d5.trans w6
      have d8 : Same H G8 := g7.trans w8
      have nb : ∀ {t : Addr}, H t = none → t ≠ B := fun n => (hb.ne n).symm
      refine ⟨S, _, [.list (([] : List Nat).map dN), .list ([c.1].map dN), .none, .tuple (([] : List Nat).map dN), .list ([c.2.length].map dN), .list [.int (-1)], .list [.none], .str "0", .list [.bool true], .list ([c.1, 0].map dN), .list ((List.range c.2.length).map dN), .list ((gos c).map dN)], rfl, StO.new hb c0 ?_ ?_ m11 w11 e11 (Nat.le_refl _)⟩
      · refine .cons (th_lst (nb m1) (c1 _ _ e1) (ints_nat [])) (.cons (th_lst (nb (d1.free m2)) (c2 _ _ e2) (ints_nat [c.1])) (.cons .non (.cons (.tup (by rw [rm_ne (nb (d2.free m3))]; exact c3 _ _ e3) (ints_nat [])) (.cons (th_lst (nb (d3.free m4)) (c4 _ _ e4) (ints_nat [c.2.length])) ?_))))
        refine .cons (th_lst (nb (d4.free m5)) (c5 _ _ e5) (.cons (.int _) .nil)) (.cons (th_lst (nb (d5.free m6)) (c6 _ _ e6) (.cons .non .nil)) (.cons (.str _) (.cons (th_lst (nb (d6.free m7)) (c7 _ _ e7) (.cons (.bl _) .nil)) ?_)))
        exact .cons (th_lst (nb (g7.free m8)) (c8 _ _ e8) (ints_nat [c.1, 0])) (.cons (th_lst (nb (d8.free m9)) (c9 _ _ e9) (ints_nat _)) (.cons (th_lst (nb (g9.free m10)) e10 (ints_nat _)) .nil))
      · have h1 : c.1 ≤ 12 := by
          have : c.1 < c.2.length := hc.1
          omega
        refine oth_cons (oth_lst (fun _ h => nomatch h) (by decide)) (oth_cons (oth_lst (le_one h1) (Nat.le_of_ble_eq_true rfl)) (oth_cons oth_none (oth_cons (oth_tup (fun _ h => nomatch h) (by decide)) (oth_cons (oth_lst (le_one h12) (Nat.le_of_ble_eq_true rfl)) (oth_cons oth_m1 (oth_cons oth_ln (oth_cons oth_s0 (oth_cons oth_lt (oth_cons (oth_lst (fun x hx => ?_) (Nat.le_of_ble_eq_true rfl)) (oth_cons (oth_lst (fun x hx => ?_) (by rw [List.length_range]; omega)) (oth_cons (oth_lst (fun x hx => ?_) (by rw [gos_len]; omega)) oth_nil)))))))))))
        · simp at hx; omega
        · have := List.mem_range.mp hx; omega
        · obtain ⟨i, hi⟩ := List.mem_iff_getElem?.mp hx
          have z := (List.getElem?_eq_some_iff.mp hi).1
          rw [gos_len] at z
          rw [gos_at z] at hi
          cases hi
          have := go_lt hc.1 i
          omega
    rintro σ1 HA ⟨S, ts, ds, rfl, st⟩
    refine ⟨fun σ' H' => ∃ S ts ds, σ' = [some (.ref B), some (.ref a), some (.ref FO), some (.int (c.2.length : Int)), some (.ref S), none, none, none] ∧ StO B H ts ds 18 S H', ?_, ?_⟩
    · refine ⟨_, rfl, (by show 1 ≤ sizeLine; decide), fun t1 G1 m1 w1 e1 => ?_⟩
      refine ⟨(by show 1 ≤ sizeLine; decide), fun t2 G2 m2 w2 e2 => ?_⟩
      intro t3 m3
      have w3 := same_new (o := .dK []) m3
      have e3 : upd G2 t3 (.dK []) t3 = some (.dK []) := upd_same
      generalize upd G2 t3 (.dK []) = G3 at w3 e3 ⊢
      refine ⟨(by show 1 ≤ sizeLine; decide), fun t4 G4 m4 w4 e4 => ?_⟩
      refine ⟨(by show 1 ≤ sizeLine; decide), fun t5 G5 m5 w5 e5 => ⟨(by show 1 ≤ sizeLine; decide), fun t6 G6 m6 w6 e6 => ?_⟩⟩
      intro t7 m7
      have w7 := same_new (o := .dK []) m7
      have e7 : upd G6 t7 (.dK []) t7 = some (.dK []) := upd_same
      generalize upd G6 t7 (.dK []) = G7 at w7 e7 ⊢
      refine ⟨(by show 1 ≤ sizeLine; decide), fun t8 G8 m8 w8 e8 => ⟨(by show 2 ≤ sizeLine; decide), fun t9 G9 m9 w9 e9 => ?_⟩⟩
      refine ⟨(by show 1 ≤ sizeLine; decide), fun t10 G10 m10 w10 e10 => ⟨(by show 6 ≤ sizeLine; decide), fun L G11 m11 w11 e11 => ?_⟩⟩
      have c10 := w11
      have c9 : Same G9 G11 := Same.trans w10 c10
      have c8 : Same G8 G11 := Same.trans w9 c9
      have c7 : Same G7 G11 := Same.trans w8 c8
      have c6 : Same G6 G11 := Same.trans w7 c7
      have c5 : Same G5 G11 := Same.trans w6 c6
      have c4 : Same G4 G11 := Same.trans w5 c5
      have c3 : Same G3 G11 := Same.trans w4 c4
      have c2 : Same G2 G11 := Same.trans w3 c3
      have c1 : Same G1 G11 := Same.trans w2 c2
      have c0 : Same HA G11 := Same.trans w1 c1
      have d1 : Same HA G1 := w1
      have d2 : Same HA G2 := d1.trans w2
      have d3 : Same HA G3 := d2.trans w3
      have d4 : Same HA G4 := d3.trans w4
      have d5 : Same HA G5 := d4.trans w5
      have d6 : Same HA G6 := d5.trans w6
      have d7 : Same HA G7 := d6.trans w7
      have d8 : Same HA G8 := d7.trans w8
      have d9 : Same HA G9 := d8.trans w9
      have bA := st.1
      have nb : ∀ {t : Addr}, HA t = none → t ≠ B := fun n => (bA.ne n).symm
      have l1 := st.2.2.2.2.2.2.2
      have eS := st.2.2.2.2.1
      refine ⟨S, L, _, _, rfl, rfl, c0 _ _ eS, e11, ?_, fun S2 G12 nS2 w12 e12 => ?_⟩
      · show ts.length + 6 ≤ sizeLine
        rw [sizeLine_eq]
        omega
      refine ⟨S2, _, _, rfl, StO.cat st (but_of c0) (bA.same c0) (es := [.list [.list [.int 0]], .list [.dict []], .list [.tuple [.int 0]], .dict [], .list [.int 0, .list [.int 0]], .list [.str ""]]) ?_ ?_ nS2 w12 e12⟩
      · refine .cons (th_lst (nb (d1.free m2)) (c2 _ _ e2) (.cons (th_lst (nb m1) (c1 _ _ e1) (.cons (.int _) .nil)) .nil)) (.cons (th_lst (nb (d3.free m4)) (c4 _ _ e4) (.cons (th_dct (nb (d2.free m3)) (c3 _ _ e3)) .nil)) ?_)
        refine .cons (th_lst (nb (d5.free m6)) (c6 _ _ e6) (.cons (.tup (by rw [rm_ne (nb (d4.free m5))]; exact c5 _ _ e5) (.cons (.int _) .nil)) .nil)) (.cons (th_dct (nb (d6.free m7)) (c7 _ _ e7)) ?_)
        exact .cons (th_lst (nb (d8.free m9)) (c9 _ _ e9) (.cons (.int _) (.cons (th_lst (nb (d7.free m8)) (c8 _ _ e8) (.cons (.int _) .nil)) .nil))) (.cons (th_lst (nb (d9.free m10)) (c10 _ _ e10) (.cons (.str _) .nil)) .nil)
      · exact oth_cons oth_l0 (oth_cons oth_ld (oth_cons oth_lt0 (oth_cons oth_d (oth_cons oth_0l (oth_cons oth_ls oth_nil)))))
    clear st ts ds S
    rintro σ1 HA1 ⟨S, ts, ds, rfl, st⟩
    obtain ⟨neF, eF⟩ := rm_at hF
    have eF1 := st.2.1 _ _ neF eF
    have ul := rv.len
    refine ⟨_, rfl, FO, rfl, ⟨_, SqL.of eF1⟩, for_list (K := K) (a := FO) (xs := us) (fun i σ H1 => ∃ S ts ds y5 y6, σ = [some (.ref B), some (.ref a), some (.ref FO), some (.int (c.2.length : Int)), some (.ref S), y5, y6, none] ∧ StO B H ts ds (18 + 11 * i) S H1) ⟨S, ts, ds, none, none, rfl, st⟩ (fun i σ H1 _ h => by
      obtain ⟨_, _, _, _, _, _, st⟩ := h
      exact SqL.of (st.2.1 _ _ neF eF)) ?_ ?_⟩
    · clear st ts ds S eF1 HA1 HA
      rintro i x σ H1 hx ⟨S, ts, ds, y5, y6, rfl, st⟩
      have hi := (List.getElem?_eq_some_iff.mp hx).1
      obtain ⟨r, p1, hr', rfl, _, ep⟩ := rv.at hx
      obtain ⟨np, ep0⟩ := rm_at ep
      obtain ⟨rne, r12, ra⟩ := fr r (List.mem_of_getElem? hr')
      have rpos : 0 < r.length := List.length_pos_iff.mpr rne
      have ep1 := st.2.1 _ _ np ep0
      have nr : NL 12 (r.map vN) := ⟨r, rfl, r12, ra⟩
      have big : (12 : Int) ≤ 10 ^ 40 := by decide
      refine ⟨_, rfl, _, rfl, p1, _, rfl, .inl (SqL.of ep1), B, (r.length : Int), by rw [List.length_map]; rfl, st.1, by omega, by omega, fun av H2 av0 av1 b2 sb2 => ?_⟩
      have ep2 := sb2 _ _ np ep1
      refine ⟨fun σ' H' => ∃ S ts ds, σ' = [some (.ref B), some (.ref a), some (.ref FO), some (.int (c.2.length : Int)), some (.ref S), some (.ref p1), some (.int av), none] ∧ StO B H ts ds (18 + 11 * i + 6) S H', ?_, ?_⟩
      · refine ⟨_, rfl, _, rfl, _, rfl, _, rfl, ?_⟩
        try dsimp only [tNoPart, tNil]
        refine slN ep2 nr fun t1 G1 y1 m1 w1 e1 z1 => ?_
        refine ⟨_, rfl, _, rfl, ?_⟩
        try dsimp only [tNoPart, tNil]
        refine slN (w1 _ _ ep2) nr fun t2 G2 y2 m2 w2 e2 z2 => ?_
        try dsimp only [tNoPart, tNil]
        refine catN (w2 _ _ e1) e2 z1 z2 (by decide) fun t3 G3 y3 m3 w3 e3 z3 => ?_
        have ep3 := w3 _ _ (w2 _ _ (w1 _ _ ep2))
        refine ⟨_, rfl, _, rfl, ?_⟩
        try dsimp only [tNoPart, tNil]
        refine catN ep3 ep3 nr nr (by decide) fun t4 G4 y4 m4 w4 e4 z4 => ?_
        refine ⟨_, rfl, p1, _, rfl, .inl ⟨w4 _ _ ep3, fun t5 G5 m5 w5 e5 => ?_⟩⟩
        refine ⟨_, rfl, _, rfl, _, rfl, ?_⟩
        try dsimp only [tNoPart, tNil]
        refine slN (w5 _ _ (w4 _ _ ep3)) nr fun t6 G6 u6 m6 w6 e6 z6 => ?_
        have h1 : c.1 ≤ 12 := by
          have : c.1 < c.2.length := hc.1
          omega
        have bb := st.1
        have d1 : SameBut B H1 G1 := fun b o ne e => w1 _ _ (sb2 b o ne e)
        have d2 : SameBut B H1 G2 := fun b o ne e => w2 _ _ (d1 b o ne e)
        have d3 : SameBut B H1 G3 := fun b o ne e => w3 _ _ (d2 b o ne e)
        have d4 : SameBut B H1 G4 := fun b o ne e => w4 _ _ (d3 b o ne e)
        have d5 : SameBut B H1 G5 := fun b o ne e => w5 _ _ (d4 b o ne e)
        have d6 : SameBut B H1 G6 := fun b o ne e => w6 _ _ (d5 b o ne e)
        obtain ⟨na, ea0⟩ := rm_at ha'
        have ea1 := st.2.1 _ _ na ea0
        have f2 : Same H2 G6 := Same.trans w1 (Same.trans w2 (Same.trans w3 (Same.trans w4 (Same.trans w5 w6))))
        refine ⟨_, rfl, _, rfl, a, _, ((0 : Nat) : Int), _, rfl, rfl, SqT.of (d6 _ _ na ea1), atI_nat rfl, (by show 1 ≤ sizeLine; decide), fun t7 G7 m7 w7 e7 => ?_⟩
        try dsimp only [tNoPart, tNil]
        refine catN (w7 _ _ (d6 _ _ np ep1)) e7 nr (NL.one h1) (by decide) fun t8 G8 u8 m8 w8 e8 z8 => ?_
        refine ⟨(by show 6 ≤ sizeLine; decide), fun L G9 m9 w9 e9 => ?_⟩
        have c8 : Same G8 G9 := w9
        have c7 : Same G7 G9 := w8.trans c8
        have c6 : Same G6 G9 := w7.trans c7
        have c5 : Same G5 G9 := w6.trans c6
        have c4 : Same G4 G9 := w5.trans c5
        have c3 : Same G3 G9 := w4.trans c4
        have b9 : Bag G9 B := b2.same (f2.trans c6)
        have nb : ∀ {t : Addr} {G : Hp}, Bag G B → G t = none → t ≠ B := fun b n => (b.ne n).symm
        have d9 : SameBut B H1 G9 := fun b o ne e => c6 _ _ (d6 b o ne e)
        have nS := st.2.2.2.1
        have eS := st.2.2.2.2.1
        have l1 := st.2.2.2.2.2.2.2
        have q2 : Bag G2 B := b2.same (w1.trans w2)
        have q3 : Bag G3 B := q2.same w3
        have q4 : Bag G4 B := q3.same w4
        have q5 : Bag G5 B := q4.same w5
        have q7 : Bag G7 B := b2.same (f2.trans w7)
        obtain ⟨es, th, oth⟩ : Each (rm B G9) [.ref p1, .ref t3, .ref t4, .ref t5, .ref t6, .ref t8] := .cons (nr.th np (d9 _ _ np ep1) (by decide)) (.cons (z3.th (nb q2 m3) (c3 _ _ e3) (by decide)) (.cons (z4.th (nb q3 m4) (c4 _ _ e4) (by decide)) (.cons (nr.tt (nb q4 m5) (c5 _ _ e5) (by decide)) (.cons (z6.th (nb q5 m6) (c6 _ _ e6) (by decide)) (.cons (z8.th (nb q7 m8) (c8 _ _ e8) (by decide)) .nil)))))
        refine ⟨S, L, _, _, rfl, rfl, d9 _ _ nS eS, e9, ?_, fun S2 G10 nS2 w10 e10 => ?_⟩
        · show ts.length + 6 ≤ sizeLine
          rw [sizeLine_eq]
          omega
        exact ⟨S2, _, _, rfl, StO.cat st d9 b9 th oth nS2 w10 e10⟩
      clear st ts ds S ep1 ep2 sb2 b2 H2
      rintro σ1 H1 ⟨S, ts, ds, rfl, st⟩
      have ep1 := st.2.1 _ _ np ep0
      have eS := st.2.2.2.2.1
      have nS := st.2.2.2.1
      have l1 := st.2.2.2.2.2.2.2
      refine ⟨_, rfl, .inl ⟨rfl, _, SqL.of eS⟩, _, rfl, _, rfl, _, rfl, ?_⟩
      try dsimp only [tNoPart, tNil]
      refine slN ep1 nr fun t1 G1 y1 m1 w1 e1 z1 => ?_
      refine ⟨_, rfl, _, rfl, B, (c.2.length : Int), rfl, st.1.same w1, by omega, by omega, fun v2 G2 v20 v21 b2 sb2 => ⟨(by show 1 ≤ sizeLine; decide), fun t3 G3 m3 w3 e3 => ?_⟩⟩
      have nt1 : t1 ≠ B := (st.1.ne m1).symm
      have e12 := w3 _ _ (sb2 _ _ nt1 e1)
      obtain ⟨k2, rfl⟩ := Int.eq_ofNat_of_zero_le v20
      try dsimp only [tNoPart, tNil]
      refine catN e12 e3 z1 (NL.one (k := k2) (by omega)) (by decide) fun t4 G4 y4 m4 w4 e4 z4 => ?_
      have d3 : SameBut B H1 G3 := fun b o ne e => w3 _ _ (sb2 _ _ ne (w1 _ _ e))
      have d4 : SameBut B H1 G4 := fun b o ne e => w4 _ _ (d3 b o ne e)
      refine ⟨_, rfl, _, rfl, _, _, rfl, rfl, _, rfl, ?_⟩
      try dsimp only [tNoPart, tNil]
      refine slN (d4 _ _ np ep1) nr fun t5 G5 y5' m5 w5 e5 z5 => ?_
      try dsimp only [tNoPart, tNil]
      refine catN (w5 _ _ e4) e5 z4 z5 (by decide) fun t6 G6 y6' m6 w6 e6 z6 => ?_
      have d6 : SameBut B H1 G6 := fun b o ne e => w6 _ _ (w5 _ _ (d4 b o ne e))
      have b5 : Bag G5 B := ((b2.same w3).same w4).same w5
      have b6 : Bag G6 B := b5.same w6
      have nS6 : t6 ≠ S := fun z => by
        have y := w5 _ _ (d4 _ _ nS eS)
        rw [← z, m6] at y
        cases y
      refine ⟨S, ts, .ref t6, rfl, rfl, d6 _ _ nS eS, (by rw [sizeLine_eq]; omega), ?_⟩
      have st2 : ∃ es, StO B H (ts ++ [.ref t6]) es (18 + 11 * i + 6 + 1) S (upd G6 S (.lst (ts ++ [.ref t6]))) := by
        obtain ⟨l, rfl, hl, la⟩ := z6
        refine ⟨_, StO.push st d6 b6 (d := .list (l.map dN)) (.lst ?_ (ints_nat l)) (oth_lst la (by omega))⟩
        rw [rm_ne nS6, rm_ne ((b5.ne m6).symm)]
        exact e6
      clear st e1 e3 e4 e5 e6 d6 d4 d3 e12 ep1 eS nS l1 nS6
      generalize upd G6 S (.lst (ts ++ [.ref t6])) = H4 at st2 ⊢
      obtain ⟨es, st⟩ := st2
      have ep1 := st.2.1 _ _ np ep0
      have eS := st.2.2.2.2.1
      have nS := st.2.2.2.1
      have l1 := st.2.2.2.2.2.2.2
      generalize ts ++ [.ref t6] = us' at st eS l1 ⊢
      clear w6 m6 b6 b5 w5 w4 w3 sb2 w1 m1 m3 m4 m5 z1 z4 z5 z6 b2
      refine ⟨_, rfl, _, rfl, ?_⟩
      try dsimp only [tNoPart, tNil]
      refine sortN ep1 nr (by decide) fun t1 G1 y1 m1 w1 e1 z1 => ?_
      refine ⟨_, rfl, p1, _, rfl, SqL.of (w1 _ _ ep1), fun t2 m2 => ?_⟩
      have w2 := same_new (o := .lst (r.map vN).reverse) m2
      have e2 : upd G1 t2 (.lst (r.map vN).reverse) t2 = some (.lst (r.map vN).reverse) := upd_same
      generalize upd G1 t2 (.lst (r.map vN).reverse) = G2 at w2 e2 ⊢
      have ep2 := w2 _ _ (w1 _ _ ep1)
      refine ⟨_, rfl, _, rfl, ?_⟩
      try dsimp only [tNoPart, tNil]
      refine slN ep2 nr fun t3 G3 y3 m3 w3 e3 z3 => ?_
      refine ⟨_, rfl, p1, _, rfl, SqL.of (w3 _ _ ep2), fun t4 m4 => ?_⟩
      have w4 := same_new (o := .lst ((r.map vN).drop 1).reverse) m4
      have e4 : upd G3 t4 (.lst ((r.map vN).drop 1).reverse) t4 = some (.lst ((r.map vN).drop 1).reverse) := upd_same
      generalize upd G3 t4 (.lst ((r.map vN).drop 1).reverse) = G4 at w4 e4 ⊢
      try dsimp only [tNoPart, tNil]
      refine catN (w4 _ _ e3) e4 z3 nr.drop.rev (by decide) fun t5 G5 y5' m5 w5 e5 z5 => ?_
      have ep5 := w5 _ _ (w4 _ _ (w3 _ _ ep2))
      refine ⟨_, rfl, _, rfl, ?_⟩
      try dsimp only [tNoPart, tNil]
      refine slN ep5 nr fun t6 G6 y6' m6 w6 e6 z6 => ?_
      refine ⟨_, rfl, _, rfl, ?_⟩
      try dsimp only [tNoPart, tNil]
      refine slN (w6 _ _ ep5) nr fun t7 G7 y7 m7 w7 e7 z7 => ?_
      try dsimp only [tNoPart, tNil]
      refine sortN e7 z7 (by decide) fun t8 G8 y8 m8 w8 e8 z8 => ?_
      try dsimp only [tNoPart, tNil]
      refine catN (w8 _ _ (w7 _ _ e6)) e8 z6 z8 (by decide) fun t9 G9 y9 m9 w9 e9 z9 => ?_
      refine ⟨(by show 4 ≤ sizeLine; decide), fun L G10 m10 w10 e10 => ?_⟩
      have c9 : Same G9 G10 := w10
      have c5 : Same G5 G10 := w6.trans (w7.trans (w8.trans (w9.trans c9)))
      have c2 : Same G2 G10 := w3.trans (w4.trans (w5.trans c5))
      have c1 : Same G1 G10 := w2.trans c2
      have c0 : Same H4 G10 := w1.trans c1
      have nb : ∀ {t : Addr} {G : Hp}, Same H4 G → G t = none → t ≠ B := fun s n => ((st.1.same s).ne n).symm
      have f1 : Same H4 G1 := w1
      have f4 : Same H4 G4 := f1.trans (w2.trans (w3.trans w4))
      have f8 : Same H4 G8 := f4.trans (w5.trans (w6.trans (w7.trans w8)))
      obtain ⟨es2, th, oth⟩ : Each (rm B G10) [.ref t1, .ref t2, .ref t5, .ref t9] := .cons (z1.th (nb (Same.refl _) m1) (c1 _ _ e1) (by decide)) (.cons (nr.rev.th (nb f1 m2) (c2 _ _ e2) (by decide)) (.cons (z5.th (nb f4 m5) (c5 _ _ e5) (by decide)) (.cons (z9.th (nb f8 m9) (c9 _ _ e9) (by decide)) .nil)))
      refine ⟨S, L, _, _, rfl, rfl, c0 _ _ eS, e10, ?_, fun S2 G11 nS2 w11 e11 => ?_⟩
      · show us'.length + 4 ≤ sizeLine
        rw [sizeLine_eq]
        omega
      have fin := StO.cat st (but_of c0) (st.1.same c0) th oth nS2 w11 e11
      have e18 : 18 + 11 * i + 6 + 1 + [V.ref t1, V.ref t2, V.ref t5, V.ref t9].length = 18 + 11 * (i + 1) := by show _ + 4 = _; omega
      rw [e18] at fin
      exact ⟨S2, _, _, _, _, rfl, fin⟩
    · clear st ts ds S eF1 HA1 HA
      rintro σ H1 ⟨S, ts, ds, y5, y6, rfl, st⟩
      have eS := st.2.2.2.2.1
      have nS := st.2.2.2.1
      have l1 := st.2.2.2.2.2.2.2
      have big : (13 : Int) ≤ 10 ^ 40 := by decide
      refine ⟨_, rfl, _, rfl, _, rfl, B, (c.2.length : Int), rfl, st.1, by omega, by omega, fun v2 H2 v20 v21 b2 sb2 => ?_⟩
      obtain ⟨k2, rfl⟩ := Int.eq_ofNat_of_zero_le v20
      refine ⟨_, _, rfl, rfl, _, rfl, by omega, by omega, fun D nD => ?_⟩
      have naD := b2.ne nD
      have ek : (1 + (k2 : Int)).toNat = k2 + 1 := by omega
      rw [ek]
      refine lc_it walk_range (fun i H4 => ∃ ls : List Nat, ls.length = i ∧ (∀ n ∈ ls, n ≤ 12) ∧ H4 D = some (.lst (ls.map vN)) ∧ Bag H4 B ∧ SameBut B H2 H4) ⟨[], rfl, (fun _ h => nomatch h), upd_same, b2.same (same_new nD), but_of (same_new nD)⟩ (fun _ _ _ _ => True.intro) ?_ ?_
      · rintro i x H4 H5 hi ⟨ls, hl, hlt, eD, b4, sb4⟩ ⟨rfl, rfl⟩
        refine ⟨rfl, _, rfl, _, rfl, B, (c.2.length : Int), rfl, b4, by omega, by omega, fun v3 H6 v3p v3m b6 sb6 => ?_⟩
        have e6 := sb6 D _ naD.symm eD
        obtain ⟨k3, rfl⟩ := Int.eq_ofNat_of_zero_le v3p
        refine ⟨_, e6, ?_, ls ++ [k3], ?_, ?_, ?_, ?_, ?_⟩
        · rw [List.length_map, hl]
          exact Nat.lt_of_lt_of_le (show i < 13 by omega) (by decide)
        · rw [List.length_append, hl]
          rfl
        · intro n hn
          rcases List.mem_append.mp hn with h | h
          · exact hlt n h
          · rw [List.mem_singleton.mp h]
            omega
        · rw [upd_same, List.map_append]
          rfl
        · obtain ⟨bb, eb⟩ := b6
          exact ⟨bb, by rw [upd_ne naD]; exact eb⟩
        · intro b o n e
          rw [upd_ne (ne_of_none e nD)]
          exact sb6 b o n (sb4 b o n e)
      · rintro H4 ⟨ls, hl, hlt, eD, b4, sb4⟩
        refine ⟨(by show 1 ≤ sizeLine; decide), fun L H5 nL s5 eL => ?_⟩
        have sb5 : SameBut B H1 H5 := fun b o n e => s5 _ _ (sb4 b o n (sb2 b o n e))
        have sne : S ≠ B := st.2.2.2.1
        have nSH := st.2.2.1
        refine ⟨S, L, _, _, rfl, rfl, sb5 _ _ sne eS, eL, ?_, fun S2 H6 nS2 s6 e6 => ?_⟩
        · show ts.length + 1 ≤ sizeLine
          rw [sizeLine_eq]
          omega
        have b5 : Bag H5 B := b4.same s5
        obtain ⟨es, th, oth⟩ : Each (rm B H5) [.ref D] := .cons (NL.th (m := 13) naD.symm (s5 _ _ eD) ⟨ls, rfl, by omega, hlt⟩ (by decide)) .nil
        have fin := StO.cat st sb5 b5 th oth nS2 s6 e6
        exact q S2 H6 _ _ fin.1 fin.2.1 fin.2.2.1 e6 (ThAll.same rm_same _ fin.2.2.2.2.2.1) fin.2.2.2.2.2.2.1
end
end Lk
end
section
/-! Signs of coders: mathematics. -/
namespace Lk
/-- how many of the words of 1 to L letters from b on end just ahead of k -/
def cnt (p b k : Nat) : Nat → Nat
  | 0 => 0
  | L + 1 => cnt p b k L + (if (b + (L + 1)) % p = k then 1 else 0)
/-- a sum over the places -/
def sumR (p : Nat) (f : Nat → Int) : Int := ((List.range p).map f).sum
theorem sumR_zero (f : Nat → Int) : sumR 0 f = 0 := rfl
theorem sumR_succ (p : Nat) (f : Nat → Int) : sumR (p + 1) f = sumR p f + f p := by
  unfold sumR
  rw [List.range_succ, List.map_append, List.sum_append]
  simp
theorem sumR_congr {p : Nat} {f g : Nat → Int} (h : ∀ k, k < p → f k = g k) : sumR p f = sumR p g := by
  unfold sumR
  congr 1
  exact List.map_congr_left fun k hk => h k (List.mem_range.mp hk)
theorem sumR_add (p : Nat) (f g : Nat → Int) : sumR p (fun k => f k + g k) = sumR p f + sumR p g := by
  induction p with
  | zero => rfl
  | succ p ih => rw [sumR_succ, sumR_succ, sumR_succ, ih]; omega
theorem sumR_sub (p : Nat) (f g : Nat → Int) : sumR p (fun k => f k - g k) = sumR p f - sumR p g := by
  induction p with
  | zero => rfl
  | succ p ih => rw [sumR_succ, sumR_succ, sumR_succ, ih]; omega
theorem sumR_const (p : Nat) (x : Int) : sumR p (fun _ => x) = (p : Int) * x := by
  induction p with
  | zero => rw [sumR_zero]; simp
  | succ p ih => rw [sumR_succ, ih, Int.natCast_add, Int.add_mul]; simp
theorem sumR_swap (p q : Nat) (f : Nat → Nat → Int) : sumR p (fun i => sumR q (fun j => f i j)) = sumR q (fun j => sumR p (fun i => f i j)) := by
  induction p with
  | zero =>
    rw [sumR_zero]
    have : sumR q (fun j => sumR 0 fun i => f i j) = sumR q (fun _ => 0) := sumR_congr fun _ _ => rfl
    rw [this, sumR_const, Int.mul_zero]
  | succ p ih =>
    rw [sumR_succ, ih, ← sumR_add]
    exact sumR_congr fun j _ => (sumR_succ p _).symm
theorem sumR_one {p k : Nat} (h : k < p) (v : Int) : sumR p (fun i => if i = k then v else 0) = v := by
  induction p with
  | zero => omega
  | succ p ih =>
    rw [sumR_succ]
    by_cases e : k = p
    · subst e
      rw [if_pos rfl]
      have : sumR k (fun i => if i = k then v else 0) = sumR k (fun _ => 0) := sumR_congr fun i hi => if_neg (by omega)
      rw [this, sumR_const]
      omega
    · rw [ih (by omega), if_neg (by omega)]
      omega
theorem cnt_sum {p : Nat} (hp : 0 < p) (b : Nat) : ∀ L : Nat, sumR p (fun k => (cnt p b k L : Int)) = (L : Int)
  | 0 => by
    have : sumR p (fun k => (cnt p b k 0 : Int)) = sumR p (fun _ => 0) := sumR_congr fun _ _ => rfl
    rw [this, sumR_const]
    simp
  | L + 1 => by
    have h : (b + (L + 1)) % p < p := Nat.mod_lt _ hp
    have e : sumR p (fun k => (cnt p b k (L + 1) : Int)) = sumR p (fun k => (cnt p b k L : Int) + (if k = (b + (L + 1)) % p then 1 else 0)) := sumR_congr fun k _ => by
      show ((cnt p b k L + (if (b + (L + 1)) % p = k then 1 else 0) : Nat) : Int) = _
      by_cases g : (b + (L + 1)) % p = k
      · rw [if_pos g, if_pos g.symm]
        rfl
      · rw [if_neg g, if_neg (fun z => g z.symm)]
        rfl
    rw [e, sumR_add, cnt_sum hp b L, sumR_one h]
    rfl
/-- by how many letters the shortest such word is told -/
def wayOf (p : Nat) (b k : Int) : Int := (k - b - 1) % p + 1
theorem cnt_way {p : Nat} {b k : Nat} (hb : b < p) (hk : k < p) : ∀ L : Nat, ((L : Int) - wayOf p b k) / (p : Int) + 1 = (cnt p b k L : Int) := by
  have hp : (0 : Int) < p := by omega
  have w0 : 0 ≤ ((k : Int) - b - 1) % p := Int.emod_nonneg _ (by omega)
  have w1 : ((k : Int) - b - 1) % p < p := Int.emod_lt_of_pos _ hp
  have qd := Int.emod_add_mul_ediv ((k : Int) - b - 1) p
  intro L
  induction L with
  | zero =>
    show (((0 : Nat) : Int) - (((k : Int) - b - 1) % p + 1)) / (p : Int) + 1 = 0
    have : (((0 : Nat) : Int) - (((k : Int) - b - 1) % p + 1)) / (p : Int) = -1 := by
      refine (Int.ediv_emod_unique hp (r := (p : Int) - (((k : Int) - b - 1) % p + 1)) (q := -1)).mpr ⟨?_, by omega, by omega⟩ |>.1
      rw [Int.mul_neg, Int.mul_one]
      omega
    omega
  | succ L ih =>
    generalize hm : ((L : Int) - wayOf p b k) / (p : Int) = m at ih
    have rd := Int.emod_add_mul_ediv ((L : Int) - wayOf p b k) p
    have r0 : 0 ≤ ((L : Int) - wayOf p b k) % p := Int.emod_nonneg _ (by omega)
    have r1 : ((L : Int) - wayOf p b k) % p < p := Int.emod_lt_of_pos _ hp
    rw [hm] at rd
    generalize hr : ((L : Int) - wayOf p b k) % p = r at rd r0 r1
    have key : (((b + (L + 1)) % p : Nat) : Int) = ((k : Int) + r + 1) % p := by
      rw [Int.natCast_emod]
      have e : (((b + (L + 1) : Nat)) : Int) = ((k : Int) + r + 1) + (p : Int) * (m - ((k : Int) - b - 1) / p) := by
        rw [Int.mul_sub]
        unfold wayOf at rd
        generalize (p : Int) * m = M at *
        generalize (p : Int) * (((k : Int) - b - 1) / p) = N at *
        push_cast
        omega
      rw [e, Int.add_mul_emod_self_left]
    show (((L + 1 : Nat) : Int) - wayOf p b k) / (p : Int) + 1 = ((cnt p b k L + (if (b + (L + 1)) % p = k then 1 else 0) : Nat) : Int)
    rw [show ((cnt p b k L + (if (b + (L + 1)) % p = k then 1 else 0) : Nat) : Int) = (cnt p b k L : Int) + ((if (b + (L + 1)) % p = k then 1 else 0 : Nat) : Int) from Int.natCast_add _ _, ← ih]
    by_cases g : r + 1 = p
    · have e2 : (((L + 1 : Nat) : Int) - wayOf p b k) / (p : Int) = m + 1 := by
        refine (Int.ediv_emod_unique hp (r := 0) (q := m + 1)).mpr ⟨?_, by omega, by omega⟩ |>.1
        rw [Int.mul_add, Int.mul_one]
        omega
      have e3 : (b + (L + 1)) % p = k := by
        have z : ((k : Int) + r + 1) % p = k := by
          rw [show (k : Int) + r + 1 = (k : Int) + p by omega, Int.add_emod_right]
          exact Int.emod_eq_of_lt (by omega) (by omega)
        rw [z] at key
        omega
      rw [e2, if_pos e3]
      omega
    · have e2 : (((L + 1 : Nat) : Int) - wayOf p b k) / (p : Int) = m := by
        refine (Int.ediv_emod_unique hp (r := r + 1) (q := m)).mpr ⟨by omega, by omega, by omega⟩ |>.1
      have e3 : ¬ (b + (L + 1)) % p = k := by
        intro z
        rw [z] at key
        rcases Int.lt_or_le ((k : Int) + r + 1) p with l | l
        · rw [Int.emod_eq_of_lt (by omega) l] at key
          omega
        · have : ((k : Int) + r + 1) % p = (k : Int) + r + 1 - p := by
            rw [← Int.sub_emod_right]
            exact Int.emod_eq_of_lt (by omega) (by omega)
          omega
      rw [e2, if_neg e3]
      omega
/-- how many of the words of these lengths end just ahead of k -/
def endsI (ls : List Nat) (k : Nat) : Int := sumR ls.length fun b => (cnt ls.length b k (ls.getD b 0) : Int)
/-- what is counted at a place -/
def num (c : Cd) (k : Nat) : Int := (len c k : Int) - endsI c.2 k + (if k = c.1 then 1 else 0)
def sgn (c : Cd) : List Nat := (List.range c.2.length).map fun k => ((num c k - num c 0) % (c.2.length : Int)).toNat
theorem sgn_len (c : Cd) : (sgn c).length = c.2.length := by
  unfold sgn
  rw [List.length_map, List.length_range]
theorem sgn_at {c : Cd} {k : Nat} (h : k < c.2.length) : (sgn c)[k]? = some (((num c k - num c 0) % (c.2.length : Int)).toNat) := by
  unfold sgn
  rw [List.getElem?_map, List.getElem?_range h]
  rfl
theorem sgn_lt {c : Cd} : ∀ x ∈ sgn c, x < c.2.length := by
  intro x hx
  obtain ⟨k, hk, rfl⟩ := List.mem_map.mp hx
  have hk := List.mem_range.mp hk
  have h1 := Int.emod_nonneg (num c k - num c 0) (show (c.2.length : Int) ≠ 0 by omega)
  have h2 := Int.emod_lt_of_pos (num c k - num c 0) (show (0 : Int) < (c.2.length : Int) by omega)
  omega
theorem sgn_zero {c : Cd} (h : 0 < c.2.length) : (sgn c).getD 0 0 = 0 := by
  rw [List.getD_eq_getElem?_getD, sgn_at h, Int.sub_self]
  simp
theorem num_sum {c : Cd} (h : COk c) : sumR c.2.length (num c) = 1 := by
  have e : sumR c.2.length (num c) = sumR c.2.length (fun k => ((len c k : Int) - endsI c.2 k) + (if k = c.1 then 1 else 0)) := sumR_congr fun _ _ => rfl
  rw [e, sumR_add, sumR_sub, sumR_one h]
  have e2 : sumR c.2.length (fun k => endsI c.2 k) = sumR c.2.length fun b => (len c b : Int) := by
    unfold endsI
    rw [sumR_swap]
    exact sumR_congr fun b _ => cnt_sum (Nat.lt_of_le_of_lt (Nat.zero_le _) h) b _
  rw [e2]
  omega
theorem emod_sum {p : Nat} (hp : 0 < p) (n : Nat) (f : Nat → Int) : (sumR n fun k => (((f k) % (p : Int)).toNat : Int)) % (p : Int) = sumR n f % (p : Int) := by
  induction n with
  | zero => rfl
  | succ n ih =>
    have h1 := Int.emod_nonneg (f n) (show (p : Int) ≠ 0 by omega)
    rw [sumR_succ, sumR_succ, Int.add_emod, ih, Int.toNat_of_nonneg h1, Int.emod_emod, ← Int.add_emod]
theorem sum_nat (n : Nat) (f : Nat → Nat) : ((((List.range n).map f).sum : Nat) : Int) = sumR n fun k => (f k : Int) := by
  induction n with
  | zero => rfl
  | succ n ih => rw [sumR_succ, ← ih, List.range_succ, List.map_append, List.sum_append]; simp
theorem sgn_sum {c : Cd} (h : COk c) : (sgn c).sum % c.2.length = 1 % c.2.length := by
  have z : (((sgn c).sum % c.2.length : Nat) : Int) = ((1 % c.2.length : Nat) : Int) := by
    unfold sgn
    rw [Int.natCast_emod, sum_nat, emod_sum (Nat.lt_of_le_of_lt (Nat.zero_le _) h), sumR_sub, num_sum h, sumR_const, Int.sub_mul_emod_self_left, Int.natCast_emod]
    rfl
  exact Int.ofNat.inj z
/-- a table over the places -/
theorem emod_same {p : Nat} {a b : Int} (h : ∃ k : Int, a = b + p * k) : a % (p : Int) = b % (p : Int) := by
  obtain ⟨k, rfl⟩ := h
  exact Int.add_mul_emod_self_left _ _ _
end Lk
end
section
set_option maxRecDepth 100000
set_option maxHeartbeats 2000000
/-! sum of a tuple of ints. -/
namespace Lk
open PySem PySem.Spec PyProof.Rows L2
section
variable {prog : Program} {w : World} {A : Around} {E : Value → Shared → Prop} {s : Shared} {l : Addr}
theorem sum_tupRaw {its : List Value} {ns : List Int} {Q : Value → Shared → Prop} (hh : A.handled = none) (hl : s.heap.IsTuple l its.toArray) (hi : IntsAre its ns)
    (h : ∀ h' tk t', (∀ b o, s.heap.get? b = some o → h'.get? b = some o) → Q (.int ns.sum t') { s with heap := h', toks := tk }) : wpAny (model prog w) A (call (.builtin "sum") [.ref l]) Q E s := by
  obtain ⟨xs, e⟩ := hi.allInts.items
  have hn : numsOf (intItems xs).toList = ns := by rw [← e]; exact hi.numsOf
  rw [nums_intItems] at hn
  rw [e] at hl
  have hll : l < s.heap.objs.size := by obtain ⟨o, ho, _⟩ := id hl; exact Heap.lt_size ho
  have hne2 : l ≠ s.heap.objs.size := Nat.ne_of_lt hll
  refine PySem.call_sum_walkG (wpAny_pyIter_tuple hl ?_)
  refine ⟨s.heap.objs.size, _, _, _, _, _, numAt xs, rfl, Walks.tuple (A := A.in1) hh _ l hne2 (intItems xs), ⟨?_, ?_⟩, fun b hb => ?_, (fun _ _ => intItems_at), fun h' tk t' hk => ?_⟩
  · exact ⟨_, Heap.get?_push_size _ rfl, rfl, rfl⟩
  · exact hl.at fun o e => Heap.get?_push_of_some _ e
  · rw [Heap.size_push]
    rcases List.mem_cons.mp hb with z | z
    · rw [z]; exact Nat.lt_succ_self _
    · rw [List.mem_singleton.mp z]; exact Nat.lt_succ_of_lt hll
  · have g := h h' tk t' fun b o e => hk b o (fun hb => by
      have z := Heap.lt_size e
      rw [List.mem_singleton.mp hb] at z
      exact Nat.lt_irrefl _ z) (Heap.get?_push_of_some _ e)
    have e3 : preSum (numAt xs) (intItems xs).size = ns.sum := by
      rw [show (intItems xs).size = xs.size by simp [intItems], preSum_eq, List.take_of_length_le (by simp), hn]
    rw [e3]
    exact g
end
def rSumT (K : PySem.W.Frag) : List V → Hp → VK → Prop := fun vs H Q => ∃ (a : Addr) (ns : List Int), vs = [V.ref a] ∧ SqT K H a (ns.map V.int) ∧ Q (.int ns.sum) H
theorem cr_sumT {X : Cx} (hc : X.calm = true) : CallR X (.builtin "sum") (rSumT X.K) := by
  intro pins s σ H vs us Q I r h
  obtain ⟨a, ns, rfl, hs, q⟩ := h
  obtain ⟨its, rv, hl, _⟩ := I.tuple hs
  rw [Vals.ref1 r]
  exact sum_tupRaw (I.ok.hd hc) hl rv.ints fun h' tk t' hk => ⟨.int _, H, I.kept hk, ⟨_, rfl⟩, q⟩
theorem sum_vN : ∀ t : List Nat, ∃ ns : List Int, t.map vN = ns.map V.int ∧ ns.sum = ((t.sum : Nat) : Int)
  | [] => ⟨[], rfl, rfl⟩
  | n :: t => by
    obtain ⟨ns, e, h⟩ := sum_vN t
    refine ⟨(n : Int) :: ns, ?_, ?_⟩
    · rw [List.map_cons, List.map_cons, e]
    · rw [List.sum_cons, List.sum_cons, h, Int.natCast_add]
end Lk
end
section
set_option maxRecDepth 100000
set_option maxHeartbeats 2000000
/-! t[::-1] of a tuple. -/
namespace Lk
open PySem PySem.Spec PyProof.Rows L2 HT
section
variable {prog : Program} {w : World} {A : Around} {E : Value → Shared → Prop} {s : Shared}
theorem sliceApplied_rev {sl : Addr} {vk : Value} {n : Nat} {Q : Int × Int × Nat → Shared → Prop} (hs : s.heap.IsSliceOf sl .none .none vk) (pk : IsPart vk (some (-1)))
    (h : Q ((n : Int) - 1, -1, n) s) : wpAny (model prog w) A (Builtin.Slice.sliceApplied (.ref sl) (pure (n : Int))) Q E s := by
  obtain ⟨os, hos, hcs, hds⟩ := id hs
  unfold Builtin.Slice.sliceApplied Builtin.Slice.sliceFields
  refine wpAny_bind (wpAny_bind (wpAny_field hos hds (x := .none) rfl (wpAny_bind (wpAny_field hos hds (x := .none) rfl (wpAny_bind (wpAny_field hos hds (x := vk) rfl (wpAny_pure ?_)))))))
  refine wpAny_bind (slicePart_ pk ?_)
  show wpAny _ _ (if ((-1 : Int) == 0) = true then _ else _) _ _ s
  rw [if_neg (by decide)]
  refine wpAny_bind (slicePart_none (wpAny_bind (slicePart_none (wpAny_bind (wpAny_pure ?_)))))
  have e : Builtin.Slice.sliceAdjust none none (-1) (n : Int) = ((n : Int) - 1, -1) := by
    unfold Builtin.Slice.sliceAdjust
    simp
  have e2 : Builtin.Slice.slicePlaces ((n : Int) - 1) (-1) (-1) = n := by
    unfold Builtin.Slice.slicePlaces
    have h1 : ¬ ((-1 : Int) > 0) := by decide
    simp only [h1, if_false]
    by_cases g : (n : Int) - 1 > -1
    · rw [if_pos g, show (- -1 : Int) = 1 by decide, Int.ediv_one]
      omega
    · rw [if_neg g]
      show (0 : Nat) = n
      omega
  show wpAny _ _ (match Builtin.Slice.sliceAdjust none none (-1) (n : Int) with | (lo, hi) => pure (lo, (-1 : Int), Builtin.Slice.slicePlaces lo hi (-1))) _ _ s
  rw [e]
  show wpAny _ _ (pure ((n : Int) - 1, (-1 : Int), Builtin.Slice.slicePlaces ((n : Int) - 1) (-1) (-1))) _ _ s
  rw [e2]
  exact wpAny_pure h
theorem fm_congr {α β : Type} {f g : α → Option β} : ∀ l : List α, (∀ a, a ∈ l → f a = g a) → l.filterMap f = l.filterMap g
  | [], _ => rfl
  | a :: l, h => by
    rw [List.filterMap_cons, List.filterMap_cons, h a List.mem_cons_self, fm_congr l fun b hb => h b (List.mem_cons_of_mem _ hb)]
theorem fm_all {α : Type} : ∀ l : List α, (List.range l.length).filterMap (fun m => l[m]?) = l
  | [] => rfl
  | a :: l => by
    rw [List.length_cons, List.range_succ_eq_map, List.filterMap_cons, List.filterMap_map]
    show a :: (List.range l.length).filterMap (fun m => (a :: l)[m + 1]?) = a :: l
    congr 1
    exact fm_all l
theorem pick_rev (xs : Array Value) : ((List.range xs.size).filterMap fun (m : Nat) => xs[(((xs.size : Int) - 1) + (m : Int) * -1).toNat]?).toArray = xs.toList.reverse.toArray := by
  congr 1
  have e : ∀ m, m ∈ List.range xs.size → xs[(((xs.size : Int) - 1) + (m : Int) * -1).toNat]? = xs.toList.reverse[m]? := by
    intro m hm
    have hm := List.mem_range.mp hm
    rw [List.getElem?_reverse (by rw [Array.length_toList]; exact hm), Array.length_toList, ← Array.getElem?_toList]
    congr 1
    omega
  rw [fm_congr _ e]
  have z := fm_all xs.toList.reverse
  rw [List.length_reverse, Array.length_toList] at z
  exact z
theorem getItem_tuple_rev {t sl : Addr} {items : Array Value} {vk : Value} {Q : Value → Shared → Prop} (ht : IsTup s.heap t items) (hs : s.heap.IsSliceOf sl .none .none vk) (pk : IsPart vk (some (-1)))
    (h : Q (.ref s.heap.objs.size) { s with heap := s.heap.push { cls := .type "tuple", data := .seq items.toList.reverse.toArray } })
    (hsz : items.size ≤ sizeLine) : wpAny (model prog w) A (getItem (.ref t) (.ref sl)) Q E s := by
  have htake : sizeOk (.seq items.toList.reverse.toArray) := by
    show items.toList.reverse.toArray.size ≤ sizeLine
    rw [List.size_toArray, List.length_reverse, Array.length_toList]
    exact hsz
  obtain ⟨os, hos, hcs, hds⟩ := id hs
  have hTs : s.TypeIs (.ref sl) "slice" := ⟨os, hos, hcs⟩
  unfold getItem
  try with_reducible refine wpAny_holding ?_
  first | refine wpAny_bind (wpAny_pure ?_) | skip
  refine wpAny_bind (wpAny_sequenceKey ht.typeIs (by decide) ?_)
  refine wpAny_bind (wpAny_callSpecial?_slot (name := Str.ofString "__getitem__") ht.typeIs PyProof.Rows.slot_tuple_getitem
    (wpAny_call_entry PyProof.Rows.slot_tuple_getitem ht.typeIs entry_tuple_getitem ?_ (args_tuple_getitem _ _)))
  show wpAny _ _ (Builtin.Tuple.tupleItemsOf (.ref t) >>= _) _ _ s
  refine wpAny_bind (tupleItemsOf_ ht ?_)
  refine wpAny_bind (wpAny_typeOf hTs ?_)
  rw [if_pos (by decide)]
  refine wpAny_bind (sliceApplied_rev hs pk ?_)
  have hno : ¬ ((((items.size : Int) - 1) == 0 && (-1 : Int) == 1 && items.size == items.size) = true) := by
    intro q
    rw [Bool.and_eq_true, Bool.and_eq_true] at q
    exact absurd q.1.2 (by decide)
  show wpAny _ _ (if (((items.size : Int) - 1) == 0 && (-1 : Int) == 1 && items.size == items.size) = true then _ else _) _ _ s
  rw [if_neg hno, pick_rev]
  first
    | exact wpAny_bind (m := Builtin.Tuple.tupleExact _) (wpAny_newObj_type (wpAny_pure ⟨_, rfl, wpAny_pure h⟩) htake)
    | exact wpAny_bind (m := Builtin.Tuple.tupleExact _) (wpAny_newObj_type (wpAny_bind (wpAny_pure (wpAny_pure ⟨_, rfl, wpAny_pure h⟩))) htake)
    | exact wpAny_bind (wpAny_bind (m := Builtin.Tuple.tupleExact _) (wpAny_newObj_type (wpAny_pure (wpAny_pure ⟨_, rfl, wpAny_pure h⟩)) htake))
    | exact wpAny_bind (wpAny_bind (m := Builtin.Tuple.tupleExact _) (wpAny_newObj_type (wpAny_pure ⟨_, rfl, wpAny_pure h⟩) htake))
end
def tRv (K : PySem.W.Frag) (te : TE) (ts : TO) : TE := fun σ H Q => te σ H fun x H1 => ts σ H1 fun k H2 => k = some (-1) ∧ ∃ a xs, x = .ref a ∧ SqT K H2 a xs ∧ ∀ p H3, H2 p = none → Same H2 H3 → H3 p = some (.tup xs.reverse) → Q (.ref p) H3
section
variable {X : Cx} {e : Expr} {te : TE} {st : Option Expr} {ts : TO}
theorem pe_revT {p2 pos : Pos} (he : PE X e te) (hk : PO X st ts) (hsub : ∀ v u, ∃ ops, subscripted (.Slice none none st p2) false v u = operate ops (getItem v u) := by intros; exact ⟨_, by with_unfolding_all rfl⟩) : PE X (.Subscript e (.Slice none none st p2) pos) (tRv X.K te ts) := by
  refine ⟨fun pins s σ H Q I h => ?_⟩
  refine Subscript_ (thn (he.run pins s σ H _ I h) fun v s1 ⟨x, H1, I1, r1, q1⟩ => ?_)
  refine wpAny_Slice ?_
  rw [evalPart_none]
  refine wpAny_pure (wpAny_pure ?_)
  refine thn (hk.run pins s1 σ H1 _ I1 q1) fun vk s3 ⟨k, H3, I3, pk, q3⟩ => ?_
  obtain ⟨rfl, a, xs, rfl, hx, q⟩ := q3
  have I4 : Inv X pins σ H3 { s3 with heap := s3.heap.push { cls := .type "slice", data := .fields #[.none, .none, vk] } } := I3.kept (t' := s3.toks) fun b ob q => Heap.get?_push_of_some _ q
  cases r1
  obtain ⟨its, r, ht, hz⟩ := I4.tuple hx
  have hlen : its.toArray.size = xs.length := by rw [List.size_toArray]; exact r.length.symm
  obtain ⟨ops, hops⟩ := hsub (.ref a) (.ref s3.heap.objs.size)
  refine tail_any (ops := ops) ht.typeIs PyProof.Rows.slot_tuple_getitem.lookup (getItem_tuple_rev ht (Heap.IsSliceOf.new ..) pk ?_ (by rw [hlen]; exact hz)) hops
  refine ⟨.ref _, _, I4.laid (t' := s3.toks) (o := .tup xs.reverse) (fun b ob q => Heap.get?_push_of_some _ q) (Nat.le_refl _) ?_, rfl, q _ _ (I4.hok.fresh (Nat.le_refl _)) (same_new (I4.hok.fresh (Nat.le_refl _))) upd_same⟩
  refine ⟨by rw [List.length_reverse]; exact hz, _, r.reverse, IsTup.new _ _⟩
end
end Lk
end
section
set_option maxRecDepth 100000
set_option maxHeartbeats 2000000
/-! Signs. -/
namespace Lk
open PySem PySem.Spec PyProof.Rows L2
/-- what is a sign of p places -/
def IsSg (p : Nat) (d : PyData) : Prop := ∃ t : List Nat, d = tD t ∧ t.length = p ∧ (∀ x ∈ t, x < p) ∧ t.getD 0 0 = 0 ∧ t.sum % p = 1 % p
def spIsSign (C : Addr) : Sp := fun vs H Q E => ∃ u v e d, vs = [u, v] ∧ Th H u e ∧ Th H v d ∧ (inR e 1 12 = false → ∀ H', Same H H' → E (.ref C) none H') ∧
  (∀ p : Nat, e = .int (p : Int) → 1 ≤ p → p ≤ 12 → ∀ b H', (b = true ↔ IsSg p d) → Same H H' → Q (.bl b) H')
def spDueS : Sp := fun vs H Q _ => ∃ (p : Nat) (v : V) (d : PyData), vs = [.int (p : Int), v] ∧ Th H v d ∧ 1 ≤ p ∧ p ≤ 12 ∧ ∀ b H', (b = true ↔ IsSg p d) → Same H H' → Q (.bl b) H'
def spDSign : Sp := fun vs H Q _ => ∃ (a : Addr) (p : Nat) (n : Int), vs = [.ref a, .int (p : Int)] ∧ Urn H a n ∧ n ≤ 99000 ∧ 1 ≤ p ∧ p ≤ 12 ∧
  ∀ (t : List Nat) (pt : Addr) H', t.length = p → (∀ x ∈ t, x < p) → t.getD 0 0 = 0 → t.sum % p = 1 % p → Urn H' a (n + 30) → SameBut a H H' → H pt = none → H' pt = some (.tup (t.map vN)) → Q (.ref pt) H'
/-- the two ways in which it is said that the sum is one more than nought -/
theorem sum_one {p : Nat} (h : 1 ≤ p) (s : Nat) : ((s : Int) - 1) % (p : Int) = 0 ↔ s % p = 1 % p := by
  constructor
  · intro e
    obtain ⟨k, hk⟩ := Int.dvd_of_emod_eq_zero e
    rcases Nat.eq_zero_or_pos s with z | z
    · subst z
      have hk2 : (p : Int) * (-k) = 1 := by
        rw [Int.mul_neg]
        omega
      have hp : (p : Int) ∣ 1 := ⟨_, hk2.symm⟩
      have : p ∣ 1 := Int.natCast_dvd_natCast.mp hp
      have p1 : p = 1 := Nat.dvd_one.mp this
      subst p1
      simp
    · have e2 : ((s - 1 : Nat) : Int) % (p : Int) = 0 := by
        rw [show ((s - 1 : Nat) : Int) = (s : Int) - 1 by omega]
        exact e
      have e3 : (s - 1) % p = 0 := by
        rw [← Int.natCast_emod] at e2
        omega
      rw [show s = (s - 1) + 1 by omega, Nat.add_mod, e3, Nat.zero_add, Nat.mod_mod]
  · intro e
    have e2 : (s : Int) % (p : Int) = 1 % (p : Int) := by
      have z : ((s % p : Nat) : Int) = ((1 % p : Nat) : Int) := congrArg _ e
      rw [Int.natCast_emod, Int.natCast_emod] at z
      exact z
    exact Int.emod_eq_zero_of_dvd (Int.dvd_of_emod_eq_zero (by rw [Int.sub_emod, e2, Int.sub_self, Int.zero_emod]))
theorem sign_drawn {p : Nat} (p1 : 1 ≤ p) (ls : List Nat) (hl : ls.length = p - 2) (hb : ∀ x ∈ ls, x < p) (r : Nat) (hr : (r : Int) = (1 - ((ls.sum : Nat) : Int)) % (p : Int)) (t : List Nat) (ht : t = (0 :: (ls ++ [r])).take p) :
    t.length = p ∧ (∀ x ∈ t, x < p) ∧ t.getD 0 0 = 0 ∧ t.sum % p = 1 % p := by
  have hr0 : 0 ≤ (r : Int) := Int.natCast_nonneg r
  have hr1 : (r : Int) < (p : Int) := by rw [hr]; exact Int.emod_lt_of_pos _ (by omega)
  have all : ∀ x ∈ (0 :: (ls ++ [r])), x < p := fun x hx => by
    rcases List.mem_cons.mp hx with e | h
    · omega
    · rcases List.mem_append.mp h with h | h
      · exact hb x h
      · rw [List.mem_singleton.mp h]
        omega
  subst ht
  refine ⟨?_, fun x hx => all x (List.mem_of_mem_take hx), ?_, ?_⟩
  · rw [List.length_take, List.length_cons, List.length_append, hl]
    show min p (p - 2 + 1 + 1) = p
    omega
  · cases p with
    | zero => omega
    | succ p => rfl
  · rcases Nat.lt_or_ge p 2 with h | h
    · have e : p = 1 := by omega
      subst e
      show (0 : Nat) % 1 = 1 % 1
      rfl
    · rw [List.take_of_length_le (by rw [List.length_cons, List.length_append, hl]; show p - 2 + 1 + 1 ≤ p; omega), List.sum_cons, List.sum_append, List.sum_singleton, Nat.zero_add]
      have z : (((ls.sum + r) % p : Nat) : Int) = ((1 % p : Nat) : Int) := by
        rw [Int.natCast_emod, Int.natCast_add, hr, Int.add_emod_emod, show ((ls.sum : Nat) : Int) + (1 - ((ls.sum : Nat) : Int)) = 1 by omega, Int.natCast_emod]
        rfl
      exact Int.ofNat.inj z
end Lk
end
section
set_option maxRecDepth 100000
set_option maxHeartbeats 2000000
/-! Signs of coders: tables of numbers, and what is told. -/
namespace Lk
open PySem PySem.Spec PyProof.Rows L2
/-- a table over the places -/
def tab (p : Nat) (f : Nat → Int) : List V := (List.range p).map fun k => V.int (f k)
theorem tab_len (p : Nat) (f : Nat → Int) : (tab p f).length = p := by
  unfold tab
  rw [List.length_map, List.length_range]
theorem tab_at {p k : Nat} (f : Nat → Int) (h : k < p) : (tab p f)[k]? = some (.int (f k)) := by
  unfold tab
  rw [List.getElem?_map, List.getElem?_range h]
  rfl
theorem tab_congr {p : Nat} {f g : Nat → Int} (h : ∀ k, k < p → f k = g k) : tab p f = tab p g :=
  List.map_congr_left fun k hk => congrArg V.int (h k (List.mem_range.mp hk))
theorem tab_set {p j : Nat} (f : Nat → Int) (v : Int) : (tab p f).set j (.int v) = tab p (fun k => if k = j then v else f k) := by
  refine List.ext_getElem? fun k => ?_
  by_cases hk : k < p
  · rw [tab_at _ hk]
    by_cases e : k = j
    · subst e
      rw [List.getElem?_set_self (by rw [tab_len]; exact hk), if_pos rfl]
    · rw [List.getElem?_set_ne (Ne.symm e), tab_at _ hk, if_neg e]
  · rw [List.getElem?_eq_none (by rw [List.length_set, tab_len]; omega), List.getElem?_eq_none (by rw [tab_len]; omega)]
theorem tab_ints (p : Nat) (f : Nat → Int) : tab p f = ((List.range p).map f).map V.int := by
  unfold tab
  rw [List.map_map]
  rfl
theorem tab_rep (p : Nat) (x : Int) : List.replicate p (V.int x) = tab p fun _ => x := by
  refine List.ext_getElem? fun k => ?_
  by_cases hk : k < p
  · rw [tab_at _ hk, List.getElem?_replicate, if_pos hk]
  · rw [List.getElem?_eq_none (by rw [List.length_replicate]; omega), List.getElem?_eq_none (by rw [tab_len]; omega)]
theorem sgn_tab (c : Cd) : (sgn c).map vN = tab c.2.length fun k => (num c k - num c 0) % (c.2.length : Int) := by
  unfold sgn tab
  rw [List.map_map]
  refine List.map_congr_left fun k hk => ?_
  have hk := List.mem_range.mp hk
  show V.int ((((num c k - num c 0) % (c.2.length : Int)).toNat : Nat) : Int) = _
  rw [Int.toNat_of_nonneg (Int.emod_nonneg _ (by omega))]
theorem sgn_isSg {c : Cd} (h : CdOk c) : IsSg c.2.length (tD (sgn c)) :=
  ⟨sgn c, rfl, sgn_len c, sgn_lt, sgn_zero h.pos, sgn_sum h.1⟩
/-- how many words end ahead of a place -/
def spEnds : Sp := fun vs H Q _ => ∃ (b : Addr) (ls : List Nat) (k : Nat), vs = [.ref b, .int (k : Int)] ∧ H b = some (.tup (ls.map vN)) ∧ k < ls.length ∧ ls.length ≤ 12 ∧ ∀ H', Same H H' → Q (.int (endsI ls k)) H'
def toldSign (c : Cd) (Q : VK) (H : Hp) : Prop := ∀ p H', Same H H' → H' p = some (.tup ((sgn c).map vN)) → Q (.ref p) H'
/-- the law's own -/
def spSign : Sp := fun vs H Q _ => ∃ v c, vs = [v] ∧ Cat H v c ∧ CdOk c ∧ toldSign c Q H
def spByWords : Sp := fun vs H Q _ => ∃ v c, vs = [v] ∧ Cat H v c ∧ CdOk c ∧ (∀ x ∈ c.2, x ≤ 100) ∧ toldSign c Q H
/-- what the law has counted when it has gone by the first i places -/
def cntA (c : Cd) (i : Nat) (k : Nat) : Int := (if k = c.1 then 1 else 0) + (if k < i then (len c k : Int) else 0) - sumR i fun b => (cnt c.2.length b k (len c b) : Int)
theorem cntA_zero (c : Cd) (k : Nat) : cntA c 0 k = if k = c.1 then 1 else 0 := by
  unfold cntA
  rw [if_neg (Nat.not_lt_zero k), sumR_zero]
  omega
theorem cntA_all {c : Cd} {k : Nat} (h : k < c.2.length) : cntA c c.2.length k = num c k := by
  unfold cntA num endsI
  rw [if_pos h]
  show _ + _ - sumR c.2.length (fun b => (cnt c.2.length b k (len c b) : Int)) = _ - sumR c.2.length (fun b => (cnt c.2.length b k (len c b) : Int)) + _
  omega
theorem cntA_succ (c : Cd) (i k : Nat) : cntA c (i + 1) k = cntA c i k + (if k = i then (len c i : Int) else 0) - (cnt c.2.length i k (len c i) : Int) := by
  unfold cntA
  rw [sumR_succ]
  rcases Nat.lt_trichotomy k i with h | h | h
  · rw [if_pos h, if_pos (show k < i + 1 by omega), if_neg (show ¬ k = i by omega)]
    omega
  · subst h
    rw [if_neg (Nat.lt_irrefl k), if_pos (Nat.lt_succ_self k), if_pos rfl]
    omega
  · rw [if_neg (show ¬ k < i by omega), if_neg (show ¬ k < i + 1 by omega), if_neg (show ¬ k = i by omega)]
    omega
theorem pull_way {p i k : Nat} (hi : i < p) (hk : k < p) (L : Nat) : (if (L : Int) - wayOf p i k + (p : Int) > 0 then (L : Int) - wayOf p i k + (p : Int) else 0) / (p : Int) = (cnt p i k L : Int) := by
  have hp : (0 : Int) < p := by omega
  have w0 : 0 ≤ ((k : Int) - i - 1) % p := Int.emod_nonneg _ (by omega)
  have w1 : ((k : Int) - i - 1) % p < p := Int.emod_lt_of_pos _ hp
  have e : (if (L : Int) - wayOf p i k + (p : Int) > 0 then (L : Int) - wayOf p i k + (p : Int) else 0) = (L : Int) - wayOf p i k + (p : Int) := by
    split
    · rfl
    · unfold wayOf at *
      omega
  rw [e, ← cnt_way hi hk]
  rw [show (L : Int) - wayOf p i k + (p : Int) = (L : Int) - wayOf p i k + (p : Int) * 1 by omega, Int.add_mul_ediv_left _ _ (by omega)]
/-- NoCoder of the one, of the other, NotLike; else what is told of the two -/
def spTwo (C1 C2 : Addr) (told : Cd → Cd → VK → Hp → Prop) : Sp := fun vs H Q E => ∃ v u d e, vs = [v, u] ∧ Th H v d ∧ Th H u e ∧ (isCd d = false → ∀ H', Same H H' → E (.ref C1) none H') ∧ (isCd d = true → isCd e = false → ∀ H', Same H H' → E (.ref C1) none H') ∧
  (∀ c c2, d = cdD c → CdOk c → e = cdD c2 → CdOk c2 → c.2.length ≠ c2.2.length → ∀ H', Same H H' → E (.ref C2) none H') ∧
  (∀ c c2, d = cdD c → CdOk c → e = cdD c2 → CdOk c2 → c.2.length = c2.2.length → told c c2 Q H)
def toldNone (_ _ : Cd) (Q : VK) (H : Hp) : Prop := ∀ H', Same H H' → Q .non H'
def toldOne (c c2 : Cd) (Q : VK) (H : Hp) : Prop := ∀ b H', (b = true ↔ sgn c = sgn c2) → Same H H' → Q (.bl b) H'
theorem two_of {C1 C2 : Addr} {told : Cd → Cd → VK → Hp → Prop} {Q : VK} {E : XK} {H : Hp} {v u : V} {c c2 : Cd} (cat : Cat H v c) (ok : CdOk c) (cat2 : Cat H u c2) (ok2 : CdOk c2) (l : c.2.length = c2.2.length) (k : told c c2 Q H) : spTwo C1 C2 told [v, u] H Q E := by
  refine ⟨v, u, cdD c, cdD c2, rfl, cat.th, cat2.th, fun z => ?_, fun _ z => ?_, fun a b ea _ eb _ ne => ?_, fun a b ea _ eb _ _ => ?_⟩
  · rw [isCd_cdD ok] at z
    cases z
  · rw [isCd_cdD ok2] at z
    cases z
  · have e1 := cdD_inj ea
    have e2 := cdD_inj eb
    subst e1 e2
    exact absurd l ne
  · have e1 := cdD_inj ea
    have e2 := cdD_inj eb
    subst e1 e2
    exact k
theorem sg_of {C1 : Addr} {Q : VK} {E : XK} {H : Hp} {v : V} {c : Cd} (cat : Cat H v c) (ok : CdOk c) (k : toldSign c Q H) : spOne C1 toldSign [v] H Q E := by
  refine ⟨v, cdD c, rfl, cat.th, fun z => ?_, fun c2 ec hc2 => ?_⟩
  · rw [isCd_cdD ok] at z
    cases z
  · have e2 := cdD_inj ec
    subst e2
    exact k
theorem isg_of {C1 : Addr} {Q : VK} {E : XK} {H : Hp} {v : V} {d : PyData} {p : Nat} (p1 : 1 ≤ p) (p12 : p ≤ 12) (h : Th H v d) (k : ∀ b H', (b = true ↔ IsSg p d) → Same H H' → Q (.bl b) H') : spIsSign C1 [.int (p : Int), v] H Q E := by
  refine ⟨_, v, .int (p : Int), d, rfl, .int _, h, fun z => ?_, fun p' e _ _ b H' hb s => ?_⟩
  · exfalso
    have y : (decide ((1 : Int) ≤ (p : Int)) && decide ((p : Int) ≤ 12)) = false := z
    rw [decide_eq_true (by omega), decide_eq_true (by omega)] at y
    cases y
  · have e2 : p' = p := by
      injection e with e
      omega
    subst e2
    exact k b H' hb s
end Lk
end
section
/-! What signs tell of rounds: mathematics. -/
namespace Lk
theorem endsI_eq (c : Cd) (k : Nat) : endsI c.2 k = sumR c.2.length fun b => (cnt c.2.length b k (len c b) : Int) := rfl
theorem num_nx {c : Cd} (h : COk c) (k : Nat) : num (nx c) k = num c k := by
  unfold num
  rw [endsI_eq, endsI_eq, nx_len]
  have e : sumR c.2.length (fun b => (cnt c.2.length b k (len (nx c) b) : Int)) = sumR c.2.length (fun b => (cnt c.2.length b k (len c b) : Int) + (if b = c.1 then (if k = (nx c).1 then 1 else 0) else 0)) := sumR_congr fun b _ => by
    by_cases g : b = c.1
    · subst g
      rw [len_nx_same h, if_pos rfl]
      show ((cnt c.2.length c.1 k (len c c.1) + (if (c.1 + (len c c.1 + 1)) % c.2.length = k then 1 else 0) : Nat) : Int) = _
      by_cases g2 : k = (nx c).1
      · rw [if_pos g2, if_pos (show (c.1 + (len c c.1 + 1)) % c.2.length = k from g2.symm)]
        rfl
      · rw [if_neg g2, if_neg (show ¬ (c.1 + (len c c.1 + 1)) % c.2.length = k from fun z => g2 z.symm)]
        rfl
    · rw [len_nx_ne g, if_neg g]
      omega
  rw [e, sumR_add, sumR_one h]
  by_cases g : k = c.1
  · subst g
    rw [len_nx_same h, if_pos rfl]
    push_cast
    omega
  · rw [len_nx_ne g, if_neg g]
    omega
theorem num_it : ∀ (n : Nat) {c : Cd}, COk c → ∀ k, num (it n c) k = num c k
  | 0, _, _, _ => rfl
  | n + 1, _, h, k => (num_it n (nx_ok h) k).trans (num_nx h k)
theorem sgn_of_num {c d : Cd} (l : c.2.length = d.2.length) (h : ∀ k, k < c.2.length → (num c k - num c 0) % (c.2.length : Int) = (num d k - num d 0) % (c.2.length : Int)) : sgn c = sgn d := by
  unfold sgn
  rw [← l]
  exact List.map_congr_left fun k hk => by rw [h k (List.mem_range.mp hk)]
theorem sgn_it (n : Nat) {c : Cd} (h : COk c) : sgn (it n c) = sgn c :=
  sgn_of_num (it_len n) fun k _ => by rw [num_it n h, num_it n h]
theorem sgn_num {c d : Cd} (l : c.2.length = d.2.length) (e : sgn c = sgn d) {k : Nat} (hk : k < c.2.length) : (num c k - num c 0) % (c.2.length : Int) = (num d k - num d 0) % (c.2.length : Int) := by
  have h1 := sgn_at hk
  rw [e, sgn_at (l ▸ hk)] at h1
  have h2 := Option.some.inj h1
  rw [← l] at h2
  have p1 := Int.emod_nonneg (num c k - num c 0) (show (c.2.length : Int) ≠ 0 by omega)
  have p2 := Int.emod_nonneg (num d k - num d 0) (show (c.2.length : Int) ≠ 0 by omega)
  omega
theorem cnt_add (p b k m : Nat) (hb : b < p) (hk : k < p) (L : Nat) : (cnt p b k (L + p * m) : Int) = (cnt p b k L : Int) + m := by
  rw [← cnt_way hb hk, ← cnt_way hb hk]
  have e : ((L + p * m : Nat) : Int) - wayOf p b k = ((L : Int) - wayOf p b k) + (p : Int) * (m : Int) := by
    push_cast
    omega
  rw [e, Int.add_mul_ediv_left _ _ (by omega)]
  omega
theorem num_more {c d : Cd} (l : d.2.length = c.2.length) (e1 : d.1 = c.1) {m : Nat → Nat} (h : ∀ k, k < c.2.length → len d k = len c k + c.2.length * m k) {k : Nat} (hk : k < c.2.length) :
    num d k = num c k + (c.2.length : Int) * m k - sumR c.2.length fun b => (m b : Int) := by
  unfold num
  rw [endsI_eq, endsI_eq, l, e1]
  have e : sumR c.2.length (fun b => (cnt c.2.length b k (len d b) : Int)) = sumR c.2.length (fun b => (cnt c.2.length b k (len c b) : Int) + (m b : Int)) := sumR_congr fun b hb => by
    rw [h b hb, cnt_add _ _ _ _ hb hk]
  rw [e, sumR_add, h k hk]
  push_cast
  omega
theorem sgn_more {c d : Cd} (l : d.2.length = c.2.length) (e1 : d.1 = c.1) {m : Nat → Nat} (h : ∀ k, k < c.2.length → len d k = len c k + c.2.length * m k) : sgn d = sgn c := by
  refine (sgn_of_num l.symm fun k hk => ?_).symm
  rw [num_more l e1 h hk, num_more l e1 h (Nat.lt_of_le_of_lt (Nat.zero_le _) hk)]
  rw [show num c k + (c.2.length : Int) * m k - sumR c.2.length (fun b => (m b : Int)) - (num c 0 + (c.2.length : Int) * m 0 - sumR c.2.length fun b => (m b : Int)) = (num c k - num c 0) + (c.2.length : Int) * ((m k : Int) - m 0) by
    rw [Int.mul_sub]
    omega]
  rw [Int.add_mul_emod_self_left]
/-- the lengths modulo the places -/
def bs (c : Cd) : Cd := (c.1, c.2.map (· % c.2.length))
theorem bs_len (c : Cd) : (bs c).2.length = c.2.length := List.length_map _
theorem bs_at {c : Cd} {k : Nat} (h : k < c.2.length) : len (bs c) k = len c k % c.2.length := by
  show (c.2.map (· % c.2.length)).getD k 0 = c.2.getD k 0 % c.2.length
  rw [List.getD_eq_getElem?_getD, List.getElem?_map, List.getD_eq_getElem?_getD, List.getElem?_eq_getElem h]
  rfl
theorem sgn_bs (c : Cd) : sgn (bs c) = sgn c := by
  refine (sgn_more (c := bs c) (d := c) (bs_len c).symm rfl (m := fun k => len c k / c.2.length) fun k hk => ?_).symm
  rw [bs_len] at hk ⊢
  rw [bs_at hk, Nat.add_comm, Nat.div_add_mod]
theorem ext_len {c d : Cd} (l : c.2.length = d.2.length) (e1 : c.1 = d.1) (h : ∀ k, k < c.2.length → len c k = len d k) : c = d := by
  refine Prod.ext e1 (List.ext_getElem l fun k h1 h2 => ?_)
  have z := h k h1
  unfold len at z
  rw [List.getD_eq_getElem?_getD, List.getD_eq_getElem?_getD, List.getElem?_eq_getElem h1, List.getElem?_eq_getElem h2] at z
  exact z
theorem sgn_cong {c d : Cd} (l : c.2.length = d.2.length) (e1 : c.1 = d.1) (h : ∀ k, k < c.2.length → len c k % c.2.length = len d k % c.2.length) : sgn c = sgn d := by
  rw [← sgn_bs c, ← sgn_bs d]
  refine congrArg sgn (ext_len (by rw [bs_len, bs_len, l]) e1 fun k hk => ?_)
  rw [bs_len] at hk
  rw [bs_at hk, bs_at (l ▸ hk), h k hk, l]
theorem go_cong {c d : Cd} (l : c.2.length = d.2.length) {k : Nat} (h : len c k % c.2.length = len d k % c.2.length) : go c k = go d k := by
  unfold go
  rw [← l, Nat.add_mod, h, ← Nat.add_mod]
theorem gon_cong {c d : Cd} (hc : COk c) (l : c.2.length = d.2.length) (h : ∀ k, k < c.2.length → len c k % c.2.length = len d k % c.2.length) : ∀ (n i : Nat), i < c.2.length → gon c n i = gon d n i
  | 0, _, _ => rfl
  | n + 1, i, hi => by
    show gon c n (go c i) = gon d n (go d i)
    rw [← go_cong l (h i hi)]
    exact gon_cong hc l h n _ (Nat.mod_lt _ (Nat.lt_of_le_of_lt (Nat.zero_le _) hc))
theorem free_cong {c d : Cd} (hc : COk c) (l : c.2.length = d.2.length) (e1 : c.1 = d.1) (h : ∀ k, k < c.2.length → len c k % c.2.length = len d k % c.2.length) (f : Free c) : Free d := fun i hi => by
  obtain ⟨k, e⟩ := f i (l ▸ hi)
  exact ⟨k, by rw [← gon_cong hc l h k i (l ▸ hi), e, e1]⟩
theorem cnt_mono (p b k : Nat) {L M : Nat} (h : L ≤ M) : cnt p b k L ≤ cnt p b k M := by
  induction h with
  | refl => exact Nat.le_refl _
  | step _ ih => exact Nat.le_trans ih (Nat.le_add_right _ _)
theorem cnt_lt {p b k L M : Nat} (h : L < M) (e : (b + M) % p = k) : cnt p b k L < cnt p b k M := by
  obtain ⟨m, rfl⟩ : ∃ m, M = m + 1 := ⟨M - 1, by omega⟩
  have z := cnt_mono p b k (show L ≤ m by omega)
  show _ < cnt p b k m + (if (b + (m + 1)) % p = k then 1 else 0)
  rw [if_pos e]
  omega
theorem sumR_le {p : Nat} {f g : Nat → Int} (h : ∀ k, k < p → f k ≤ g k) : sumR p f ≤ sumR p g := by
  induction p with
  | zero => exact Int.le_refl _
  | succ p ih =>
    rw [sumR_succ, sumR_succ]
    have a := ih fun k hk => h k (by omega)
    have b := h p (by omega)
    omega
theorem sumR_lt {p : Nat} {f g : Nat → Int} (h : ∀ k, k < p → f k ≤ g k) {j : Nat} (hj : j < p) (l : f j < g j) : sumR p f < sumR p g := by
  induction p with
  | zero => omega
  | succ p ih =>
    rw [sumR_succ, sumR_succ]
    by_cases e : j = p
    · subst e
      have a := sumR_le (p := j) fun k hk => h k (by omega)
      omega
    · have a := ih (fun k hk => h k (by omega)) (by omega)
      have b := h p (by omega)
      omega
theorem ends_le {x d : Cd} (l : d.2.length = x.2.length) (h : ∀ i, i < x.2.length → len x i ≤ len d i) (k : Nat) : endsI x.2 k ≤ endsI d.2 k := by
  rw [endsI_eq, endsI_eq, l]
  exact sumR_le fun b hb => Int.ofNat_le.mpr (cnt_mono _ _ _ (h b hb))
theorem ends_lt {x d : Cd} (l : d.2.length = x.2.length) (h : ∀ i, i < x.2.length → len x i ≤ len d i) {b : Nat} (hb : b < x.2.length) (hl : len x b < len d b) : endsI x.2 (go d b) < endsI d.2 (go d b) := by
  rw [endsI_eq, endsI_eq, l]
  exact sumR_lt (fun b hb => Int.ofNat_le.mpr (cnt_mono _ _ _ (h b hb))) hb (Int.ofNat_lt.mpr (cnt_lt hl (by unfold go; rw [l])))
/-- who is home with last goings that lead there has been walked to, where all that was counted is the same -/
theorem best : ∀ (n : Nat) {x d : Cd}, COk x → d.2.length = x.2.length → COk d → Free d → (∀ i, i < x.2.length → len x i ≤ len d i) → (∀ k, k < x.2.length → num x k = num d k) → d.2.sum = x.2.sum + n → d = it n x
  | 0, x, d, hx, l, hd, fr, le, nu, sm => by
    have eq : ∀ i, i < x.2.length → len x i = len d i := by
      refine S_eq x.2.length le ?_
      have a := S_getD x.2
      have b := S_getD d.2
      rw [l] at b
      show S x.2.length (fun i => x.2.getD i 0) = S x.2.length (fun i => d.2.getD i 0)
      omega
    have e1 : ((0, d.2) : Cd) = ((0, x.2) : Cd) := ext_len (c := (0, d.2)) (d := (0, x.2)) l rfl fun k hk => (eq k (l ▸ hk)).symm
    have e2' := congrArg Prod.snd e1
    have e2 : d.2 = x.2 := e2'
    have z := nu x.1 hx
    unfold num at z
    rw [if_pos rfl, e2, eq x.1 hx] at z
    by_cases g : x.1 = d.1
    · exact Prod.ext g.symm e2
    · rw [if_neg g] at z
      omega
  | n + 1, x, d, hx, l, hd, fr, le, nu, sm => by
    have key : len x x.1 < len d x.1 := by
      refine Nat.lt_of_not_le fun no => ?_
      have eqx : len x x.1 = len d x.1 := Nat.le_antisymm (le _ hx) no
      have z := nu x.1 hx
      have zl := ends_le l le x.1
      unfold num at z
      rw [if_pos rfl, eqx] at z
      have home : x.1 = d.1 := by
        by_cases g : x.1 = d.1
        · exact g
        · rw [if_neg g] at z
          omega
      rw [if_pos home] at z
      have ends0 : endsI x.2 x.1 = endsI d.2 x.1 := by omega
      obtain ⟨b, hb, hlb⟩ : ∃ b, b < x.2.length ∧ len x b < len d b := by
        refine Classical.byContradiction fun q => ?_
        have all : ∀ b, b < x.2.length → len d b ≤ len x b := fun b hb => Nat.le_of_not_lt fun z => q ⟨b, hb, z⟩
        have a := S_getD x.2
        have c := S_getD d.2
        rw [l] at c
        have m := S_mono x.2.length (f := fun i => d.2.getD i 0) (g := fun i => x.2.getD i 0) all
        omega
      have walk : ∀ (m b : Nat), b < x.2.length → len x b < len d b → gon d m b = d.1 → False := by
        intro m
        induction m with
        | zero =>
          intro b hb hlb e
          have e2 : b = x.1 := e.trans home.symm
          rw [e2] at hlb
          omega
        | succ m ih =>
          intro b hb hlb e
          have e2 : gon d m (go d b) = d.1 := e
          have hv : go d b < x.2.length := by
            rw [← l]
            exact Nat.mod_lt _ (Nat.lt_of_le_of_lt (Nat.zero_le _) hd)
          have lt := ends_lt l le hb hlb
          by_cases g : go d b = x.1
          · rw [g] at lt
            omega
          · refine ih _ hv ?_ e2
            have z2 := nu _ hv
            unfold num at z2
            rw [if_neg g, if_neg (fun y => g (y.trans home.symm))] at z2
            omega
      obtain ⟨m, e⟩ := fr b (l ▸ hb)
      exact walk m b hb hlb e
    refine best n (nx_ok hx) (l.trans nx_len.symm) hd fr (fun i hi => ?_) (fun k hk => ?_) ?_
    · rw [nx_len] at hi
      by_cases g : i = x.1
      · rw [g, len_nx_same hx]
        exact key
      · rw [len_nx_ne g]
        exact le i hi
    · rw [nx_len] at hk
      rw [num_nx hx]
      exact nu k hk
    · rw [sum_nx hx]
      omega
/-- one sign: the one comes to the other's place, lengths alike modulo the places -/
theorem sgn_best {c d : Cd} (hc : COk c) (hd : COk d) (l : d.2.length = c.2.length) (fr : Free d) (e : sgn c = sgn d) :
    ∃ n d', it n c = d' ∧ d'.2.length = d.2.length ∧ d'.1 = d.1 ∧ ∀ k, k < d.2.length → len d k ≤ len d' k ∧ len d' k % d.2.length = len d k % d.2.length := by
  have hp : 0 < c.2.length := Nat.lt_of_le_of_lt (Nat.zero_le _) hc
  have dv : ∀ k, k < c.2.length → ∃ q : Int, (num d k - num d 0) - (num c k - num c 0) = (c.2.length : Int) * q := fun k hk => by
    have z := sgn_num l.symm e hk
    exact Int.dvd_of_emod_eq_zero (by rw [Int.sub_emod, z, Int.sub_self, Int.zero_emod])
  obtain ⟨q, hq⟩ : ∃ q : Nat → Int, ∀ k, k < c.2.length → (num d k - num d 0) - (num c k - num c 0) = (c.2.length : Int) * q k := by
    refine ⟨fun k => ((num d k - num d 0) - (num c k - num c 0)) / (c.2.length : Int), fun k hk => ?_⟩
    obtain ⟨y, hy⟩ := dv k hk
    rw [hy]
    show (c.2.length : Int) * y = (c.2.length : Int) * (((num d k - num d 0) - (num c k - num c 0)) / (c.2.length : Int))
    rw [hy, Int.mul_ediv_cancel_left _ (by omega)]
  have sq : (c.2.length : Int) * (num d 0 - num c 0) + (c.2.length : Int) * sumR c.2.length q = 0 := by
    have s1 := num_sum hc
    have s2 := num_sum hd
    rw [l] at s2
    have s3 : sumR c.2.length (fun k => (c.2.length : Int) * q k) = sumR c.2.length (fun k => (num d k - num c k) - (num d 0 - num c 0)) := sumR_congr fun k hk => by
      have := hq k hk
      omega
    have s4 : sumR c.2.length (fun k => (num d k - num c k) - (num d 0 - num c 0)) = sumR c.2.length (num d) - sumR c.2.length (num c) - (c.2.length : Int) * (num d 0 - num c 0) := by
      rw [sumR_sub c.2.length (fun k => num d k - num c k) (fun _ => num d 0 - num c 0), sumR_const]
      have : sumR c.2.length (fun k => num d k - num c k) = sumR c.2.length (num d) - sumR c.2.length (num c) := sumR_sub _ _ _
      rw [this]
    have s5 : ∀ p : Nat, sumR p (fun k => (c.2.length : Int) * q k) = (c.2.length : Int) * sumR p q := fun p => by
      induction p with
      | zero => rw [sumR_zero, sumR_zero, Int.mul_zero]
      | succ p ih => rw [sumR_succ, sumR_succ, ih, Int.mul_add]
    rw [s5, s4, s1, s2] at s3
    omega
  have sq2 : num d 0 - num c 0 = - sumR c.2.length q := by
    have z : (c.2.length : Int) * ((num d 0 - num c 0) + sumR c.2.length q) = 0 := by rw [Int.mul_add]; exact sq
    rcases Int.mul_eq_zero.mp z with h | h
    · omega
    · omega
  obtain ⟨f0, hf0⟩ : ∃ f0 : Int, ∀ k, k < c.2.length → q k + (len c k : Int) ≤ f0 := by
    have ex : ∀ p : Nat, ∃ f0 : Int, ∀ k, k < p → q k + (len c k : Int) ≤ f0 := fun p => by
      induction p with
      | zero => exact ⟨0, fun k hk => absurd hk (Nat.not_lt_zero k)⟩
      | succ p ih =>
        obtain ⟨f, hf⟩ := ih
        refine ⟨max f (q p + (len c p : Int)), fun k hk => ?_⟩
        by_cases g : k = p
        · rw [g]
          exact Int.le_max_right _ _
        · exact Int.le_trans (hf k (by omega)) (Int.le_max_left _ _)
    exact ex _
  have hm : ∀ k, k < c.2.length → (((f0 - q k).toNat : Nat) : Int) = f0 - q k := fun k hk => Int.toNat_of_nonneg (by have := hf0 k hk; omega)
  let d' : Cd := (d.1, (List.range c.2.length).map fun k => len d k + c.2.length * (f0 - q k).toNat)
  have ld : d'.2.length = c.2.length := by
    show ((List.range c.2.length).map _).length = _
    rw [List.length_map, List.length_range]
  have ad : ∀ k, k < c.2.length → len d' k = len d k + c.2.length * (f0 - q k).toNat := fun k hk => by
    show ((List.range c.2.length).map _).getD k 0 = _
    rw [List.getD_eq_getElem?_getD, List.getElem?_map, List.getElem?_range hk]
    rfl
  have cg : ∀ k, k < d.2.length → len d k % d.2.length = len d' k % d.2.length := fun k hk => by
    rw [ad k (l ▸ hk), l, Nat.add_mul_mod_self_left]
  have hd' : COk d' := by
    show d.1 < d'.2.length
    rw [ld, ← l]
    exact hd
  have fr' : Free d' := free_cong hd (l.trans ld.symm) rfl cg fr
  have le : ∀ i, i < c.2.length → len c i ≤ len d' i := fun i hi => by
    rw [ad i hi]
    have z := hf0 i hi
    have z2 := hm i hi
    have z3 : (f0 - q i).toNat ≤ c.2.length * (f0 - q i).toNat := Nat.le_mul_of_pos_left _ hp
    omega
  have nu : ∀ k, k < c.2.length → num c k = num d' k := fun k hk => by
    have z := num_more (c := d) (d := d') (ld.trans l.symm) rfl (m := fun k => (f0 - q k).toNat) (fun k hk => by rw [l]; exact ad k (l ▸ hk)) (k := k) (by rw [l]; exact hk)
    rw [l] at z
    have z2 : sumR c.2.length (fun b => (((f0 - q b).toNat : Nat) : Int)) = (c.2.length : Int) * f0 - sumR c.2.length q := by
      rw [sumR_congr (g := fun b => f0 - q b) fun b hb => hm b hb, sumR_sub c.2.length (fun _ => f0) q, sumR_const]
    rw [z2, hm k hk, Int.mul_sub] at z
    have z3 := hq k hk
    omega
  have ls : c.2.sum ≤ d'.2.sum := sum_le ld.symm fun i hi => le i (ld ▸ hi)
  refine ⟨d'.2.sum - c.2.sum, d', (best (d'.2.sum - c.2.sum) hc ld hd' fr' le nu (by omega)).symm, ld.trans l.symm, rfl, fun k hk => ⟨?_, (cg k hk).symm⟩⟩
  rw [ad k (l ▸ hk)]
  exact Nat.le_add_right _ _
end Lk
end
section
/-! Signs of coders with a word more, and turned: mathematics. -/
namespace Lk
theorem mod_two {p x : Nat} (h : x < 2 * p) : x % p = if x < p then x else x - p := by
  split
  · exact Nat.mod_eq_of_lt (by assumption)
  · rename_i g
    rw [Nat.mod_eq_sub_mod (by omega), Nat.mod_eq_of_lt (by omega)]
/-- one word more at a place -/
def one (c : Cd) (i : Nat) : Cd := (c.1, c.2.set i (len c i + 1))
theorem one_len (c : Cd) (i : Nat) : (one c i).2.length = c.2.length := List.length_set
theorem one_same {c : Cd} {i : Nat} (h : i < c.2.length) : len (one c i) i = len c i + 1 := by
  show (c.2.set i _).getD i 0 = _
  rw [List.getD_eq_getElem?_getD, List.getElem?_set_self h]
  rfl
theorem one_ne {c : Cd} {i k : Nat} (h : k ≠ i) : len (one c i) k = len c k := by
  show (c.2.set i _).getD k 0 = c.2.getD k 0
  rw [List.getD_eq_getElem?_getD, List.getD_eq_getElem?_getD, List.getElem?_set_ne (Ne.symm h)]
theorem num_one {c : Cd} {i : Nat} (h : i < c.2.length) (k : Nat) : num (one c i) k = num c k + (if k = i then 1 else 0) - (if k = (i + (len c i + 1)) % c.2.length then 1 else 0) := by
  unfold num
  rw [endsI_eq, endsI_eq, one_len]
  have e : sumR c.2.length (fun b => (cnt c.2.length b k (len (one c i) b) : Int)) = sumR c.2.length (fun b => (cnt c.2.length b k (len c b) : Int) + (if b = i then (if k = (i + (len c i + 1)) % c.2.length then 1 else 0) else 0)) := sumR_congr fun b _ => by
    by_cases g : b = i
    · subst g
      rw [one_same h, if_pos rfl]
      show ((cnt c.2.length b k (len c b) + (if (b + (len c b + 1)) % c.2.length = k then 1 else 0) : Nat) : Int) = _
      by_cases g2 : k = (b + (len c b + 1)) % c.2.length
      · rw [if_pos g2, if_pos g2.symm]
        rfl
      · rw [if_neg g2, if_neg (fun z => g2 z.symm)]
        rfl
    · rw [one_ne g, if_neg g]
      omega
  have e1 : (one c i).1 = c.1 := rfl
  rw [e, sumR_add, sumR_one h, e1]
  by_cases g : k = i
  · subst g
    rw [one_same h, if_pos rfl]
    push_cast
    omega
  · rw [one_ne g, if_neg g]
    omega
theorem sumR_split (m n : Nat) (f : Nat → Int) : sumR (m + n) f = sumR m f + sumR n fun j => f (m + j) := by
  induction n with
  | zero => rw [sumR_zero]; simp
  | succ n ih => rw [show m + (n + 1) = (m + n) + 1 by omega, sumR_succ, sumR_succ, ih]; omega
theorem sumR_turn {p s : Nat} (h : s ≤ p) (g : Nat → Int) : sumR p (fun b => g ((b + s) % p)) = sumR p g := by
  obtain ⟨y, rfl⟩ : ∃ y, p = y + s := ⟨p - s, by omega⟩
  rw [sumR_split y s fun b => g ((b + s) % (y + s))]
  have e1 : sumR y (fun b => g ((b + s) % (y + s))) = sumR y (fun j => g (s + j)) := sumR_congr fun b hb => by
    rw [Nat.mod_eq_of_lt (by omega), Nat.add_comm]
  have e2 : sumR s (fun j => g ((y + j + s) % (y + s))) = sumR s g := sumR_congr fun j hj => by
    rw [show y + j + s = j + (y + s) by omega, Nat.add_mod_right, Nat.mod_eq_of_lt (by omega)]
  rw [e1, e2, Nat.add_comm y s, sumR_split s y g]
  omega
/-- turned: places called by so many more -/
def trn (c : Cd) (y : Nat) : Cd := ((c.1 + y) % c.2.length, c.2.drop (c.2.length - y) ++ c.2.take (c.2.length - y))
theorem trn_len (c : Cd) (y : Nat) : (trn c y).2.length = c.2.length := by
  show (c.2.drop (c.2.length - y) ++ c.2.take (c.2.length - y)).length = _
  rw [List.length_append, List.length_drop, List.length_take]
  omega
theorem rot_at {α : Type} {l : List α} {y k : Nat} (hy : y < l.length) (hk : k < l.length) : (l.drop (l.length - y) ++ l.take (l.length - y))[k]? = l[(k + (l.length - y)) % l.length]? := by
  rw [mod_two (by omega)]
  by_cases g : k < y
  · rw [List.getElem?_append_left (by rw [List.length_drop]; omega), List.getElem?_drop, if_pos (by omega), Nat.add_comm]
  · rw [List.getElem?_append_right (by rw [List.length_drop]; omega), List.length_drop, List.getElem?_take, if_pos (by omega), if_neg (by omega)]
    congr 1
    omega
theorem trn_at {c : Cd} {y k : Nat} (hy : y < c.2.length) (hk : k < c.2.length) : len (trn c y) k = len c ((k + (c.2.length - y)) % c.2.length) := by
  show (c.2.drop (c.2.length - y) ++ c.2.take (c.2.length - y)).getD k 0 = c.2.getD _ 0
  rw [List.getD_eq_getElem?_getD, List.getD_eq_getElem?_getD, rot_at hy hk]
theorem cnt_turn {p s b k : Nat} (hk : k < p) : ∀ L : Nat, cnt p b k L = cnt p ((b + s) % p) ((k + s) % p) L
  | 0 => rfl
  | L + 1 => by
    show cnt p b k L + (if (b + (L + 1)) % p = k then 1 else 0) = cnt p ((b + s) % p) ((k + s) % p) L + (if ((b + s) % p + (L + 1)) % p = (k + s) % p then 1 else 0)
    rw [cnt_turn (s := s) hk L]
    have e : (b + (L + 1)) % p = k ↔ ((b + s) % p + (L + 1)) % p = (k + s) % p := by
      rw [Nat.mod_add_mod, show b + s + (L + 1) = (b + (L + 1)) + s by omega]
      constructor
      · intro h
        rw [← Nat.mod_add_mod, h]
      · intro h
        have z : ((b + (L + 1) : Nat) : Int) % (p : Int) = (k : Int) % (p : Int) := by
          have h2 := congrArg (fun n : Nat => (n : Int)) h
          simp only [Int.natCast_emod, Int.natCast_add] at h2
          have h3 : (((b : Int) + ((L : Int) + 1) + (s : Int)) - s) % (p : Int) = (((k : Int) + s) - s) % (p : Int) := by
            rw [Int.sub_emod, show ((b : Int) + ((L : Int) + 1) + (s : Int)) % (p : Int) = ((k : Int) + s) % (p : Int) from h2, ← Int.sub_emod]
          rw [show (b : Int) + ((L : Int) + 1) + (s : Int) - s = ((b + (L + 1) : Nat) : Int) by push_cast; omega, show (k : Int) + s - s = k by omega] at h3
          exact h3
        have z2 : (((b + (L + 1)) % p : Nat) : Int) = ((k % p : Nat) : Int) := by
          rw [Int.natCast_emod, Int.natCast_emod]
          exact z
        rw [Int.ofNat.inj z2, Nat.mod_eq_of_lt hk]
    by_cases g : (b + (L + 1)) % p = k
    · rw [if_pos g, if_pos (e.mp g)]
    · rw [if_neg g, if_neg (fun z => g (e.mpr z))]
theorem num_trn {c : Cd} (h : COk c) {y k : Nat} (hy : y < c.2.length) (hk : k < c.2.length) : num (trn c y) k = num c ((k + (c.2.length - y)) % c.2.length) := by
  have hp : 0 < c.2.length := by omega
  unfold num
  rw [endsI_eq, endsI_eq, trn_len, trn_at hy hk]
  have e : sumR c.2.length (fun b => (cnt c.2.length b k (len (trn c y) b) : Int)) = sumR c.2.length (fun b => (fun b' => (cnt c.2.length b' ((k + (c.2.length - y)) % c.2.length) (len c b') : Int)) ((b + (c.2.length - y)) % c.2.length)) := sumR_congr fun b hb => by
    show _ = (cnt c.2.length ((b + (c.2.length - y)) % c.2.length) ((k + (c.2.length - y)) % c.2.length) (len c ((b + (c.2.length - y)) % c.2.length)) : Int)
    rw [trn_at hy hb, cnt_turn (s := c.2.length - y) hk]
  have e0 := e.trans (sumR_turn (p := c.2.length) (s := c.2.length - y) (by omega) fun b' => (cnt c.2.length b' ((k + (c.2.length - y)) % c.2.length) (len c b') : Int))
  rw [e0]
  have e1 : (k = (trn c y).1) ↔ ((k + (c.2.length - y)) % c.2.length = c.1) := by
    have h1 : c.1 < c.2.length := h
    show k = (c.1 + y) % c.2.length ↔ _
    rw [mod_two (x := c.1 + y) (by omega), mod_two (x := k + (c.2.length - y)) (by omega)]
    split <;> split <;> omega
  by_cases g : k = (trn c y).1
  · rw [if_pos g, if_pos (e1.mp g)]
  · rw [if_neg g, if_neg (fun z => g (e1.mpr z))]
theorem trn_ok {c : Cd} (h : COk c) (y : Nat) : COk (trn c y) := by
  show (c.1 + y) % c.2.length < (trn c y).2.length
  rw [trn_len]
  exact Nat.mod_lt _ (Nat.lt_of_le_of_lt (Nat.zero_le _) h)
theorem emod_two (a x b y p : Int) : (a % p + x - (b % p + y)) % p = ((a + x) - (b + y)) % p := by
  rw [Int.sub_emod, Int.emod_add_emod, Int.emod_add_emod, ← Int.sub_emod]
end Lk
end
section
set_option maxRecDepth 100000
set_option maxHeartbeats 2000000
/-! Tables less their first number; turned ones. -/
namespace Lk
open PySem PySem.Spec PyProof.Rows L2
def lessF (p : Nat) (f : Nat → Int) : List V := tab p fun k => (f k - f 0) % (p : Int)
def spLessL : Sp := fun vs H Q _ => ∃ (a : Addr) (p : Nat) (f : Nat → Int), vs = [.ref a] ∧ H a = some (.lst (tab p f)) ∧ 1 ≤ p ∧ p ≤ 12 ∧ ∀ q H', Same H H' → H' q = some (.tup (lessF p f)) → Q (.ref q) H'
def spLessT : Sp := fun vs H Q _ => ∃ (a : Addr) (p : Nat) (f : Nat → Int), vs = [.ref a] ∧ H a = some (.tup (tab p f)) ∧ 1 ≤ p ∧ p ≤ 12 ∧ ∀ q H', Same H H' → H' q = some (.tup (lessF p f)) → Q (.ref q) H'
theorem lessF_sgn {c d : Cd} (l : d.2.length = c.2.length) {f : Nat → Int} (h : ∀ k, k < c.2.length → (f k - f 0) % (c.2.length : Int) = (num d k - num d 0) % (c.2.length : Int)) : lessF c.2.length f = (sgn d).map vN := by
  rw [sgn_tab, l]
  exact tab_congr h
/-- what is counted with one word more -/
theorem less_one {c : Cd} {i : Nat} (h : i < c.2.length) (f : Nat → Int) (hf : ∀ k, k < c.2.length → f k = (num c k - num c 0) % (c.2.length : Int) + (if k = i then 1 else 0) - (if k = (i + (len c i + 1)) % c.2.length then 1 else 0)) : lessF c.2.length f = (sgn (one c i)).map vN := by
  refine lessF_sgn (one_len c i) fun k hk => ?_
  rw [hf k hk, hf 0 (by omega), num_one h, num_one h]
  generalize (if k = i then (1 : Int) else 0) = a
  generalize (if k = (i + (len c i + 1)) % c.2.length then (1 : Int) else 0) = b
  generalize (if (0 : Nat) = i then (1 : Int) else 0) = a0
  generalize (if (0 : Nat) = (i + (len c i + 1)) % c.2.length then (1 : Int) else 0) = b0
  rw [show ∀ x y : Int, x + a - b - (y + a0 - b0) = x + (a - b) - (y + (a0 - b0)) from fun x y => by omega, emod_two]
  congr 1
  omega
theorem less_turn {c : Cd} (h : COk c) {y : Nat} (hy : y < c.2.length) (f : Nat → Int) (hf : ∀ k, k < c.2.length → f k = (num c ((k + (c.2.length - y)) % c.2.length) - num c 0) % (c.2.length : Int)) : lessF c.2.length f = (sgn (trn c y)).map vN := by
  have hp : 0 < c.2.length := by omega
  refine lessF_sgn (trn_len c y) fun k hk => ?_
  rw [hf k hk, hf 0 hp, num_trn h hy hk, num_trn h hy hp, ← Int.sub_emod]
  congr 1
  omega
theorem tab_rot {p y : Nat} (hy : y < p) (f : Nat → Int) : (tab p f).drop (p - y) ++ (tab p f).take (p - y) = tab p fun k => f ((k + (p - y)) % p) := by
  refine List.ext_getElem? fun k => ?_
  by_cases hk : k < p
  · have z := rot_at (l := tab p f) (y := y) (k := k) (by rw [tab_len]; exact hy) (by rw [tab_len]; exact hk)
    rw [tab_len] at z
    rw [z, tab_at _ (Nat.mod_lt _ (by omega)), tab_at _ hk]
  · rw [List.getElem?_eq_none (by rw [List.length_append, List.length_drop, List.length_take, tab_len]; omega), List.getElem?_eq_none (by rw [tab_len]; omega)]
/-- NoCoder, NoCount; else told -/
theorem of_of {C1 C2 : Addr} {m : Nat} {told : Cd → Nat → VK → Hp → Prop} {Q : VK} {E : XK} {H : Hp} {v : V} {c : Cd} {n : Nat} (cat : Cat H v c) (ok : CdOk c) (hn : n ≤ m) (k : told c n Q H) : spOf C1 C2 m told [v, .int (n : Int)] H Q E := by
  refine ⟨v, .int (n : Int), cdD c, .int (n : Int), rfl, cat.th, .int _, fun z => ?_, fun _ z => ?_, fun c2 n2 ec _ en _ => ?_⟩
  · rw [isCd_cdD ok] at z
    cases z
  · exfalso
    have y : (decide ((0 : Int) ≤ (n : Int)) && decide ((n : Int) ≤ (m : Int))) = false := z
    rw [decide_eq_true (by omega), decide_eq_true (by omega)] at y
    cases y
  · have e := cdD_inj ec
    have e2 : n2 = n := by injection en with en; omega
    subst e e2
    exact k
end Lk
end
section
set_option maxRecDepth 100000
set_option maxHeartbeats 4000000
namespace Lk
open PySem PySem.Spec PyProof.Rows L2
/-- what the law calls -/
structure Calls (P : Program) (w : World) (K : PySem.W.Frag) (mg : Str → Option Value) (base : Heap) (C1 : Addr) : Prop where
  bag : C8.Cal P w K mg base 1 "_law_bag" spBag []
  pick : C8.Cal P w K mg base 1 "_law_pick" spPick []
  coder : C8.Cal P w K mg base 2 "_law_coder" spCoder []
  rings : C8.Cal P w K mg base 2 "_law_rings" spRings []
  others : C8.Cal P w K mg base 2 "_law_others" spOthers []
  ring : CalX P w K mg base 5 "ring" (spOne C1 toldRing)
  isr : CalX P w K mg base 5 "is_ring" (spIsRing C1)
  inr : CalX P w K mg base 6 "in_round" (spOne C1 toldIn)
  range : mg "range" = none
  len : mg "len" = none
  repr : mg "repr" = none
  tuple : mg "tuple" = none
  min : mg "min" = none
theorem one_of {C1 : Addr} {T : Cd → VK → Hp → Prop} {Q : VK} {E : XK} {H : Hp} {v : V} {c : Cd} (cat : Cat H v c) (ok : CdOk c) (k : T c Q H) : spOne C1 T [v] H Q E := by
  refine ⟨v, cdD c, rfl, cat.th, fun z => ?_, fun c2 ec hc2 => ?_⟩
  · rw [isCd_cdD ok] at z
    cases z
  · have e2 := cdD_inj ec
    subst e2
    exact k
theorem rep_it {K : PySem.W.Frag} {H : Hp} {Q : VK} {v : V} {d : PyData} (t : Th H v d) (g : Good d) (nd : ∀ kvs, d ≠ .dict kvs) (q : Q (.str d.shown) H) : rRep K [v] H Q := by
  refine ⟨v, d, rfl, Th.dq _ t, nd, g.1, by have := g.2.1; omega, ?_, q⟩
  have a := shown_wt d
  have b := g.2.2
  rw [sizeLine_eq]
  omega
def rD (r : List Nat) : PyData := .list (r.map dN)
def oD : Option (List Nat) → PyData
  | none => .none
  | some r => rD r
theorem rows_th {H0 H : Hp} : ∀ {us : List V} {fs : List (List Nat)}, RowsV H0 H us fs → ThAll H us (fs.map rD)
  | [], [], _ => .nil
  | _ :: _, _ :: _, ⟨⟨_, e, _, h⟩, t⟩ => by
    subst e
    exact .cons (.lst h (ints_nat _)) (rows_th t)
theorem lay_rows : ∀ fs : List (List Nat), PyData.canLayAll0 (fs.map rD) = true
  | [] => by simp [PyData.canLayAll0]
  | r :: fs => by
    rw [List.map_cons]
    simp only [rD, PyData.canLayAll0, PyData.canLay0, layAll_ints, Bool.true_and]
    exact lay_rows fs
theorem dep_rows : ∀ fs : List (List Nat), PyData.depthAll (fs.map rD) ≤ 1
  | [] => by simp [PyData.depthAll]
  | r :: fs => by
    rw [List.map_cons]
    have z := dep_rows fs
    simp only [rD, PyData.depthAll, PyData.depth, depthAll_ints]
    omega
theorem shaped_rows (fs : List (List Nat)) : SeqAt.shaped (.list (fs.map rD)) = true := by
  unfold SeqAt.shaped
  rw [Bool.and_eq_true]
  refine ⟨by simp only [PyData.canLay0, lay_rows], decide_eq_true ?_⟩
  have z := dep_rows fs
  simp only [PyData.depth]
  refine Nat.le_trans (m := 3) (by omega) (by decide)
theorem eqv_nil (fs : List (List Nat)) : PyData.eqv (.list (fs.map rD)) (.list []) = decide (fs = []) := by
  cases fs with
  | nil => simp [PyData.eqv, PyData.eqvAll]
  | cons r fs => simp [PyData.eqv, PyData.eqvAll]
theorem good_r {r : List Nat} (h : r.length ≤ 12 ∧ ∀ x ∈ r, x ≤ 12) : Good (rD r) := (oth_lst h.2 (by omega)).2
theorem repD_it {K : PySem.W.Frag} {H : Hp} {Q : VK} {v : V} {d : PyData} (t : Th H v d) (g : Good d) (q : Q (.str d.shown) H) : rRepD K [v] H Q := by
  cases t with
  | dct e => exact .inr ⟨_, rfl, e, q⟩
  | non => exact .inl (rep_it .non g (fun _ z => nomatch z) q)
  | bl b => exact .inl (rep_it (.bl b) g (fun _ z => nomatch z) q)
  | int i => exact .inl (rep_it (.int i) g (fun _ z => nomatch z) q)
  | str x => exact .inl (rep_it (.str x) g (fun _ z => nomatch z) q)
  | lst e m => exact .inl (rep_it (.lst e m) g (fun _ z => nomatch z) q)
  | tup e m => exact .inl (rep_it (.tup e m) g (fun _ z => nomatch z) q)
theorem RowsV.rm {H0 H : Hp} {A : Addr} (n : ∀ p, H0 p = none → p ≠ A) : ∀ {us : List V} {rs : List (List Nat)}, RowsV H0 H us rs → RowsV H0 (rm A H) us rs
  | [], [], _ => trivial
  | _ :: _, _ :: _, ⟨⟨p, e, h, x⟩, t⟩ => ⟨⟨p, e, h, by rw [rm_ne (n p h)]; exact x⟩, RowsV.rm n t⟩
theorem wts_len : ∀ ds : List PyData, ds.length ≤ wts ds
  | [] => Nat.zero_le _
  | d :: ds => by
    have := wts_len ds
    show ds.length + 1 ≤ wt d + 2 + wts ds
    omega
theorem inV_txt {x : Str} : ∀ l : List Str, inV (.str x) (l.map V.str) = decide (x ∈ l)
  | [] => by simp [inV]
  | y :: l => by
    have ih := inV_txt (x := x) l
    unfold inV at ih ⊢
    rw [List.map_cons, List.any_cons, ih]
    show ((y == x) || _) = _
    by_cases e : y = x
    · subst e
      simp
    · have e2 : ¬ x = y := fun z => e z.symm
      simp [e, e2]
theorem good_b (b : Bool) : Good (.bool b) := by cases b <;> exact good_c (by decide +kernel)
theorem none_nil {fs : List (List Nat)} : fs[0]? = none ↔ fs = [] := by
  cases fs with
  | nil => simp
  | cons r fs => simp
def spLaw (K : PySem.W.Frag) : Sp := fun vs H Q _ => ∃ (a : Addr) (ns : List Int), vs = [.ref a] ∧ SqL K H a (ns.map V.int) ∧ ns.length ≤ 63 ∧ ∀ H', Q (.bl true) H'
abbrev nL : List Str := ["script", "cell", "bag", "drawn", "p", "narrow", "led_so", "coder", "rings", "again", "found", "thing", "kept", "due", "k", "one"]
section
variable {P : Program} {w : World} {K : PySem.W.Frag} {mg : Str → Option Value} {base : Heap}
theorem sc_law : FnScope nL ["script"] (defScope s_law) := ⟨rfl, rfl, rfl, by decide +kernel, rfl, by decide +kernel, by decide +kernel⟩
theorem ok_law {f C1 : Addr} {fd : FuncData} (F : Fun K "law" "law" s_law f fd) (T : Calls P w K mg base C1) : FnG P w K mg base CX0 12 f fd ["script"] (spLaw K) := by
  refine fnG F sc_law (fun {vs H Q E} h => ?_) (fun cdv A outer s H vs Q E gA hr h => ?_)
  · obtain ⟨a, ns, rfl, _⟩ := h
    rfl
  · obtain ⟨a, ns, rfl, hS, h63, q⟩ := h
    have nd := sc_law.nd
    have hu0 := hr.un
    have hu : (A.deeper (envOfC "law" (defScope s_law) s.heap.objs.size f cdv)).units + 100 < cLine := by omega
    have hu64 : (A.deeper (envOfC "law" (defScope s_law) s.heap.objs.size f cdv)).units + 64 < cLine := by omega
    refine ⟨_, (pss_cons (by exact (ps_for PassesOwn.never rfl (pi_list (pe_op op_catS (pe_slice sl_list (pv 0) po_none (po_some pe_int)) (pe_lstS (pa_cons pe_int pa_nil)))) (pg_name (i := 1) nd rfl (Or.inl rfl)) (pss_cons (by exact (ps_set (i := 2) nd rfl (Or.inr rfl) (C8.pe_c T.bag hr (by decide) rfl (pa_cons (pv 1) pa_nil))))
      (pss_cons (by exact (ps_set (i := 3) nd rfl (Or.inl rfl) (C8.pe_c T.coder hr (by decide) rfl (pa_cons (pv 2) (pa_cons pe_int pa_nil)))))
      (pss_cons (by exact (ps_set (i := 4) nd rfl (Or.inr rfl) (pe_callB call_len_seq (by rfl) T.len PySem.boot_len (pa_cons (pe_ix ix_tup (pv 3) pe_int (fun _ _ => rfl)) pa_nil))))
      (pss_cons (by exact (ps_set (i := 5) nd rfl (Or.inr rfl) (pe_ix ix_list (pe_lstS (pa_cons pe_int (pa_cons (pe_callB (call_min2 rfl) (by rfl) T.min (by decide +kernel) (pa_cons pe_int (pa_cons (pv 4) pa_nil))) (pa_cons (pv 4) pa_nil)))) (C8.pe_c T.pick hr (by decide) rfl (pa_cons (pv 2) (pa_cons pe_int pa_nil))) (fun _ _ => rfl))))
      (C8.pss_cut (by exact (ps_set (i := 6) nd rfl (Or.inl rfl) (pe_tupS (pa_cons (pe_ix ix_tup (pv 3) pe_int (fun _ _ => rfl)) (pa_cons (pe_callTy call_tupS (by rfl) T.tuple (by decide +kernel) (pa_cons (pe_lc (own := [("k", 14)]) (g := (gName 14)) (tt := tYes) rfl nd (pi_range1 (by rfl) T.range (pa_cons (pv 4) pa_nil)) (blkOk_by (N := nL) (sc := defScope s_law) (by decide +kernel)) (fun _ _ _ _ _ => (pg_name (i := 14) nd rfl (Or.inl rfl))) (fun _ _ _ _ _ => pts_nil) (fun _ _ _ _ _ => (pe_op op_add (pe_op op_mul (pv 4) (C8.pe_c T.pick hr (by decide) rfl (pa_cons (pv 2) (pa_cons pe_int pa_nil)))) (C8.pe_c T.pick hr (by decide) rfl (pa_cons (pv 2) (pa_cons (pv 5) pa_nil)))))) pa_nil)) pa_nil)))))
      (pss_one (by exact (ps_for PassesOwn.never rfl (pi_list (pe_lstS (pa_cons (pv 3) (pa_cons (pv 6) pa_nil)))) (pg_name (i := 7) nd rfl (Or.inl rfl)) (pss_cons (by exact (ps_set (i := 8) nd rfl (Or.inl rfl) (C8.pe_c T.rings hr (by decide) rfl (pa_cons (pv 7) pa_nil))))
      (pss_cons (by exact (ps_for PassesOwn.never rfl (pi_range1 (by rfl) T.range (pa_cons pe_int pa_nil)) (pg_name (i := 9) nd rfl (Or.inl rfl)) (pss_cons (by exact (ps_set (i := 10) nd rfl (Or.inl rfl) (pe_c0 T.ring hr (by decide) rfl (pa_cons (pv 7) pa_nil))))
      (pss_cons (by exact (ps_if (PW.pt (pw_or (pt_cmpR op_ne (pe_callB (call_rep gA hu) (by rfl) T.repr (by decide +kernel) (pa_cons (pv 10) pa_nil)) (pe_callB (call_rep gA hu) (by rfl) T.repr (by decide +kernel) (pa_cons (pe_ifExp (pt_cmpR (op_neD hu64) (pv 8) (pe_lstS pa_nil) (nomark _)) (pe_ix ix_list (pv 8) pe_int (fun _ _ => rfl)) pe_non) pa_nil)) (nomark _)) (pw_or1 (pt_cmpR op_ne (pe_c0 T.inr hr (by decide) rfl (pa_cons (pv 7) pa_nil)) (pe_cmpR (op_eqD hu64) (pv 8) (pe_lstS pa_nil) (nomark _)) (nomark _))))) (pss_one (by exact (ps_ret pe_bl))) pss_nil))
      (pss_one (by exact (ps_if (pt_cmpR op_notN (pv 10) pe_non (nomark _)) (pss_one (by exact (ps_expr (pe_bm PySem.F.plainAttrs_list PySem.F.slot_list_append PySem.F.type_list_append mt_append (pv 10) (pa_cons pe_int pa_nil))))) pss_nil)))))))
      (pss_one (by exact (ps_for PassesOwn.never rfl (pi_list (C8.pe_c T.others hr (by decide) rfl (pa_cons (pv 2) (pa_cons (pv 7) (pa_cons (pv 8) pa_nil))))) (pg_name (i := 11) nd rfl (Or.inl rfl)) (pss_cons (by exact (ps_set (i := 12) nd rfl (Or.inl rfl) (pe_callB (call_repD gA hu) (by rfl) T.repr (by decide +kernel) (pa_cons (pv 11) pa_nil))))
      (pss_cons (by exact (ps_set (i := 13) nd rfl (Or.inl rfl) (pe_cmpR op_in_seq (pv 12) (pe_lc (own := [("one", 15)]) (g := (gName 15)) (tt := tYes) rfl nd (pi_list (pv 8)) (blkOk_by (N := nL) (sc := defScope s_law) (by decide +kernel)) (fun _ _ _ _ _ => (pg_name (i := 15) nd rfl (Or.inl rfl))) (fun _ _ _ _ _ => pts_nil) (fun _ _ _ _ _ => (pe_callB (call_repK (K := K) rfl gA hu) (by rfl) T.repr (by decide +kernel) (pa_cons (pv 15) pa_nil)))) rfl)))
      (pss_one (by exact (ps_if (PW.pt (pw_or (pt_cmpR op_ne (pe_callB (call_rep gA hu) (by rfl) T.repr (by decide +kernel) (pa_cons (pe_c0 T.isr hr (by decide) rfl (pa_cons (pv 7) (pa_cons (pv 11) pa_nil))) pa_nil)) (pe_callB (call_rep gA hu) (by rfl) T.repr (by decide +kernel) (pa_cons (pv 13) pa_nil)) (nomark _)) (pw_or1 (pt_cmpR op_ne (pe_callB (call_repD gA hu) (by rfl) T.repr (by decide +kernel) (pa_cons (pv 11) pa_nil)) (pv 12) (nomark _))))) (pss_one (by exact (ps_ret pe_bl))) pss_nil))))))))))))))))))))
      (pss_one (by exact (ps_ret pe_bl)))), ?_⟩
    refine ⟨_, rfl, _, rfl, a, _, rfl, hS, fun p1 n1 => ⟨(by show 1 ≤ sizeLine; decide), fun p2 HB n2 sB e2 => ?_⟩⟩
    refine ⟨p1, p2, _, _, rfl, rfl, sB _ _ upd_same, e2, ?_, fun L HL nL sL eL => ?_⟩
    · have z := cells_len (k := 12) h63
      show _ + 1 ≤ sizeLine
      rw [sizeLine_eq]
      omega
    have cint := cells_ints (ns := ns) (k := 12)
    generalize cutV (ns.map V.int) Option.none (some 12) ++ [V.int 0] = cells at cint eL
    refine ⟨L, rfl, ⟨_, SqL.of eL⟩, for_list (K := K) (a := L) (xs := cells) (fun i σ H1 => ∃ y1 y2 y3 y4 y5 y6 y7 y8 y9 y10 y11 y12 y13 y14 y15, σ = [some (.ref a), y1, y2, y3, y4, y5, y6, y7, y8, y9, y10, y11, y12, y13, y14, y15] ∧ Same HL H1) ⟨none, none, none, none, none, none, none, none, none, none, none, none, none, none, none, rfl, Same.refl _⟩ (fun i σ H1 _ h => by
      obtain ⟨_, _, _, _, _, _, _, _, _, _, _, _, _, _, _, _, q⟩ := h
      exact SqL.of (q _ _ eL)) ?_ ?_⟩
    · rintro i x σ H1 hx ⟨y1, y2, y3, y4, y5, y6, y7, y8, y9, y10, y11, y12, y13, y14, y15, rfl, s1⟩
      obtain ⟨z, rfl⟩ := cint x (List.mem_of_getElem? hx)
      refine ⟨_, rfl, z, rfl, fun A1 b nA => ?_⟩
      have nLA : HL A1 = none := s1.free nA
      refine ⟨_, rfl, A1, 12, rfl, ⟨b, upd_same⟩, by decide, by decide, fun cv c H3 hc hcm hlt bA sb cat => ?_⟩
      have s3 : Same HL H3 := fun b o e => sb b o (ne_of_none e nLA) (by rw [upd_ne (ne_of_none e nLA)]; exact s1 b o e)
      have hp := hc.pos
      have h12 := hc.2
      have cat3 := cat
      obtain ⟨ca, lb, rfl, hca, hlb⟩ := id cat
      refine ⟨_, rfl, ca, _, 1, _, rfl, rfl, SqT.of hca, rfl, lb, _, rfl, .inr (SqT.of hlb), ?_⟩
      rw [List.length_map]
      refine ⟨_, rfl, 2, (c.2.length : Int), rfl, _, rfl, (by show 3 ≤ sizeLine; decide), fun L1 H4 nL1 s4 e4 => ?_⟩
      have b4 := bA.same s4
      have naL1 := bA.ne nL1
      refine ⟨_, rfl, A1, 3, rfl, b4, by decide, by decide, fun v0 H5 v00 v01 b5 sb5 => ?_⟩
      have e5 := sb5 L1 _ naL1.symm e4
      obtain ⟨nr, n0, n12, hnr⟩ : ∃ nr : Int, 0 < nr ∧ nr ≤ 12 ∧ ([V.int 1, V.int (if (c.2.length : Int) < 2 then (c.2.length : Int) else 2), V.int (c.2.length : Int)] : List V)[v0.toNat]? = some (V.int nr) := by
        obtain ⟨j, rfl⟩ := Int.eq_ofNat_of_zero_le v00
        match j, v01 with
        | 0, _ => exact ⟨1, by decide, by decide, rfl⟩
        | 1, _ => exact ⟨if (c.2.length : Int) < 2 then (c.2.length : Int) else 2, by split <;> omega, by split <;> omega, rfl⟩
        | 2, _ => exact ⟨(c.2.length : Int), by omega, by omega, rfl⟩
        | j + 3, z => exact absurd z (by omega)
      refine ⟨L1, _, v0, V.int nr, rfl, rfl, SqL.of e5, ?_, ?_⟩
      · rw [show v0 = ((v0.toNat : Nat) : Int) by omega]
        exact atI_nat hnr
      have sb35 : SameBut A1 H3 H5 := fun b o n e => sb5 b o n (s4 _ _ e)
      have cat5 : Cat (rm A1 H5) (.ref ca) c := by
        obtain ⟨bb, eb⟩ := bA
        have nca : ca ≠ A1 := fun z => by rw [z, eb] at hca; cases hca
        have nlb : lb ≠ A1 := fun z => by rw [z, eb] at hlb; cases hlb
        exact ⟨ca, lb, rfl, by rw [rm_ne nca]; exact sb35 _ _ nca hca, by rw [rm_ne nlb]; exact sb35 _ _ nlb hlb⟩
      have s5 : Same HL H5 := fun b o e => sb35 b o (ne_of_none e nLA) (s3 b o e)
      clear e4 e5 sb35 sb5 s4 nL1 cat3 cat hca hlb bA sb s3 b4 naL1 hnr
      refine ⟨fun σ' H' => ∃ lv d y14, σ' = [some (.ref a), some (.int z), some (.ref A1), some (.ref ca), some (.int (c.2.length : Int)), some (.int nr), some lv, y7, y8, y9, y10, y11, y12, y13, y14, y15] ∧ Bag H' A1 ∧ SameBut A1 H5 H' ∧ Cat (rm A1 H') lv d ∧ CdOk d, ?_, ?_⟩
      · obtain ⟨ca', lb', ec, hca, hlb⟩ := id cat5
        cases ec
        obtain ⟨nca, hca5⟩ := rm_at hca
        refine ⟨_, rfl, ca, _, ((0 : Nat) : Int), _, rfl, rfl, SqT.of hca5, atI_nat rfl, _, rfl, (c.2.length : Int), rfl, by omega, by omega, fun D nD => ?_⟩
        rw [Int.toNat_natCast]
        have naD := b5.ne nD
        refine lc_it walk_range (fun i H6 => ∃ ls : List Nat, ls.length = i ∧ H6 D = some (.lst (ls.map vN)) ∧ Bag H6 A1 ∧ SameBut A1 H5 H6) ⟨[], rfl, upd_same, b5.same (same_new nD), but_of (same_new nD)⟩ (fun _ _ _ _ => True.intro) ?_ ?_
        · rintro i x H6 H7 hi ⟨ls, hl, eD, b6, sb6⟩ ⟨rfl, rfl⟩
          refine ⟨rfl, _, rfl, _, rfl, A1, 9, rfl, b6, by decide, by decide, fun v1 H8 v10 v11 b8 sb8 => ?_⟩
          refine ⟨_, _, rfl, rfl, .inl ⟨by omega, by omega⟩, _, rfl, _, rfl, A1, nr, rfl, b8, n0, (by exact Int.le_trans n12 (by decide)), fun v2 H9 v20 v21 b9 sb9 => ?_⟩
          obtain ⟨k1, rfl⟩ := Int.eq_ofNat_of_zero_le v10
          obtain ⟨k2, rfl⟩ := Int.eq_ofNat_of_zero_le v20
          have e9 := sb9 D _ naD.symm (sb8 D _ naD.symm eD)
          refine ⟨_, _, rfl, rfl, _, e9, ?_, ls ++ [c.2.length * k1 + k2], ?_, ?_, ?_, ?_⟩
          · rw [List.length_map, hl]
            exact Nat.lt_of_lt_of_le (show i < 13 by omega) (by decide)
          · rw [List.length_append, hl]
            rfl
          · rw [upd_same, List.map_append]
            rfl
          · obtain ⟨bb, eb⟩ := b9
            exact ⟨bb, by rw [upd_ne naD]; exact eb⟩
          · intro b o n e
            rw [upd_ne (ne_of_none e nD)]
            exact sb9 b o n (sb8 b o n (sb6 b o n e))
        · rintro H6 ⟨ls, hl, eD, b6, sb6⟩
          refine ⟨D, _, rfl, .inl ⟨eD, fun T H7 nT s7 eT => ⟨(by show 2 ≤ sizeLine; decide), fun U H8 nU s8 eU => ?_⟩⟩⟩
          have b8 := (b6.same s7).same s8
          have nTA := (b6.ne nT).symm
          have nUA := ((b6.same s7).ne nU).symm
          refine ⟨.ref U, (c.1, ls), _, rfl, b8, fun b o n e => s8 _ _ (s7 _ _ (sb6 b o n e)), ⟨U, T, rfl, by rw [rm_ne nUA]; exact eU, by rw [rm_ne nTA]; exact s8 _ _ eT⟩, ?_, ?_⟩
          · show c.1 < ls.length
            rw [hl]
            exact hc.1
          · show ls.length ≤ 12
            omega
      rintro σ1 H6 ⟨lv, d2, y14', rfl, b6, sb6, cat2, hc2⟩
      have cat1 : Cat (rm A1 H6) (.ref ca) c := cat5.same (rm_but sb6)
      have s6 : Same HL H6 := fun b o e => sb6 b o (ne_of_none e nLA) (s5 b o e)
      clear cat5 s5 b5 sb6
      refine ⟨_, rfl, _, rfl, (by show 2 ≤ sizeLine; decide), fun W H7 nW s7 eW => ?_⟩
      have nWA := (b6.ne nW).symm
      have each : ∀ (i : Nat) (x : V), ([.ref ca, lv] : List V)[i]? = some x → ∃ d, Cat (rm A1 H7) x d ∧ CdOk d := fun i x hx => by
        match i, hx with
        | 0, hx => cases hx; exact ⟨c, cat1.same (rm_mono s7), hc⟩
        | 1, hx => cases hx; exact ⟨_, cat2.same (rm_mono s7), hc2⟩
        | i + 2, hx => simp at hx
      refine ⟨W, rfl, ⟨_, SqL.of eW⟩, for_list (K := K) (a := W) (xs := [.ref ca, lv]) (fun i σ H8 => ∃ y7 y8 y9 y10 y11 y12 y13 y14 y15, σ = [some (.ref a), some (.int z), some (.ref A1), some (.ref ca), some (.int (c.2.length : Int)), some (.int nr), some lv, y7, y8, y9, y10, y11, y12, y13, y14, y15] ∧ Bag H8 A1 ∧ SameBut A1 H7 H8) ⟨_, _, _, _, _, _, _, _, _, rfl, b6.same s7, but_of (Same.refl _)⟩ (fun i σ H1 _ h => by
        obtain ⟨_, _, _, _, _, _, _, _, _, _, _, sb⟩ := h
        exact SqL.of (sb _ _ nWA eW)) ?_ ?_⟩
      · clear y7 y8 y9 y10 y11 y12 y13 y14 y15 y14'
        rintro i x σ H8 hx ⟨y7, y8, y9, y10, y11, y12, y13, y14, y15, rfl, b8, sb8⟩
        obtain ⟨d, catd, okd⟩ := each i x hx
        have catr : Cat (rm A1 H8) x d := catd.same (rm_but sb8)
        have cat8 : Cat H8 x d := catr.same rm_same
        have dl := okd.2
        refine ⟨_, rfl, x, d, rfl, cat8, okd, fun FO H9 us fs nF s9 eF rv fnd => ?_⟩
        have ul := rv.len
        have fl := fnd.len
        have frs : ∀ r ∈ fs, r ≠ [] ∧ r.length ≤ 12 ∧ ∀ x ∈ r, x ≤ 12 := fun r hr => by
          obtain ⟨aa, k, ha, rk, rfl⟩ := (fnd.mem r).mp hr
          refine ⟨fun z => ?_, ?_, fun y hy => ?_⟩
          · have := congrArg List.length z
            rw [ringL_len] at this
            exact absurd this (by have := rk.pos; show k ≠ 0; omega)
          · have z := nodup_below (ringL_nodup rk) (p := d.2.length) (fun x hx => by
              unfold ringL at hx
              obtain ⟨j, _, rfl⟩ := List.mem_map.mp hx
              exact gon_lt okd.1 ha j)
            omega
          · unfold ringL at hy
            obtain ⟨j, _, rfl⟩ := List.mem_map.mp hy
            have := gon_lt okd.1 ha j
            omega
        refine ⟨2, rfl, by decide, by decide, ?_⟩
        refine for_range (lo := 0) (n := 2) (fun j σ H10 => ∃ y9 y10, σ = [some (.ref a), some (.int z), some (.ref A1), some (.ref ca), some (.int (c.2.length : Int)), some (.int nr), some lv, some x, some (.ref FO), y9, y10, y11, y12, y13, y14, y15] ∧ Same H9 H10) ⟨_, _, rfl, Same.refl _⟩ ?_ ?_
        · rintro j σ H10 hj ⟨y9', y10', rfl, s10⟩
          refine ⟨_, rfl, one_of (cat8.same (s9.trans s10)) okd fun r v H11 rof s11 lv' => ?_⟩
          have rf : r = fs[0]? := fnd.first okd.1 rof
          have gr : ∀ l, r = some l → l.length ≤ 12 ∧ ∀ x ∈ l, x ≤ 12 := fun l hl => by
            rw [rf] at hl
            exact (frs l (List.mem_of_getElem? hl)).2
          have th : Th H11 v (oD r) := by
            cases r with
            | none => cases lv'; exact .non
            | some l =>
              obtain ⟨p, rfl, _, e⟩ := lv'
              exact .lst e (ints_nat l)
          have gd : Good (oD r) := by
            cases r with
            | none => exact oth_none.2
            | some l => exact good_r (gr l rfl)
          have ndd : ∀ kvs, oD r ≠ .dict kvs := fun kvs => by cases r <;> exact fun z => nomatch z
          refine ⟨_, rfl, ?_⟩
          dsimp only [tNil]
          refine rep_it th gd ndd ?_
          have s911 : Same H9 H11 := s10.trans s11
          have rv11 : RowsV H8 H11 us fs := rv.same s911
          refine ⟨_, rfl, (by show 0 ≤ sizeLine; exact Nat.zero_le _), fun Z1 H12 nZ1 s12 eZ1 => ?_⟩
          refine ⟨_, _, Th.dp _ (by simp only [PyData.canLay0, lay_rows]) (.lst (s12 _ _ (s911 _ _ eF)) (rows_th (rv11.same s12))), .lst (SqL.of eZ1) .nil, shaped_rows fs, (by decide +kernel), ?_⟩
          rw [eqv_nil]
          rcases Classical.em (fs = []) with hfs | hfs
          · rw [decide_eq_true hfs]
            refine ⟨_, rfl, iteF ?_⟩
            have thn : Th H12 V.non (oD r) := by rw [rf, hfs]; exact .non
            dsimp only [tC, tNil]
            refine rep_it thn gd ndd ?_
            refine ⟨rfl, _, rfl, ne_no rfl ?_⟩
            refine ⟨_, rfl, one_of (cat8.same ((s9.trans s911).trans s12)) okd fun bb H13 hbb s13 => ?_⟩
            have eF13 := s13 _ _ (s12 _ _ (s911 _ _ eF))
            have rv13 := (rv11.same s12).same s13
            refine ⟨_, rfl, (by show 0 ≤ sizeLine; exact Nat.zero_le _), fun Z2 H14 nZ2 s14 eZ2 => ?_⟩
            refine ⟨_, _, Th.dp _ (by simp only [PyData.canLay0, lay_rows]) (.lst (s14 _ _ eF13) (rows_th (rv13.same s14))), .lst (SqL.of eZ2) .nil, shaped_rows fs, (by decide +kernel), ?_⟩
            rw [eqv_nil]
            have ebb : bb = decide (fs = []) := by
              have z := ringOf_free okd.1 rof
              rw [Bool.eq_iff_iff, hbb, ← z, rf, decide_eq_true_iff]
              exact none_nil
            rw [← ebb]
            refine ⟨rfl, _, rfl, ne_no rfl ?_⟩
            have s914 : Same H9 H14 := s911.trans (s12.trans (s13.trans s14))
            have s1114 : Same H11 H14 := s12.trans (s13.trans s14)
            have d1114 : Same H10 H14 := s11.trans s1114
            cases r with
            | none =>
              cases lv'
              refine ⟨_, rfl, rfl, _, rfl, ?_⟩
              refine ne_no rfl ?_
              exact ⟨_, _, rfl, s10.trans d1114⟩
            | some l =>
              obtain ⟨pf, rfl, npf, epf⟩ := lv'
              refine ⟨_, rfl, rfl, _, rfl, ?_⟩
              refine ne_yes (fun z => nomatch z) ?_
              refine ⟨_, rfl, .inl ⟨rfl, _, SqL.of (s1114 _ _ epf)⟩, ?_⟩
              exact ⟨pf, _, .int 0, rfl, rfl, s1114 _ _ epf, (by rw [List.length_map, sizeLine_eq]; have := (gr l rfl).1; omega), _, _, rfl, same_push s914 (s10.free npf)⟩
          · rw [decide_eq_false hfs]
            refine ⟨_, rfl, iteT ?_⟩
            obtain ⟨u0, hu0⟩ : ∃ u0, us[0]? = some u0 := ⟨us[0]'(by rw [ul]; exact List.length_pos_iff.mpr hfs), List.getElem?_eq_getElem _⟩
            obtain ⟨r0, p0, hr0, rfl, _, ep0⟩ := (rv11.same s12).at hu0
            have thn : Th H12 (.ref p0) (oD r) := by rw [rf, hr0]; exact .lst ep0 (ints_nat _)
            refine ⟨_, rfl, FO, us, ((0 : Nat) : Int), .ref p0, rfl, rfl, SqL.of (s12 _ _ (s911 _ _ eF)), atI_nat hu0, ?_⟩
            dsimp only [tC, tNil]
            refine rep_it thn gd ndd ?_
            refine ⟨rfl, _, rfl, ne_no rfl ?_⟩
            refine ⟨_, rfl, one_of (cat8.same ((s9.trans s911).trans s12)) okd fun bb H13 hbb s13 => ?_⟩
            have eF13 := s13 _ _ (s12 _ _ (s911 _ _ eF))
            have rv13 := (rv11.same s12).same s13
            refine ⟨_, rfl, (by show 0 ≤ sizeLine; exact Nat.zero_le _), fun Z2 H14 nZ2 s14 eZ2 => ?_⟩
            refine ⟨_, _, Th.dp _ (by simp only [PyData.canLay0, lay_rows]) (.lst (s14 _ _ eF13) (rows_th (rv13.same s14))), .lst (SqL.of eZ2) .nil, shaped_rows fs, (by decide +kernel), ?_⟩
            rw [eqv_nil]
            have ebb : bb = decide (fs = []) := by
              have z := ringOf_free okd.1 rof
              rw [Bool.eq_iff_iff, hbb, ← z, rf, decide_eq_true_iff]
              exact none_nil
            rw [← ebb]
            refine ⟨rfl, _, rfl, ne_no rfl ?_⟩
            have s914 : Same H9 H14 := s911.trans (s12.trans (s13.trans s14))
            have s1114 : Same H11 H14 := s12.trans (s13.trans s14)
            have d1114 : Same H10 H14 := s11.trans s1114
            cases r with
            | none =>
              cases lv'
              refine ⟨_, rfl, rfl, _, rfl, ?_⟩
              refine ne_no rfl ?_
              exact ⟨_, _, rfl, s10.trans d1114⟩
            | some l =>
              obtain ⟨pf, rfl, npf, epf⟩ := lv'
              refine ⟨_, rfl, rfl, _, rfl, ?_⟩
              refine ne_yes (fun z => nomatch z) ?_
              refine ⟨_, rfl, .inl ⟨rfl, _, SqL.of (s1114 _ _ epf)⟩, ?_⟩
              exact ⟨pf, _, .int 0, rfl, rfl, s1114 _ _ epf, (by rw [List.length_map, sizeLine_eq]; have := (gr l rfl).1; omega), _, _, rfl, same_push s914 (s10.free npf)⟩
        rintro σ H10 ⟨y9', y10', rfl, s10⟩
        have s810 : Same H8 H10 := s9.trans s10
        have b10 := b8.same s810
        have nA : ∀ p, H8 p = none → p ≠ A1 := fun p h => (b8.ne h).symm
        refine ⟨_, rfl, _, rfl, _, rfl, A1, FO, x, d, H8, us, fs, rfl, b10, catr.same (rm_mono s810), okd, (by rw [rm_ne (nA _ nF)]; exact s10 _ _ eF), (rv.same s10).rm nA, by omega, frs, fun S H11 ts ds b11 sb11 nS eS tht oth => ?_⟩
        have cat11 : Cat H11 x d := (catr.same ((rm_mono s810).trans (rm_but sb11))).same rm_same
        have eF11 := sb11 _ _ (nA _ nF) (s10 _ _ eF)
        have rv11 : RowsV H8 H11 us fs := (((rv.same s10).rm nA).same (rm_but sb11)).same rm_same
        have tl := tht.length
        refine ⟨S, rfl, ⟨_, SqL.of eS⟩, for_list (K := K) (a := S) (xs := ts) (fun j σ H12 => ∃ y9 y10 y11 y12 y13 y14 y15, σ = [some (.ref a), some (.int z), some (.ref A1), some (.ref ca), some (.int (c.2.length : Int)), some (.int nr), some lv, some x, some (.ref FO), y9, y10, y11, y12, y13, y14, y15] ∧ Same H11 H12) ⟨_, _, _, _, _, _, _, rfl, Same.refl _⟩ (fun i σ H1 _ h => by
          obtain ⟨_, _, _, _, _, _, _, _, s⟩ := h
          exact SqL.of (s _ _ eS)) ?_ ?_⟩
        · clear y9 y10 y11 y12 y13 y14 y15 y9' y10'
          rintro j t σ H12 ht ⟨y9, y10, y11, y12, y13, y14, y15, rfl, s12⟩
          obtain ⟨dt, hdt, tdt⟩ := tht.get ht
          have mdt := List.mem_of_getElem? hdt
          have o := oth dt mdt
          have tt : Th H12 t dt := Th.same s12 _ (Th.same rm_same _ tdt)
          refine ⟨_, rfl, ?_⟩
          dsimp only [tNil]
          refine repD_it tt o.2 ?_
          refine ⟨_, rfl, _, rfl, FO, rfl, ⟨us, SqL.of (s12 _ _ eF11)⟩, fun D nD => ?_⟩
          have eF12 := s12 _ _ eF11
          have rv12 := rv11.same s12
          refine lc_it walk_list (fun i G => Same H12 G ∧ G D = some (.lst (((fs.map fun r => (rD r).shown).take i).map V.str))) ⟨same_new nD, upd_same⟩ (fun i G _ p => SqL.of (p.1 _ _ eF12)) ?_ ?_
          · rintro i u G G2 hi ⟨sg, eg⟩ ⟨rfl, hu⟩
            obtain ⟨r, pr, hr', rfl, _, epr⟩ := (rv12.same sg).at hu
            refine ⟨rfl, _, rfl, ?_⟩
            dsimp only [tNil]
            refine rep_it (d := rD r) (.lst epr (ints_nat r)) (good_r (frs r (List.mem_of_getElem? hr')).2) (fun _ z => nomatch z) ?_
            obtain ⟨acc, a1, a2, a3⟩ := snoc_map (f := V.str) eg (show (fs.map fun r => (rD r).shown)[i]? = some (rD r).shown by rw [List.getElem?_map, hr']; rfl) (by rw [List.length_map]; omega)
            exact ⟨acc, a1, a2, same_push sg nD, a3⟩
          rintro G ⟨sg, eg⟩
          rw [ul, show fs.length = (fs.map fun r => (rD r).shown).length from (List.length_map ..).symm, List.take_length] at eg
          refine ⟨D, _, rfl, .inl (SqL.of eg), rfl, ?_, ?_⟩
          · rw [List.all_eq_true]
            intro y hy
            obtain ⟨w, _, rfl⟩ := List.mem_map.mp hy
            rfl
          show gName 13 (V.bl (inV (V.str dt.shown) ((fs.map fun r => (rD r).shown).map V.str))) _ _ _
          rw [inV_txt]
          have sg11 := s12.trans sg
          have catG := cat11.same sg11
          have ttG : Th G t dt := Th.same sg _ tt
          refine ⟨_, rfl, _, rfl, x, t, cdD d, dt, rfl, catG.th, ttG, fun es he => ?_, fun z => ?_, fun c2 ec ok2 b2 H13 hb2 s13 => ?_⟩
          · have w1 := o.2.2.2
            rw [he] at w1
            have w2 := wts_len es
            have w3 : 2 + wts es ≤ 2000 := w1
            omega
          · rw [isCd_cdD okd] at z
            cases z
          have e2 := cdD_inj ec
          subst e2
          have edue : b2 = decide (dt.shown ∈ fs.map fun r => (rD r).shown) := by
            rw [Bool.eq_iff_iff, hb2, decide_eq_true_iff, List.mem_map]
            have z := due_ring fnd o
            refine ⟨fun ⟨aa, k, ha, rk, e⟩ => ?_, fun ⟨r, hr, e⟩ => ?_⟩
            · obtain ⟨r, hr, e3⟩ := z.mpr ⟨aa, k, ha, rk, e⟩
              exact ⟨r, hr, e3.symm⟩
            · exact z.mp ⟨r, hr, e.symm⟩
          rw [← edue]
          dsimp only [tNil]
          refine rep_it (.bl b2) (good_b b2) (fun _ z => nomatch z) ?_
          refine ⟨_, rfl, ?_⟩
          dsimp only [tNil]
          refine rep_it (.bl b2) (good_b b2) (fun _ z => nomatch z) ?_
          refine ⟨rfl, _, rfl, ne_no rfl ?_⟩
          refine ⟨_, rfl, ?_⟩
          dsimp only [tNil]
          refine repD_it (Th.same s13 _ ttG) o.2 ?_
          refine ⟨_, rfl, rfl, _, rfl, ne_no rfl ?_⟩
          refine ⟨_, _, _, _, _, _, _, rfl, ?_⟩
          exact Same.trans s12 (Same.trans sg s13)
        · rintro σ H12 ⟨y9, y10, y11, y12, y13, y14, y15, rfl, s12⟩
          exact ⟨_, _, _, _, _, _, _, _, _, rfl, b11.same s12, fun b o n e => s12 _ _ (sb11 b o n (s810 _ _ (sb8 b o n e)))⟩
      · rintro σ H8 ⟨y7, y8, y9, y10, y11, y12, y13, y14, y15, rfl, b8, sb8⟩
        exact ⟨_, _, _, _, _, _, _, _, _, _, _, _, _, _, _, rfl, fun b o e => sb8 b o (ne_of_none e nLA) (s7 _ _ (s6 _ _ e))⟩
    · rintro σ H1 ⟨y1, y2, y3, y4, y5, y6, y7, y8, y9, y10, y11, y12, y13, y14, y15, rfl, s1⟩
      exact q H1
end
end Lk
end
section
set_option maxRecDepth 100000
set_option maxHeartbeats 4000000
namespace Lk
open PySem PySem.Spec PyProof.Rows L2
theorem mkCal {P : Program} {w : World} {K : PySem.W.Frag} {mg : Str → Option Value} {base : Heap} {k : Nat} {x q : Str} {st : Stmt} {f : Addr} {fd : FuncData} {ps : List Str} {sp : Sp} (F : Fun K x q st f fd) (g : mg x = some (.ref f)) (b : Binds K fd ps []) (ok : FnOk P w K mg base CX0 k f fd ps sp) : C8.Cal P w K mg base k x sp [] :=
  ⟨f, fd, ps, [], ok, g, F.kp, b, .nil⟩
theorem mkCalX {P : Program} {w : World} {K : PySem.W.Frag} {mg : Str → Option Value} {base : Heap} {k : Nat} {x q : Str} {st : Stmt} {f : Addr} {fd : FuncData} {ps : List Str} {sp : Sp} (F : Fun K x q st f fd) (g : mg x = some (.ref f)) (b : Binds K fd ps []) (ok : FnOk P w K mg base (L2.CX P w) k f fd ps sp) : CalX P w K mg base k x sp :=
  ⟨f, fd, ps, ok, g, F.kp, b⟩
theorem mkCalG {P : Program} {w : World} {K : PySem.W.Frag} {mg : Str → Option Value} {base : Heap} {k : Nat} {x q : Str} {st : Stmt} {f : Addr} {fd : FuncData} {ps : List Str} {sp : Sp} (F : Fun K x q st f fd) (g : mg x = some (.ref f)) (b : Binds K fd ps []) (ok : FnG P w K mg base CX0 k f fd ps sp) : CalG P w K mg base k x sp :=
  ⟨f, fd, ps, ok, g, F.kp, b⟩
theorem kit_no {K : PySem.W.Frag} {C D : Addr} (self : PySem.W.subIn K (.ref C) (.ref C) = some true) (hc : PySem.W.isClsIn K D = true) (ht : PySem.W.typeIn K (.ref D) = some (.type "type")) (hs : PySem.W.subIn K (.ref C) (.ref D) = some false) : PySem.W.kitOne K (.ref C) (.ref D) = some false := by
  have ne : ¬ ((Value.ref C == Value.ref D) = true) := fun z => by
    have e : C = D := Value.ref.inj (eq_of_beq z)
    rw [← e, self] at hs
    cases hs
  have hc' : (PySem.W.clsIn K D).isSome = true := hc
  unfold PySem.W.kitOne
  rw [if_neg ne]
  show (if ((PySem.W.clsIn K D).isSome && PySem.W.typeIn K (.ref D) == some (.type "type")) = true then PySem.W.subIn K (.ref C) (.ref D) else none) = some false
  rw [hc', ht, if_pos (by rfl)]
  exact hs
theorem kit_ve {K : PySem.W.Frag} {C : Addr} (hs : PySem.W.subIn K (.ref C) (.type "ValueError") = some true) : PySem.W.kitOne K (.ref C) (.type "ValueError") = some true := by
  unfold PySem.W.kitOne
  rw [if_neg (show ¬ ((Value.ref C == Value.type "ValueError") = true) from fun z => nomatch z)]
  show (if PySem.W.kitMeta "ValueError" = true then PySem.W.subIn K (.ref C) (.type "ValueError") else none) = some true
  rw [if_pos (by decide +kernel)]
  exact hs
theorem all_mk {l : PySem.W.OpenLaw} {w : World} {K : PySem.W.Frag} {h : Heap} {mg : Str → Option Value} {fa : Addr} (X : K.In h) (G : h.Ns mainGlobals mg) (hfa : mg "law" = some (.ref fa))
    {f_is_whole f_is_within f_is_coder f_refuse_no_coder f_last_goings f_ring_from f_ring f_is_ring f_in_round f__law_bag f__law_pick f__law_coder f__law_ways f__law_rings f__law_others f_law : Addr} {od_is_whole an_is_whole od_is_within an_is_within od_is_coder an_is_coder od_refuse_no_coder an_refuse_no_coder od_last_goings an_last_goings od_ring_from an_ring_from od_ring an_ring od_is_ring an_is_ring od_in_round an_in_round od__law_bag an__law_bag od__law_pick an__law_pick od__law_coder an__law_coder od__law_ways an__law_ways od__law_rings an__law_rings od__law_others an__law_others od_law an_law : Option Addr} {sl_is_whole sl_is_within sl_is_coder sl_refuse_no_coder sl_last_goings sl_ring_from sl_ring sl_is_ring sl_in_round sl__law_bag sl__law_pick sl__law_coder sl__law_ways sl__law_rings sl__law_others sl_law : Array (Option Value)} {oc_is_whole kV_is_whole dc_is_whole pm_is_whole cd_is_whole ct_is_whole oc_is_within kV_is_within dc_is_within pm_is_within cd_is_within ct_is_within oc_is_coder kV_is_coder dc_is_coder pm_is_coder cd_is_coder ct_is_coder oc_refuse_no_coder kV_refuse_no_coder dc_refuse_no_coder pm_refuse_no_coder cd_refuse_no_coder ct_refuse_no_coder oc_last_goings kV_last_goings dc_last_goings pm_last_goings cd_last_goings ct_last_goings oc_ring_from kV_ring_from dc_ring_from pm_ring_from cd_ring_from ct_ring_from oc_ring kV_ring dc_ring pm_ring cd_ring ct_ring oc_is_ring kV_is_ring dc_is_ring pm_is_ring cd_is_ring ct_is_ring oc_in_round kV_in_round dc_in_round pm_in_round cd_in_round ct_in_round oc__law_bag kV__law_bag dc__law_bag pm__law_bag cd__law_bag ct__law_bag oc__law_pick kV__law_pick dc__law_pick pm__law_pick cd__law_pick ct__law_pick oc__law_coder kV__law_coder dc__law_coder pm__law_coder cd__law_coder ct__law_coder oc__law_ways kV__law_ways dc__law_ways pm__law_ways cd__law_ways ct__law_ways oc__law_rings kV__law_rings dc__law_rings pm__law_rings cd__law_rings ct__law_rings oc__law_others kV__law_others dc__law_others pm__law_others cd__law_others ct__law_others oc_law kV_law dc_law pm_law cd_law ct_law : Value}
    {A_NoCoder : Addr}
    {t_MOST_PLACES : Tok}
    (a_is_whole : PySem.W.nsIn K mainGlobals "is_whole" = some (some (.ref f_is_whole))) (l_is_whole : K.lookup f_is_whole = some ⟨oc_is_whole, od_is_whole, .func (PySem.W.fnOf "is_whole" "is_whole" (defArgs s_is_whole) (defBody s_is_whole) (defScope s_is_whole) .none kV_is_whole dc_is_whole pm_is_whole an_is_whole cd_is_whole ct_is_whole), sl_is_whole⟩) (c_is_whole : PySem.W.codeIn K cd_is_whole "is_whole" = true) (k_is_whole : PySem.W.keepIn K (.ref f_is_whole) = true)
    (a_is_within : PySem.W.nsIn K mainGlobals "is_within" = some (some (.ref f_is_within))) (l_is_within : K.lookup f_is_within = some ⟨oc_is_within, od_is_within, .func (PySem.W.fnOf "is_within" "is_within" (defArgs s_is_within) (defBody s_is_within) (defScope s_is_within) .none kV_is_within dc_is_within pm_is_within an_is_within cd_is_within ct_is_within), sl_is_within⟩) (c_is_within : PySem.W.codeIn K cd_is_within "is_within" = true) (k_is_within : PySem.W.keepIn K (.ref f_is_within) = true)
    (a_is_coder : PySem.W.nsIn K mainGlobals "is_coder" = some (some (.ref f_is_coder))) (l_is_coder : K.lookup f_is_coder = some ⟨oc_is_coder, od_is_coder, .func (PySem.W.fnOf "is_coder" "is_coder" (defArgs s_is_coder) (defBody s_is_coder) (defScope s_is_coder) .none kV_is_coder dc_is_coder pm_is_coder an_is_coder cd_is_coder ct_is_coder), sl_is_coder⟩) (c_is_coder : PySem.W.codeIn K cd_is_coder "is_coder" = true) (k_is_coder : PySem.W.keepIn K (.ref f_is_coder) = true)
    (a_refuse_no_coder : PySem.W.nsIn K mainGlobals "refuse_no_coder" = some (some (.ref f_refuse_no_coder))) (l_refuse_no_coder : K.lookup f_refuse_no_coder = some ⟨oc_refuse_no_coder, od_refuse_no_coder, .func (PySem.W.fnOf "refuse_no_coder" "refuse_no_coder" (defArgs s_refuse_no_coder) (defBody s_refuse_no_coder) (defScope s_refuse_no_coder) .none kV_refuse_no_coder dc_refuse_no_coder pm_refuse_no_coder an_refuse_no_coder cd_refuse_no_coder ct_refuse_no_coder), sl_refuse_no_coder⟩) (c_refuse_no_coder : PySem.W.codeIn K cd_refuse_no_coder "refuse_no_coder" = true) (k_refuse_no_coder : PySem.W.keepIn K (.ref f_refuse_no_coder) = true)
    (a_last_goings : PySem.W.nsIn K mainGlobals "last_goings" = some (some (.ref f_last_goings))) (l_last_goings : K.lookup f_last_goings = some ⟨oc_last_goings, od_last_goings, .func (PySem.W.fnOf "last_goings" "last_goings" (defArgs s_last_goings) (defBody s_last_goings) (defScope s_last_goings) .none kV_last_goings dc_last_goings pm_last_goings an_last_goings cd_last_goings ct_last_goings), sl_last_goings⟩) (c_last_goings : PySem.W.codeIn K cd_last_goings "last_goings" = true) (k_last_goings : PySem.W.keepIn K (.ref f_last_goings) = true)
    (a_ring_from : PySem.W.nsIn K mainGlobals "ring_from" = some (some (.ref f_ring_from))) (l_ring_from : K.lookup f_ring_from = some ⟨oc_ring_from, od_ring_from, .func (PySem.W.fnOf "ring_from" "ring_from" (defArgs s_ring_from) (defBody s_ring_from) (defScope s_ring_from) .none kV_ring_from dc_ring_from pm_ring_from an_ring_from cd_ring_from ct_ring_from), sl_ring_from⟩) (c_ring_from : PySem.W.codeIn K cd_ring_from "ring_from" = true) (k_ring_from : PySem.W.keepIn K (.ref f_ring_from) = true)
    (a_ring : PySem.W.nsIn K mainGlobals "ring" = some (some (.ref f_ring))) (l_ring : K.lookup f_ring = some ⟨oc_ring, od_ring, .func (PySem.W.fnOf "ring" "ring" (defArgs s_ring) (defBody s_ring) (defScope s_ring) .none kV_ring dc_ring pm_ring an_ring cd_ring ct_ring), sl_ring⟩) (c_ring : PySem.W.codeIn K cd_ring "ring" = true) (k_ring : PySem.W.keepIn K (.ref f_ring) = true)
    (a_is_ring : PySem.W.nsIn K mainGlobals "is_ring" = some (some (.ref f_is_ring))) (l_is_ring : K.lookup f_is_ring = some ⟨oc_is_ring, od_is_ring, .func (PySem.W.fnOf "is_ring" "is_ring" (defArgs s_is_ring) (defBody s_is_ring) (defScope s_is_ring) .none kV_is_ring dc_is_ring pm_is_ring an_is_ring cd_is_ring ct_is_ring), sl_is_ring⟩) (c_is_ring : PySem.W.codeIn K cd_is_ring "is_ring" = true) (k_is_ring : PySem.W.keepIn K (.ref f_is_ring) = true)
    (a_in_round : PySem.W.nsIn K mainGlobals "in_round" = some (some (.ref f_in_round))) (l_in_round : K.lookup f_in_round = some ⟨oc_in_round, od_in_round, .func (PySem.W.fnOf "in_round" "in_round" (defArgs s_in_round) (defBody s_in_round) (defScope s_in_round) .none kV_in_round dc_in_round pm_in_round an_in_round cd_in_round ct_in_round), sl_in_round⟩) (c_in_round : PySem.W.codeIn K cd_in_round "in_round" = true) (k_in_round : PySem.W.keepIn K (.ref f_in_round) = true)
    (a__law_bag : PySem.W.nsIn K mainGlobals "_law_bag" = some (some (.ref f__law_bag))) (l__law_bag : K.lookup f__law_bag = some ⟨oc__law_bag, od__law_bag, .func (PySem.W.fnOf "_law_bag" "_law_bag" (defArgs s_law_bag) (defBody s_law_bag) (defScope s_law_bag) .none kV__law_bag dc__law_bag pm__law_bag an__law_bag cd__law_bag ct__law_bag), sl__law_bag⟩) (c__law_bag : PySem.W.codeIn K cd__law_bag "_law_bag" = true) (k__law_bag : PySem.W.keepIn K (.ref f__law_bag) = true)
    (a__law_pick : PySem.W.nsIn K mainGlobals "_law_pick" = some (some (.ref f__law_pick))) (l__law_pick : K.lookup f__law_pick = some ⟨oc__law_pick, od__law_pick, .func (PySem.W.fnOf "_law_pick" "_law_pick" (defArgs s_law_pick) (defBody s_law_pick) (defScope s_law_pick) .none kV__law_pick dc__law_pick pm__law_pick an__law_pick cd__law_pick ct__law_pick), sl__law_pick⟩) (c__law_pick : PySem.W.codeIn K cd__law_pick "_law_pick" = true) (k__law_pick : PySem.W.keepIn K (.ref f__law_pick) = true)
    (a__law_coder : PySem.W.nsIn K mainGlobals "_law_coder" = some (some (.ref f__law_coder))) (l__law_coder : K.lookup f__law_coder = some ⟨oc__law_coder, od__law_coder, .func (PySem.W.fnOf "_law_coder" "_law_coder" (defArgs s_law_coder) (defBody s_law_coder) (defScope s_law_coder) .none kV__law_coder dc__law_coder pm__law_coder an__law_coder cd__law_coder ct__law_coder), sl__law_coder⟩) (c__law_coder : PySem.W.codeIn K cd__law_coder "_law_coder" = true) (k__law_coder : PySem.W.keepIn K (.ref f__law_coder) = true)
    (a__law_ways : PySem.W.nsIn K mainGlobals "_law_ways" = some (some (.ref f__law_ways))) (l__law_ways : K.lookup f__law_ways = some ⟨oc__law_ways, od__law_ways, .func (PySem.W.fnOf "_law_ways" "_law_ways" (defArgs s_law_ways) (defBody s_law_ways) (defScope s_law_ways) .none kV__law_ways dc__law_ways pm__law_ways an__law_ways cd__law_ways ct__law_ways), sl__law_ways⟩) (c__law_ways : PySem.W.codeIn K cd__law_ways "_law_ways" = true) (k__law_ways : PySem.W.keepIn K (.ref f__law_ways) = true)
    (a__law_rings : PySem.W.nsIn K mainGlobals "_law_rings" = some (some (.ref f__law_rings))) (l__law_rings : K.lookup f__law_rings = some ⟨oc__law_rings, od__law_rings, .func (PySem.W.fnOf "_law_rings" "_law_rings" (defArgs s_law_rings) (defBody s_law_rings) (defScope s_law_rings) .none kV__law_rings dc__law_rings pm__law_rings an__law_rings cd__law_rings ct__law_rings), sl__law_rings⟩) (c__law_rings : PySem.W.codeIn K cd__law_rings "_law_rings" = true) (k__law_rings : PySem.W.keepIn K (.ref f__law_rings) = true)
    (a__law_others : PySem.W.nsIn K mainGlobals "_law_others" = some (some (.ref f__law_others))) (l__law_others : K.lookup f__law_others = some ⟨oc__law_others, od__law_others, .func (PySem.W.fnOf "_law_others" "_law_others" (defArgs s_law_others) (defBody s_law_others) (defScope s_law_others) .none kV__law_others dc__law_others pm__law_others an__law_others cd__law_others ct__law_others), sl__law_others⟩) (c__law_others : PySem.W.codeIn K cd__law_others "_law_others" = true) (k__law_others : PySem.W.keepIn K (.ref f__law_others) = true)
    (a_law : PySem.W.nsIn K mainGlobals "law" = some (some (.ref f_law))) (l_law : K.lookup f_law = some ⟨oc_law, od_law, .func (PySem.W.fnOf "law" "law" (defArgs s_law) (defBody s_law) (defScope s_law) .none kV_law dc_law pm_law an_law cd_law ct_law), sl_law⟩) (c_law : PySem.W.codeIn K cd_law "law" = true) (k_law : PySem.W.keepIn K (.ref f_law) = true)
    (z_isinstance : PySem.W.nsIn K mainGlobals "isinstance" = some none)
    (z_int : PySem.W.nsIn K mainGlobals "int" = some none)
    (z_bool : PySem.W.nsIn K mainGlobals "bool" = some none)
    (z_tuple : PySem.W.nsIn K mainGlobals "tuple" = some none)
    (z_len : PySem.W.nsIn K mainGlobals "len" = some none)
    (z_all : PySem.W.nsIn K mainGlobals "all" = some none)
    (z_enumerate : PySem.W.nsIn K mainGlobals "enumerate" = some none)
    (z_range : PySem.W.nsIn K mainGlobals "range" = some none)
    (z_list : PySem.W.nsIn K mainGlobals "list" = some none)
    (z_max : PySem.W.nsIn K mainGlobals "max" = some none)
    (z_min : PySem.W.nsIn K mainGlobals "min" = some none)
    (z_sorted : PySem.W.nsIn K mainGlobals "sorted" = some none)
    (z_repr : PySem.W.nsIn K mainGlobals "repr" = some none)
    (m_MOST_PLACES : PySem.W.nsIn K mainGlobals "MOST_PLACES" = some (some (.int 12 t_MOST_PLACES)))
    (gC_NoCoder : PySem.W.nsIn K mainGlobals "NoCoder" = some (some (.ref A_NoCoder)))
    (kC_NoCoder : PySem.W.keepIn K (.ref A_NoCoder) = true) (xC_NoCoder : PySem.W.excIn K A_NoCoder [.type "ValueError", .type "Exception", .type "BaseException", .type "object"] "ValueError.__new__" = true)
    (bC_NoCoder : PySem.W.subIn K (.ref A_NoCoder) (.type "BaseException") = some true) (tC_NoCoder : PySem.W.typeIn K (.ref A_NoCoder) = some (.type "type"))
    :
    ∃ fd : FuncData, (∀ (s : Shared) (v : Value), BindsTo s fd ⟨[v], []⟩ [("script", v)]) ∧ ∀ base : Heap, K.In base → base.Ns mainGlobals mg → FnG l.prog w K mg base CX0 12 fa fd ["script"] (spLaw K) := by
  have e := hfa.symm.trans (PySem.W.mg_of X G a_law)
  cases e
  have F_is_whole := fun_mk (st := s_is_whole) l_is_whole c_is_whole k_is_whole
  have F_is_within := fun_mk (st := s_is_within) l_is_within c_is_within k_is_within
  have F_is_coder := fun_mk (st := s_is_coder) l_is_coder c_is_coder k_is_coder
  have F_refuse_no_coder := fun_mk (st := s_refuse_no_coder) l_refuse_no_coder c_refuse_no_coder k_refuse_no_coder
  have F_last_goings := fun_mk (st := s_last_goings) l_last_goings c_last_goings k_last_goings
  have F_ring_from := fun_mk (st := s_ring_from) l_ring_from c_ring_from k_ring_from
  have F_ring := fun_mk (st := s_ring) l_ring c_ring k_ring
  have F_is_ring := fun_mk (st := s_is_ring) l_is_ring c_is_ring k_is_ring
  have F_in_round := fun_mk (st := s_in_round) l_in_round c_in_round k_in_round
  have F__law_bag := fun_mk (st := s_law_bag) l__law_bag c__law_bag k__law_bag
  have F__law_pick := fun_mk (st := s_law_pick) l__law_pick c__law_pick k__law_pick
  have F__law_coder := fun_mk (st := s_law_coder) l__law_coder c__law_coder k__law_coder
  have F__law_ways := fun_mk (st := s_law_ways) l__law_ways c__law_ways k__law_ways
  have F__law_rings := fun_mk (st := s_law_rings) l__law_rings c__law_rings k__law_rings
  have F__law_others := fun_mk (st := s_law_others) l__law_others c__law_others k__law_others
  have F_law := fun_mk (st := s_law) l_law c_law k_law
  have b_is_whole := F_is_whole.binds (ps := ["thing"]) fun _ _ _ _ _ _ us hl => match us, hl with | [_], _ => rfl
  have b_is_within := F_is_within.binds (ps := ["thing", "least", "most"]) fun _ _ _ _ _ _ us hl => match us, hl with | [_, _, _], _ => rfl
  have b_is_coder := F_is_coder.binds (ps := ["thing"]) fun _ _ _ _ _ _ us hl => match us, hl with | [_], _ => rfl
  have b_refuse_no_coder := F_refuse_no_coder.binds (ps := ["coder"]) fun _ _ _ _ _ _ us hl => match us, hl with | [_], _ => rfl
  have b_last_goings := F_last_goings.binds (ps := ["coder"]) fun _ _ _ _ _ _ us hl => match us, hl with | [_], _ => rfl
  have b_ring_from := F_ring_from.binds (ps := ["coder", "least"]) fun _ _ _ _ _ _ us hl => match us, hl with | [_, _], _ => rfl
  have b_ring := F_ring.binds (ps := ["coder"]) fun _ _ _ _ _ _ us hl => match us, hl with | [_], _ => rfl
  have b_is_ring := F_is_ring.binds (ps := ["coder", "thing"]) fun _ _ _ _ _ _ us hl => match us, hl with | [_, _], _ => rfl
  have b_in_round := F_in_round.binds (ps := ["coder"]) fun _ _ _ _ _ _ us hl => match us, hl with | [_], _ => rfl
  have b__law_bag := F__law_bag.binds (ps := ["cell"]) fun _ _ _ _ _ _ us hl => match us, hl with | [_], _ => rfl
  have b__law_pick := F__law_pick.binds (ps := ["bag", "many"]) fun _ _ _ _ _ _ us hl => match us, hl with | [_, _], _ => rfl
  have b__law_coder := F__law_coder.binds (ps := ["bag", "most"]) fun _ _ _ _ _ _ us hl => match us, hl with | [_, _], _ => rfl
  have b__law_ways := F__law_ways.binds (ps := ["coder"]) fun _ _ _ _ _ _ us hl => match us, hl with | [_], _ => rfl
  have b__law_rings := F__law_rings.binds (ps := ["coder"]) fun _ _ _ _ _ _ us hl => match us, hl with | [_], _ => rfl
  have b__law_others := F__law_others.binds (ps := ["bag", "coder", "rings"]) fun _ _ _ _ _ _ us hl => match us, hl with | [_, _, _], _ => rfl
  have g_is_whole := PySem.W.mg_of X G a_is_whole
  have g_is_within := PySem.W.mg_of X G a_is_within
  have g_is_coder := PySem.W.mg_of X G a_is_coder
  have g_refuse_no_coder := PySem.W.mg_of X G a_refuse_no_coder
  have g_last_goings := PySem.W.mg_of X G a_last_goings
  have g_ring_from := PySem.W.mg_of X G a_ring_from
  have g_ring := PySem.W.mg_of X G a_ring
  have g_is_ring := PySem.W.mg_of X G a_is_ring
  have g_in_round := PySem.W.mg_of X G a_in_round
  have g__law_bag := PySem.W.mg_of X G a__law_bag
  have g__law_pick := PySem.W.mg_of X G a__law_pick
  have g__law_coder := PySem.W.mg_of X G a__law_coder
  have g__law_ways := PySem.W.mg_of X G a__law_ways
  have g__law_rings := PySem.W.mg_of X G a__law_rings
  have g__law_others := PySem.W.mg_of X G a__law_others
  have g_law := PySem.W.mg_of X G a_law
  have w_isinstance := PySem.W.mg_none_of X G z_isinstance
  have w_int := PySem.W.mg_none_of X G z_int
  have w_bool := PySem.W.mg_none_of X G z_bool
  have w_tuple := PySem.W.mg_none_of X G z_tuple
  have w_len := PySem.W.mg_none_of X G z_len
  have w_all := PySem.W.mg_none_of X G z_all
  have w_enumerate := PySem.W.mg_none_of X G z_enumerate
  have w_range := PySem.W.mg_none_of X G z_range
  have w_list := PySem.W.mg_none_of X G z_list
  have w_max := PySem.W.mg_none_of X G z_max
  have w_min := PySem.W.mg_none_of X G z_min
  have w_sorted := PySem.W.mg_none_of X G z_sorted
  have w_repr := PySem.W.mg_none_of X G z_repr
  have h_MOST_PLACES := PySem.W.mg_of X G m_MOST_PLACES
  have hC_NoCoder := PySem.W.mg_of X G gC_NoCoder
  have TE_NoCoder : ErrC K mg "NoCoder" A_NoCoder := ⟨hC_NoCoder, kC_NoCoder, xC_NoCoder, bC_NoCoder, tC_NoCoder⟩
  refine ⟨PySem.W.fnOf "law" "law" (defArgs s_law) (defBody s_law) (defScope s_law) .none kV_law dc_law pm_law an_law cd_law ct_law, fun s v => .of_eq rfl, fun base _ _ => ?_⟩
  have E_is_whole := mkCal (P := l.prog) (w := w) (base := base) F_is_whole g_is_whole b_is_whole (ok_whole F_is_whole w_isinstance w_int w_bool)
  have E_is_within := mkCal (P := l.prog) (w := w) (base := base) F_is_within g_is_within b_is_within (ok_within F_is_within E_is_whole)
  have E_is_coder := mkCal (P := l.prog) (w := w) (base := base) F_is_coder g_is_coder b_is_coder (ok_isCoder F_is_coder E_is_whole E_is_within w_isinstance w_tuple w_len w_all h_MOST_PLACES)
  have E_refuse_no_coder := mkCalX (P := l.prog) (w := w) (base := base) F_refuse_no_coder g_refuse_no_coder b_refuse_no_coder (ok_refCoder F_refuse_no_coder E_is_coder TE_NoCoder h_MOST_PLACES)
  have E_last_goings := mkCal (P := l.prog) (w := w) (base := base) F_last_goings g_last_goings b_last_goings (ok_last F_last_goings w_len w_enumerate)
  have E_ring_from := mkCal (P := l.prog) (w := w) (base := base) F_ring_from g_ring_from b_ring_from (ok_ringFrom F_ring_from E_last_goings)
  have E_ring := mkCalX (P := l.prog) (w := w) (base := base) F_ring g_ring b_ring (ok_ring F_ring E_refuse_no_coder E_ring_from w_range w_len)
  have E_is_ring := mkCalX (P := l.prog) (w := w) (base := base) F_is_ring g_is_ring b_is_ring (ok_isRing F_is_ring E_refuse_no_coder E_is_within E_ring_from w_isinstance w_list w_len w_all)
  have E_in_round := mkCalX (P := l.prog) (w := w) (base := base) F_in_round g_in_round b_in_round (ok_inRound F_in_round E_ring)
  have E__law_bag : C8.Cal l.prog w K mg base 1 "_law_bag" spBag [] := mkCal (P := l.prog) (w := w) (base := base) F__law_bag g__law_bag b__law_bag (ok_bag F__law_bag w_max )
  have E__law_pick : C8.Cal l.prog w K mg base 1 "_law_pick" spPick [] := mkCal (P := l.prog) (w := w) (base := base) F__law_pick g__law_pick b__law_pick (ok_pick F__law_pick )
  have E__law_coder := mkCal (P := l.prog) (w := w) (base := base) F__law_coder g__law_coder b__law_coder (ok_lcoder F__law_coder E__law_pick w_range w_tuple)
  have E__law_ways := mkCal (P := l.prog) (w := w) (base := base) F__law_ways g__law_ways b__law_ways (ok_ways F__law_ways w_len w_enumerate)
  have E__law_rings := mkCal (P := l.prog) (w := w) (base := base) F__law_rings g__law_rings b__law_rings (ok_rings F__law_rings E__law_ways w_len w_range w_min)
  have E__law_others := mkCal (P := l.prog) (w := w) (base := base) F__law_others g__law_others b__law_others (ok_others F__law_others E__law_ways E__law_pick w_len w_range w_tuple w_list w_sorted)
  exact ok_law F_law ⟨E__law_bag, E__law_pick, E__law_coder, E__law_rings, E__law_others, E_ring, E_is_ring, E_in_round, w_range, w_len, w_repr, w_tuple, w_min⟩
end Lk
end
open PySem PySem.W PyProof.Rows
set_option maxRecDepth 100000 in
set_option maxHeartbeats 0 in
theorem PySem.Challenge.cw_looplearn_k09_rings_holds : PySem.Challenge.rw_looplearn_k09_rings.Holds := by
  w_on; o_law; k_head; (case hw => w_witness2)
  k_fill
  refine Lk.walkG (l := PySem.Challenge.rw_looplearn_k09_rings) (n := 63) (k := 12) (x := "script") (sp := fun w => Lk.spLaw _) rfl (by decide) rfl ⟨rfl, by decide, by decide⟩ (fun w h Y => PySem.W.kIn_of Y) ?F (fun _ _ a ns hl hS => ⟨a, ns, rfl, hS, hl, fun _ => rfl⟩)
  case F =>
    intro w mg fa h KX G hmg
    refine' Lk.all_mk KX G hmg ?a_is_whole ?l_is_whole ?c_is_whole ?k_is_whole ?a_is_within ?l_is_within ?c_is_within ?k_is_within ?a_is_coder ?l_is_coder ?c_is_coder ?k_is_coder ?a_refuse_no_coder ?l_refuse_no_coder ?c_refuse_no_coder ?k_refuse_no_coder ?a_last_goings ?l_last_goings ?c_last_goings ?k_last_goings ?a_ring_from ?l_ring_from ?c_ring_from ?k_ring_from ?a_ring ?l_ring ?c_ring ?k_ring ?a_is_ring ?l_is_ring ?c_is_ring ?k_is_ring ?a_in_round ?l_in_round ?c_in_round ?k_in_round ?a__law_bag ?l__law_bag ?c__law_bag ?k__law_bag ?a__law_pick ?l__law_pick ?c__law_pick ?k__law_pick ?a__law_coder ?l__law_coder ?c__law_coder ?k__law_coder ?a__law_ways ?l__law_ways ?c__law_ways ?k__law_ways ?a__law_rings ?l__law_rings ?c__law_rings ?k__law_rings ?a__law_others ?l__law_others ?c__law_others ?k__law_others ?a_law ?l_law ?c_law ?k_law ?z_isinstance ?z_int ?z_bool ?z_tuple ?z_len ?z_all ?z_enumerate ?z_range ?z_list ?z_max ?z_min ?z_sorted ?z_repr ?m_MOST_PLACES ?gC_NoCoder ?kC_NoCoder ?xC_NoCoder ?bC_NoCoder ?tC_NoCoder
    (case a_is_whole => k_is)
    (case l_is_whole => k_is)
    (case c_is_whole => k_is)
    (case k_is_whole => k_is)
    (case a_is_within => k_is)
    (case l_is_within => k_is)
    (case c_is_within => k_is)
    (case k_is_within => k_is)
    (case a_is_coder => k_is)
    (case l_is_coder => k_is)
    (case c_is_coder => k_is)
    (case k_is_coder => k_is)
    (case a_refuse_no_coder => k_is)
    (case l_refuse_no_coder => k_is)
    (case c_refuse_no_coder => k_is)
    (case k_refuse_no_coder => k_is)
    (case a_last_goings => k_is)
    (case l_last_goings => k_is)
    (case c_last_goings => k_is)
    (case k_last_goings => k_is)
    (case a_ring_from => k_is)
    (case l_ring_from => k_is)
    (case c_ring_from => k_is)
    (case k_ring_from => k_is)
    (case a_ring => k_is)
    (case l_ring => k_is)
    (case c_ring => k_is)
    (case k_ring => k_is)
    (case a_is_ring => k_is)
    (case l_is_ring => k_is)
    (case c_is_ring => k_is)
    (case k_is_ring => k_is)
    (case a_in_round => k_is)
    (case l_in_round => k_is)
    (case c_in_round => k_is)
    (case k_in_round => k_is)
    (case a__law_bag => k_is)
    (case l__law_bag => k_is)
    (case c__law_bag => k_is)
    (case k__law_bag => k_is)
    (case a__law_pick => k_is)
    (case l__law_pick => k_is)
    (case c__law_pick => k_is)
    (case k__law_pick => k_is)
    (case a__law_coder => k_is)
    (case l__law_coder => k_is)
    (case c__law_coder => k_is)
    (case k__law_coder => k_is)
    (case a__law_ways => k_is)
    (case l__law_ways => k_is)
    (case c__law_ways => k_is)
    (case k__law_ways => k_is)
    (case a__law_rings => k_is)
    (case l__law_rings => k_is)
    (case c__law_rings => k_is)
    (case k__law_rings => k_is)
    (case a__law_others => k_is)
    (case l__law_others => k_is)
    (case c__law_others => k_is)
    (case k__law_others => k_is)
    (case a_law => k_is)
    (case l_law => k_is)
    (case c_law => k_is)
    (case k_law => k_is)
    (case z_isinstance => k_is)
    (case z_int => k_is)
    (case z_bool => k_is)
    (case z_tuple => k_is)
    (case z_len => k_is)
    (case z_all => k_is)
    (case z_enumerate => k_is)
    (case z_range => k_is)
    (case z_list => k_is)
    (case z_max => k_is)
    (case z_min => k_is)
    (case z_sorted => k_is)
    (case z_repr => k_is)
    (case m_MOST_PLACES => k_is)
    (case gC_NoCoder => k_is)
    (case kC_NoCoder => k_is)
    (case xC_NoCoder => k_exc)
    (case bC_NoCoder => k_is)
    (case tC_NoCoder => k_is)
